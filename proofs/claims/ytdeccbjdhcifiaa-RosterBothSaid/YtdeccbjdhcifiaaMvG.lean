/-
  The same operations in another order: what is ahead, and the heads.
  The roster hangs on the set alone: the same nodes in another order have the same roster; nodes that neither admit nor remove turn nothing.
  GraphShuffled: the law, walked.
  RosterStill: the law, walked.
  RosterShuffled: the law, walked.
  RosterAllows, the program's parts: isRight, wasThere.
  RosterAllows, the program: allowed, Allowed.
  RosterAllows, the program: Allowed, To.
  RosterBoth: the law, walked.
  RosterBoth: the law, walked.
-/
import Derived.Test.YtdeccbjdhcifiaaMvF
import Derived.Test.YtdeccbjdhcifiaaMvE
namespace Go.Proofs.Ytdeccbjdhcifiaa
open Go Go.RowKit
set_option linter.unusedSimpArgs false
set_option linter.unusedVariables false
set_option maxRecDepth 100000
set_option maxHeartbeats 4000000
section
theorem nd_push {m : List NodeD} {x : NodeD} {a : Nat} (h : a < m.length) : nd (m ++ [x]) a = nd m a := by
 unfold nd
 rw [List.getD_eq_getElem?_getD, List.getD_eq_getElem?_getD, List.getElem?_append_left h]
theorem nd_last (m : List NodeD) (x : NodeD) : nd (m ++ [x]) m.length = x := nd_eq (by rw [List.getElem?_append_right (Nat.le_refl _)]; simp)
theorem findN_eq_none {l : List NodeD} {n : Nat} {k : List Int} (h : ∀ a, a < n → (nd l a).id ≠ k) : findN l n k = none := by
 unfold findN
 rw [List.find?_eq_none]
 intro a ha
 have := h a (List.mem_range.1 ha)
 simpa using this
theorem stepB_congr {l m : List NodeD} {i : Nat} (h : ∀ a, a ≤ i → nd l a = nd m a) : stepB l i = stepB m i := by
 have h' : ∀ a, a < i → nd l a = nd m a := fun a ha => h a (by omega)
 unfold stepB
 rw [h i (Nat.le_refl _), pastL_congr h', turnB_congr h']
 have : (fun p => (findN l i p).isSome) = fun p => (findN m i p).isSome := by
  funext p
  rw [find_congr h']
 rw [this, find_congr h']
section
variable {l m : List NodeD}
theorem add_facts {id : List Int} {o : OpD} (h : addE m id o = 0) : rightG m = true ∧ rightO o = true ∧ findN m m.length id = none ∧ m.length ≠ 96 ∧ o.parents.all (fun p => (findN m m.length p).isSome) = true ∧ seqOk m o = true := by
 unfold addE at h
 split at h
 ·cases h
 rename_i h1
 split at h
 ·cases h
 rename_i h2
 split at h
 ·cases h
 rename_i h3
 split at h
 ·cases h
 rename_i h4
 split at h
 ·cases h
 rename_i h5
 split at h
 ·cases h
 rename_i h6
 exact ⟨eq_true_of_ne_false h1, eq_true_of_ne_false h2, by simpa using h3, h4, eq_true_of_ne_false h5, eq_true_of_ne_false h6⟩
theorem rightO_first {o : OpD} (h : rightO o = true) (hk : o.kind ≠ 1) : 0 < o.parents.length := by
 unfold rightO at h
 simp only [Bool.and_eq_true] at h
 have := h.2.2.2.1
 unfold placeB at this
 rw [if_neg hk] at this
 simp only [Bool.and_eq_true, decide_eq_true_eq] at this
 exact this.2.1
theorem add_turn {id : List Int} {o : OpD} (h : addE m id o = 0) : turnB m m.length o (pastL m m.length o.parents) = true := by
 obtain ⟨h1, h2, h3, h4, h5, h6⟩ := add_facts h
 unfold seqOk at h6
 simp only [Bool.and_eq_true, Bool.not_eq_true', Bool.and_eq_false_iff, decide_eq_true_eq, decide_eq_false_iff_not] at h6
 obtain ⟨h7, h8, h9⟩ := h6
 unfold turnB
 rw [(ahead_all m m.length o.parents o.author).1 h9, Bool.true_and, Bool.and_eq_true, decide_eq_true_eq]
 refine ⟨?_, by rw [← h9]; exact h8⟩
 rw [beq_iff_eq, decide_eq_decide]
 constructor
 ·intro hk
  rcases h7 with h7 | h7
  ·exact absurd hk h7
  ·omega
 ·intro hn
  refine Decidable.byContradiction fun hk => ?_
  have hp := rightO_first h2 hk
  rw [List.all_eq_true] at h5
  obtain ⟨p, hp⟩ := List.exists_mem_of_length_pos hp
  have := h5 p hp
  rw [hn, findN_zero] at this
  cases this
theorem add_rightG {id : List Int} {o : OpD} (h : addE m id o = 0) : rightG (m ++ [addD m id o]) = true := by
 obtain ⟨h1, h2, h3, h4, h5, h6⟩ := add_facts h
 have hl := rightG_len h1
 have ht := add_turn h
 have hc : ∀ a, a < m.length → nd (m ++ [addD m id o]) a = nd m a := fun a ha => nd_push ha
 unfold rightG
 rw [Bool.and_eq_true, decide_eq_true_eq, List.all_eq_true]
 refine ⟨by simp; omega, fun i hi => ?_⟩
 rw [List.mem_range, List.length_append] at hi
 rcases Nat.lt_or_ge i m.length with hil | hil
 ·rw [stepB_congr (fun a ha => hc a (by omega))]
  exact right_step h1 hil
 ·have : i = m.length := by simp at hi; omega
  subst this
  rw [step_iff, nd_last]
  have hps : (fun p => (findN (m ++ [addD m id o]) m.length p).isSome) = fun p => (findN m m.length p).isSome := by
   funext p
   rw [find_congr hc]
  have e1 : (addD m id o).op = o := rfl
  have e2 : (addD m id o).id = id := rfl
  have e3 : (addD m id o).past = pastL m m.length o.parents := rfl
  rw [e1, e2, e3, hps, find_congr hc, pastL_congr hc, turnB_congr hc]
  exact ⟨h5, h2, h3, rfl, ht⟩
theorem ids_inj (h : rightG l = true) {i j : Nat} (hi : i < l.length) (hj : j < l.length) (e : (nd l i).id = (nd l j).id) : i = j := by
 rcases Nat.lt_trichotomy i j with hlt | rfl | hlt
 ·exact absurd e (ids_ne h hlt hj)
 ·rfl
 ·exact absurd e.symm (ids_ne h hlt hi)
structure Sub (l m : List NodeD) : Prop where
 left : rightG l = true
 right : rightG m = true
 at_ : ∀ j, j < m.length → ∃ i, i < l.length ∧ (nd m j).id = (nd l i).id ∧ (nd m j).op = (nd l i).op
theorem Sub.op (h : Sub l m) {i j : Nat} (hi : i < l.length) (hj : j < m.length) (e : (nd m j).id = (nd l i).id) : (nd m j).op = (nd l i).op := by
 obtain ⟨i', h1, h2, h3⟩ := h.at_ j hj
 obtain rfl : i = i' := ids_inj h.left hi h1 (e.symm.trans h2)
 exact h3
theorem in_past (h : rightG l = true) {i k : Nat} (hi : i < l.length) : (k : Int) ∈ (nd l i).past ↔ ∃ p ∈ (nd l i).op.parents, ∃ a, findN l i p = some a ∧ (a = k ∨ (k : Int) ∈ (nd l a).past) := by
 rw [right_past h hi, mem_pastL, inB_iff]
 refine ⟨fun h => h.2, fun hh => ⟨?_, hh⟩⟩
 obtain ⟨p, hp, a, ha, hor⟩ := hh
 have hal := findN_lt ha
 rcases hor with rfl | hor
 ·exact hal
 ·obtain ⟨k', e, hk⟩ := past_bd h (by omega) hor
  omega
theorem Sub.past (h : Sub l m) : ∀ (j : Nat), j < m.length → ∀ (i j' i' : Nat), i < l.length → (nd m j).id = (nd l i).id → j' < m.length → i' < l.length → (nd m j').id = (nd l i').id → ((j' : Int) ∈ (nd m j).past ↔ (i' : Int) ∈ (nd l i).past) := by
 intro j
 induction j using Nat.strongRecOn with
 | ind j ih =>
  intro hj i j' i' hi e hj' hi' e'
  have hop := h.op hi hj e
  rw [in_past h.right hj, in_past h.left hi, hop]
  refine exists_congr fun p => and_congr_right fun hp => ?_
  obtain ⟨a, ha⟩ := right_par h.right hj (by rw [hop]; exact hp)
  obtain ⟨b, hb⟩ := right_par h.left hi hp
  have hal := findN_lt ha
  have hbl := findN_lt hb
  have hia := findN_id ha
  have hib := findN_id hb
  rw [ha, hb]
  have eab : (nd m a).id = (nd l b).id := hia.trans hib.symm
  simp only [Option.some.injEq, exists_eq_left']
  refine or_congr ?_ (ih a hal (by omega) b j' i' (by omega) eab hj' hi' e')
  constructor
  ·rintro rfl
   exact ids_inj h.left (by omega) hi' (eab.symm.trans e')
  ·rintro rfl
   exact ids_inj h.right (by omega) hj' (eab.trans e'.symm)
theorem Sub.closed (h : Sub l m) : ∀ (j : Nat), j < m.length → ∀ (i i' : Nat), i < l.length → (nd m j).id = (nd l i).id → (i' : Int) ∈ (nd l i).past → ∃ j', j' < m.length ∧ (nd m j').id = (nd l i').id := by
 intro j
 induction j using Nat.strongRecOn with
 | ind j ih =>
  intro hj i i' hi e hp
  have hop := h.op hi hj e
  rw [in_past h.left hi] at hp
  obtain ⟨p, hp, b, hb, hor⟩ := hp
  obtain ⟨a, ha⟩ := right_par h.right hj (by rw [hop]; exact hp)
  have hal := findN_lt ha
  have hbl := findN_lt hb
  have eab : (nd m a).id = (nd l b).id := (findN_id ha).trans (findN_id hb).symm
  rcases hor with rfl | hor
  ·exact ⟨a, by omega, eab⟩
  ·exact ih a hal (by omega) b i' (by omega) eab hor
theorem ids_nodup (h : rightG l = true) (n : Nat) (hn : n ≤ l.length) (p : Nat → Bool) : (((List.range n).filter p).map fun k => (nd l k).id).Nodup := by
 rw [List.Nodup, List.pairwise_map]
 refine List.Pairwise.imp_of_mem ?_ (List.Pairwise.filter _ List.pairwise_lt_range)
 intro i j hi hj hij
 exact ids_ne h hij (by have := List.mem_range.1 (List.mem_filter.1 hj).1; omega)
theorem mem_ids {n : Nat} {p : Nat → Bool} {k : List Int} : k ∈ ((List.range n).filter p).map (fun k => (nd l k).id) ↔ ∃ i, i < n ∧ p i = true ∧ (nd l i).id = k := by
 rw [List.mem_map]
 refine exists_congr fun i => ?_
 rw [List.mem_filter, List.mem_range]
 exact and_assoc
theorem filtT (n : Nat) : (List.range n).filter (fun _ => true) = List.range n := List.filter_eq_self.2 (fun _ _ => rfl)
theorem leastG {P : Nat → Prop} : ∀ n, (∃ i, i < n ∧ P i) → ∃ i, i < n ∧ P i ∧ ∀ j, j < i → ¬ P j := by
 intro n
 induction n with
 | zero => rintro ⟨i, hi, _⟩; omega
 | succ n ih =>
  rintro ⟨i, hi, hp⟩
  by_cases h : ∃ i, i < n ∧ P i
  ·obtain ⟨i, a, b, c⟩ := ih h
   exact ⟨i, by omega, b, c⟩
  ·refine ⟨i, hi, hp, fun j hj hpj => h ⟨j, by omega, hpj⟩⟩
theorem Sub.len (h : Sub l m) : m.length ≤ l.length := by
 have := List.Nodup.length_le_of_subset (l₂ := ((List.range l.length).filter fun _ => true).map fun k => (nd l k).id) (ids_nodup h.right m.length (Nat.le_refl _) (fun _ => true)) (fun k hk => by
  obtain ⟨j, hj, _, rfl⟩ := mem_ids.1 hk
  obtain ⟨i, hi, e, _⟩ := h.at_ j hj
  exact mem_ids.2 ⟨i, hi, rfl, e.symm⟩)
 simpa [filtT] using this
theorem Sub.more (h : Sub l m) (hlt : m.length < l.length) (h40 : l.length ≤ 90) : ∃ i, i < l.length ∧ addE m (nd l i).id (nd l i).op = 0 := by
 obtain ⟨i, hi, hno, hle⟩ : ∃ i, i < l.length ∧ (∀ j, j < m.length → (nd m j).id ≠ (nd l i).id) ∧ ∀ i', i' < i → ¬ (∀ j, j < m.length → (nd m j).id ≠ (nd l i').id) := by
  refine leastG l.length ?_
  refine Classical.byContradiction fun hall => ?_
  have := List.Nodup.length_le_of_subset (l₂ := ((List.range m.length).filter fun _ => true).map fun k => (nd m k).id) (ids_nodup h.left l.length (Nat.le_refl _) (fun _ => true)) (fun k hk => by
   obtain ⟨i, hi, _, rfl⟩ := mem_ids.1 hk
   refine Classical.byContradiction fun hn => hall ⟨i, hi, fun j hj e => hn (mem_ids.2 ⟨j, hj, rfl, e⟩)⟩)
  simp [filtT] at this
  omega
 have hthere : ∀ i', i' < i → ∃ j, j < m.length ∧ (nd m j).id = (nd l i').id := fun i' hi' => by
  refine Classical.byContradiction fun hn => hle i' hi' fun j hj e => hn ⟨j, hj, e⟩
 refine ⟨i, hi, ?_⟩
 have hturn := right_turn h.left hi
 unfold turnB at hturn
 simp only [Bool.and_eq_true, decide_eq_true_eq, beq_iff_eq, decide_eq_decide] at hturn
 obtain ⟨hk1, hau, hsq⟩ := hturn
 have f1 := h.right
 have f2 := right_op h.left hi
 have f3 : findN m m.length (nd l i).id = none := findN_eq_none hno
 have hpar : ∀ p ∈ (nd l i).op.parents, ∀ a, findN l i p = some a → ∃ j, j < m.length ∧ findN m m.length p = some j ∧ (nd m j).id = (nd l a).id := fun p hp a ha => by
  obtain ⟨j, hj, e⟩ := hthere a (findN_lt ha)
  have hid := findN_id ha
  refine ⟨j, hj, ?_, e⟩
  rw [← hid, ← e]
  exact find_self h.right hj (Nat.le_refl _)
 have f5 : (nd l i).op.parents.all (fun p => (findN m m.length p).isSome) = true := by
  rw [List.all_eq_true]
  intro p hp
  obtain ⟨a, ha⟩ := right_par h.left hi hp
  obtain ⟨j, hj, e, _⟩ := hpar p hp a ha
  rw [e]; rfl
 have hbefore : ∀ j, j < m.length → ∀ i', i' < l.length → (nd m j).id = (nd l i').id → (nd l i').op.author = (nd l i).op.author → i' < i := fun j hj i' hi' e ea => by
  refine Classical.byContradiction fun hge => ?_
  rcases Nat.eq_or_lt_of_le (Nat.le_of_not_lt hge) with rfl | hgt
  ·exact hno j hj e
  ·obtain ⟨j', hj', e'⟩ := h.closed j hj i' i hi' e (author_ahead h.left hgt hi' ea.symm)
   exact hno j' hj' e'
 have hall : autA m m.length (nd l i).op.author (pastL m m.length (nd l i).op.parents) = true := by
  unfold autA at hau ⊢
  rw [List.all_eq_true] at hau ⊢
  intro j hj
  rw [List.mem_range] at hj
  by_cases ea : (nd m j).op.author = (nd l i).op.author
  ·obtain ⟨i', hi', e, eo⟩ := h.at_ j hj
   have hlt' := hbefore j hj i' hi' e (by rw [← eo]; exact ea)
   have := hau i' (List.mem_range.2 hlt')
   rw [← eo] at this
   have hin : (i' : Int) ∈ (nd l i).past := by simpa [ea] using this
   rw [in_past h.left hi] at hin
   obtain ⟨p, hp, a, ha, hor⟩ := hin
   have hal := findN_lt ha
   obtain ⟨b, hb, hfb, eb⟩ := hpar p hp a ha
   have hinm : (j : Int) ∈ pastL m m.length (nd l i).op.parents := by
    rw [mem_pastL, inB_iff]
    refine ⟨hj, p, hp, b, hfb, ?_⟩
    rcases hor with rfl | hor
    ·exact .inl (ids_inj h.right hb hj (eb.trans e.symm))
    ·exact .inr ((h.past b hb a j i' (by omega) eb hj hi' e).2 hor)
   simp [hinm]
  ·have : ((nd m j).op.author == (nd l i).op.author) = false := by simpa using ea
   simp [this]
 have hcnt : autN m m.length (nd l i).op.author = autN l i (nd l i).op.author := by
  unfold autN
  have hp := (List.perm_ext_iff_of_nodup (ids_nodup h.right m.length (Nat.le_refl _) (fun a => (nd m a).op.author == (nd l i).op.author)) (ids_nodup h.left i (by omega) (fun a => (nd l a).op.author == (nd l i).op.author))).2 (fun k => by
   rw [mem_ids, mem_ids]
   constructor
   ·rintro ⟨j, hj, ea, rfl⟩
    obtain ⟨i', hi', e, eo⟩ := h.at_ j hj
    rw [beq_iff_eq] at ea
    have ea' : (nd l i').op.author = (nd l i).op.author := by rw [← eo]; exact ea
    exact ⟨i', hbefore j hj i' hi' e ea', by simp [ea'], e.symm⟩
   ·rintro ⟨i', hi', ea, rfl⟩
    obtain ⟨j, hj, e⟩ := hthere i' hi'
    have eo := h.op (by omega) hj e
    exact ⟨j, hj, by rw [eo]; exact ea, e⟩)
  have := hp.length_eq
  simpa using this
 have f6 : seqOk m (nd l i).op = true := by
  have hah := (ahead_all m m.length (nd l i).op.parents (nd l i).op.author).2 hall
  unfold seqOk
  rw [hah, hcnt]
  simp only [decide_true, Bool.and_true, Bool.and_eq_true, Bool.not_eq_true', Bool.and_eq_false_iff, decide_eq_false_iff_not, decide_eq_true_eq]
  refine ⟨?_, hsq⟩
  by_cases hm0 : 0 < m.length
  ·refine .inl fun hk => ?_
   have hi0 := hk1.1 hk
   have t0 := right_turn h.right hm0
   unfold turnB at t0
   simp only [Bool.and_eq_true, beq_iff_eq, decide_eq_decide] at t0
   have hk0 := t0.1.2 trivial
   obtain ⟨i', hi', e, eo⟩ := h.at_ 0 hm0
   have t1 := right_turn h.left hi'
   unfold turnB at t1
   simp only [Bool.and_eq_true, beq_iff_eq, decide_eq_decide] at t1
   have := t1.1.1 (by rw [← eo]; exact hk0)
   subst this hi0
   exact hno 0 hm0 e
  ·exact .inr hm0
 unfold addE
 rw [f1, f2, f3, f5, f6, if_neg (by simp), if_neg (by simp), if_neg (by simp), if_neg (by omega), if_neg (by simp), if_neg (by simp)]
theorem Sub.nil (h : rightG l = true) : Sub l [] := ⟨h, rfl, fun j hj => by simp at hj⟩
theorem Sub.push (h : Sub l m) {i : Nat} (hi : i < l.length) (h0 : addE m (nd l i).id (nd l i).op = 0) : Sub l (m ++ [addD m (nd l i).id (nd l i).op]) := by
 refine ⟨h.left, add_rightG h0, fun j hj => ?_⟩
 rcases Nat.lt_or_ge j m.length with hjl | hjl
 ·rw [nd_push hjl]
  exact h.at_ j hjl
 ·have : j = m.length := by simp at hj; omega
  subst this
  rw [nd_last]
  exact ⟨i, hi, rfl, rfl⟩
theorem Sub.all (h : Sub l m) (he : m.length = l.length) : ∀ i, i < l.length → ∃ j, j < m.length ∧ (nd m j).id = (nd l i).id := fun i hi => by
 refine Classical.byContradiction fun hn => ?_
 have := List.Nodup.length_le_of_subset (l₁ := (nd l i).id :: ((List.range m.length).filter fun _ => true).map fun k => (nd m k).id) (l₂ := ((List.range l.length).filter fun _ => true).map fun k => (nd l k).id) (by
  rw [List.nodup_cons]
  exact ⟨fun hm => hn (by obtain ⟨j, hj, _, e⟩ := mem_ids.1 hm; exact ⟨j, hj, e⟩), ids_nodup h.right m.length (Nat.le_refl _) _⟩) (fun k hk => by
  rcases List.mem_cons.1 hk with rfl | hk
  ·exact mem_ids.2 ⟨i, hi, rfl, rfl⟩
  ·obtain ⟨j, hj, _, rfl⟩ := mem_ids.1 hk
   obtain ⟨i', hi', e, _⟩ := h.at_ j hj
   exact mem_ids.2 ⟨i', hi', rfl, e.symm⟩)
 simp [filtT] at this
 omega
theorem aheadB_nat (h : rightG l = true) {a b : Nat} (ha : a < l.length) (hb : b < l.length) : aheadB l (a : Int) (b : Int) = decide ((a : Int) ∈ (nd l b).past) := by
 rw [Bool.eq_iff_iff, ahead_iff, decide_eq_true_eq]
 constructor
 ·rintro ⟨i, j, e1, e2, _, _, _, hh⟩
  obtain rfl : a = i := by omega
  obtain rfl : b = j := by omega
  exact hh
 ·intro hh
  exact ⟨a, b, rfl, rfl, ha, hb, h, hh⟩
theorem Sub.ahead (h : Sub l m) (he : m.length = l.length) {a b : Nat} (ha : a < l.length) (hb : b < l.length) : aheadB l (a : Int) (b : Int) = aheadB m (findI m m.length (nd l a).id) (findI m m.length (nd l b).id) := by
 obtain ⟨ja, hja, ea⟩ := h.all he a ha
 obtain ⟨jb, hjb, eb⟩ := h.all he b hb
 unfold findI
 rw [← ea, ← eb, find_self h.right hja (Nat.le_refl _), find_self h.right hjb (Nat.le_refl _)]
 show _ = aheadB m (ja : Int) (jb : Int)
 rw [aheadB_nat h.left ha hb, aheadB_nat h.right hja hjb]
 rw [Bool.eq_iff_iff, decide_eq_true_eq, decide_eq_true_eq]
 exact (h.past jb hjb b ja a hb eb hja ha ea).symm
end
end
section
section
variable {l m : List NodeD}
theorem rightG_takeO (h : rightG l = true) (k : Nat) : rightG (l.take k) = true := by
 have hl := rightG_len h
 unfold rightG
 rw [Bool.and_eq_true, decide_eq_true_eq, List.all_eq_true]
 refine ⟨by rw [List.length_take]; omega, fun i hi => ?_⟩
 rw [List.mem_range, List.length_take] at hi
 have hs := step_iff.1 (right_step h (i := i) (by omega))
 have hc : ∀ a, a < i → nd (l.take k) a = nd l a := fun a ha => nd_take (by omega)
 have hi2 : nd (l.take k) i = nd l i := nd_take (by omega)
 refine step_iff.2 ?_
 rw [hi2, find_congr hc, pastL_congr hc, turnB_congr hc]
 obtain ⟨h1, h2, h3, h4, h5⟩ := hs
 refine ⟨?_, h2, h3, h4, h5⟩
 rw [List.all_eq_true] at h1 ⊢
 intro p hp
 rw [find_congr hc]
 exact h1 p hp
theorem Sub.next (h : Sub l m) (hid : ∀ k, k < m.length → (nd m k).id = (nd l k).id) (hlt : m.length < l.length) (h40 : l.length ≤ 90) : addE m (nd l m.length).id (nd l m.length).op = 0 := by
 have hs : Sub (l.take (m.length + 1)) m := ⟨rightG_takeO h.left _, h.right, fun j hj => ⟨j, by rw [List.length_take]; omega, by rw [nd_take (by omega)]; exact hid j hj, by rw [nd_take (by omega)]; exact h.op (by omega) hj (hid j hj)⟩⟩
 obtain ⟨i, hi, h0⟩ := hs.more (by rw [List.length_take]; omega) (by rw [List.length_take]; omega)
 rw [List.length_take] at hi
 rw [nd_take (by omega)] at h0
 rcases Nat.lt_or_ge i m.length with hlt' | hge
 ·exact absurd (hid i hlt') (findN_none (add_facts h0).2.2.1 hlt')
 ·obtain rfl : i = m.length := by omega
  exact h0
def Sm (l m : List NodeD) (i j : Nat) : Prop := i < l.length ∧ j < m.length ∧ (nd m j).id = (nd l i).id
structure Cor (l m : List NodeD) (S T : List Int) : Prop where
 to : ∀ z ∈ S, ∃ i j : Nat, z = i ∧ Sm l m i j ∧ (j : Int) ∈ T
 fro : ∀ z ∈ T, ∃ i j : Nat, z = j ∧ Sm l m i j ∧ (i : Int) ∈ S
theorem Cor.any {S T : List Int} (h : Cor l m S T) (f g : Nat → Bool) (hfg : ∀ i j, Sm l m i j → (i : Int) ∈ S → (j : Int) ∈ T → f i = g j) : (S.any fun a => f a.toNat) = T.any fun a => g a.toNat := by
 rw [Bool.eq_iff_iff, List.any_eq_true, List.any_eq_true]
 constructor
 ·rintro ⟨z, hz, hf⟩
  obtain ⟨i, j, rfl, h1, h2⟩ := h.to z hz
  rw [Int.toNat_natCast] at hf
  exact ⟨j, h2, by rw [Int.toNat_natCast, ← hfg i j h1 hz h2]; exact hf⟩
 ·rintro ⟨z, hz, hf⟩
  obtain ⟨i, j, rfl, h1, h2⟩ := h.fro z hz
  rw [Int.toNat_natCast] at hf
  exact ⟨i, h2, by rw [Int.toNat_natCast, hfg i j h1 h2 hz]; exact hf⟩
theorem Cor.ros {S T : List Int} (h : Cor l m S T) (hs : Sub l m) {c d : List Bool} (hc : ∀ i j, Sm l m i j → (i : Int) ∈ S → c.getD i false = d.getD j false) (w : Int) : rosB l c S w = rosB m d T w := by
 have hrem : ∀ i j, Sm l m i j → (i : Int) ∈ S → ∀ v, remB l c i v = remB m d j v := fun i j e hi v => by
  unfold remB
  rw [hc i j e hi, hs.op e.1 e.2.1 e.2.2]
 have hah : ∀ a a' b b', Sm l m a a' → Sm l m b b' → ahB l a b = ahB m a' b' := fun a a' b b' ea eb => by
  unfold ahB
  rw [Bool.eq_iff_iff, decide_eq_true_eq, decide_eq_true_eq]
  exact (hs.past b' eb.2.1 b a' a eb.1 eb.2.2 ea.2.1 ea.1 ea.2.2).symm
 have hbes : ∀ a a', Sm l m a a' → besB l c S a = besB m d T a' := fun a a' ea => by
  unfold besB
  refine h.any (fun r => remB l c r (nd l a).op.author && (!ahB l r a && !ahB l a r)) (fun r => remB m d r (nd m a').op.author && (!ahB m r a' && !ahB m a' r)) fun i j e hi hj => ?_
  show (remB l c i (nd l a).op.author && (!ahB l i a && !ahB l a i)) = (remB m d j (nd m a').op.author && (!ahB m j a' && !ahB m a' j))
  rw [hrem i j e hi, hah i j a a' e ea, hah a a' i j ea e, hs.op ea.1 ea.2.1 ea.2.2]
 unfold rosB
 refine h.any (fun a => admB l c S a w && !(S.any fun r => remB l c r.toNat w && !ahB l r.toNat a)) (fun a => admB m d T a w && !(T.any fun r => remB m d r.toNat w && !ahB m r.toNat a)) fun a a' ea ha ha' => ?_
 show (admB l c S a w && !(S.any fun r => remB l c r.toNat w && !ahB l r.toNat a)) = (admB m d T a' w && !(T.any fun r => remB m d r.toNat w && !ahB m r.toNat a'))
 have h1 : (S.any fun r => remB l c r.toNat w && !ahB l r.toNat a) = T.any fun r => remB m d r.toNat w && !ahB m r.toNat a' := by
  refine h.any (fun r => remB l c r w && !ahB l r a) (fun r => remB m d r w && !ahB m r a') fun i j e hi hj => ?_
  show (remB l c i w && !ahB l i a) = (remB m d j w && !ahB m j a')
  rw [hrem i j e hi, hah i j a a' e ea]
 rw [h1]
 unfold admB
 rw [hc a a' ea ha, hbes a a' ea, hs.op ea.1 ea.2.1 ea.2.2]
theorem Sub.corPast (hs : Sub l m) {i j : Nat} (e : Sm l m i j) : Cor l m (nd l i).past (nd m j).past := by
 refine ⟨fun z hz => ?_, fun z hz => ?_⟩
 ·obtain ⟨k, rfl, hk⟩ := past_bd hs.left e.1 hz
  obtain ⟨j', hj', e'⟩ := hs.closed j e.2.1 i k e.1 e.2.2 hz
  exact ⟨k, j', rfl, ⟨by have := e.1; omega, hj', e'⟩, (hs.past j e.2.1 i j' k e.1 e.2.2 hj' (by have := e.1; omega) e').2 hz⟩
 ·obtain ⟨k, rfl, hk⟩ := past_bd hs.right e.2.1 hz
  have hkm : k < m.length := by have := e.2.1; omega
  obtain ⟨i', hi', e', _⟩ := hs.at_ k hkm
  exact ⟨i', k, rfl, ⟨hi', hkm, e'⟩, (hs.past j e.2.1 i k i' e.1 e.2.2 hkm hi' e').1 hz⟩
theorem Sub.cnts (hs : Sub l m) : ∀ i j, Sm l m i j → (cntsB l).getD i false = (cntsB m).getD j false := by
 intro i
 induction i using Nat.strongRecOn with
 | ind i ih =>
  intro j e
  rw [cnts_at hs.left e.1, cnts_at hs.right e.2.1, hs.op e.1 e.2.1 e.2.2, (hs.corPast e).ros hs (c := cntsB l) (d := cntsB m) (fun a b eab ha => by
   obtain ⟨k, ek, hk⟩ := past_bd hs.left e.1 ha
   exact ih a (by omega) b eab)]
theorem Sub.allR (hs : Sub l m) (he : m.length = l.length) : allR l = allR m := by
 unfold Go.Proofs.Ytdeccbjdhcifiaa.allR
 rw [hs.left, hs.right, if_pos rfl, if_pos rfl]
 congr 1
 funext w
 refine Cor.ros ⟨fun z hz => ?_, fun z hz => ?_⟩ hs (fun i j e _ => hs.cnts i j e) w
 ·obtain ⟨h1, h2⟩ := mem_rgZ.1 hz
  obtain ⟨j, hj, e⟩ := hs.all he z.toNat (by omega)
  exact ⟨z.toNat, j, by omega, ⟨by omega, hj, e⟩, mem_rgZ.2 (by omega)⟩
 ·obtain ⟨h1, h2⟩ := mem_rgZ.1 hz
  obtain ⟨i, hi, e, _⟩ := hs.at_ z.toNat (by omega)
  exact ⟨i, z.toNat, by omega, ⟨hi, by omega, e⟩, mem_rgZ.2 (by omega)⟩
theorem ros_drop {c : List Bool} {S : List Int} {a : Nat} (hk : 4 ≤ (nd l a).op.kind) (w : Int) : rosB l c (S ++ [(a : Int)]) w = rosB l c S w := by
 have hrem : ∀ v, remB l c a v = false := fun v => by
  unfold remB
  rw [decide_eq_false (by omega), Bool.false_and]
 have hbes : ∀ b, besB l c (S ++ [(a : Int)]) b = besB l c S b := fun b => by
  unfold besB
  rw [List.any_append]
  simp [hrem]
 have hadm : ∀ b v, admB l c (S ++ [(a : Int)]) b v = admB l c S b v := fun b v => by
  unfold admB
  rw [hbes]
 have hno : ∀ T v, admB l c T a v = false := fun T v => by
  unfold admB
  rw [decide_eq_false (show ¬ (nd l a).op.kind = 1 by omega), decide_eq_false (show ¬ (nd l a).op.kind = 2 by omega)]
  simp
 unfold rosB
 rw [List.any_append]
 simp [hrem, hadm, hno]
theorem still {x : NodeD} (h : rightG (m ++ [x]) = true) (hm : rightG m = true) (hk : 4 ≤ x.op.kind) : allR (m ++ [x]) = allR m := by
 have hs : Sub (m ++ [x]) m := ⟨h, hm, fun j hj => ⟨j, by simp; omega, by rw [nd_push hj], by rw [nd_push hj]⟩⟩
 unfold allR
 rw [h, hm, if_pos rfl, if_pos rfl]
 congr 1
 funext w
 rw [List.length_append, List.length_singleton, rgZ_succ, ros_drop (by rw [nd_last]; exact hk)]
 refine Cor.ros ⟨fun z hz => ?_, fun z hz => ?_⟩ hs (fun i j e _ => hs.cnts i j e) w
 ·obtain ⟨h1, h2⟩ := mem_rgZ.1 hz
  exact ⟨z.toNat, z.toNat, by omega, ⟨by simp; omega, by omega, by rw [nd_push (by omega)]⟩, mem_rgZ.2 (by omega)⟩
 ·obtain ⟨h1, h2⟩ := mem_rgZ.1 hz
  exact ⟨z.toNat, z.toNat, by omega, ⟨by simp; omega, by omega, by rw [nd_push (by omega)]⟩, mem_rgZ.2 (by omega)⟩
end
end
section
structure Took (n : Nat) (H : AH) (l : List NodeD) (G : AH) (mv : Value) (m : List NodeD) : Prop where
 low : Low n H G
 nda : NdA G mv m
 sub : Sub l m
theorem Took.keep {n : Nat} {H G K : AH} {l m : List NodeD} {mv : Value} (h : Took n H l G mv m) (hk : Low G.length G K) : Took n H l K mv m :=
 ⟨⟨fun j hj => (hk.1 j (by have := h.low.2; omega)).trans (h.low.1 j hj), by have := h.low.2; have := hk.2; omega⟩, h.nda.lowG hk, h.sub⟩
end
section
def lsV (n : Nat) : Value := .agg #[.func (.func 119) #[] #[.pointer (some ⟨n, 0, none⟩)]]
def wasB (l : List NodeD) (a : Nat) (w : Int) : Bool := (decide ((nd l a).op.kind = 1) || decide ((nd l a).op.kind = 2)) && decide (w ∈ (nd l a).op.who)
theorem addE_nil (id : List Int) (o : OpD) : addE [] id o = 1 ↔ rightO o = false := by
 unfold addE
 have h1 : rightG [] = true := rfl
 rw [h1, if_neg (by simp)]
 cases rightO o with
 | false => simp
 | true =>
  rw [if_neg (by simp)]
  constructor
  ·intro h
   exfalso
   revert h
   split
   ·decide
   ·split
    ·decide
    ·split
     ·decide
     ·split <;> decide
  ·intro h; cases h
theorem build_key0 : xbuild Try.prog 38 [] = some (.agg (iv .u8 (List.replicate 32 0)).toArray) := by kernel_rfl
theorem key0_ok : Key32 (List.replicate 32 0) := ⟨rfl, fun z hz => by rw [List.eq_of_mem_replicate hz]; simp⟩
attribute [local simp] wb_bool wb_undef with_lit XL_nil XL_cons XLc_val XLc_call step1_eq stepW_t stepW_f stepC_n stepC_s stepX_s stepX_n stepN_s calleeX oneV xop_eq xopR_s xopR_n wantedA_eq wantedG_n wantedG_s plain1_int plain1_bool plain1_string bits_i64 bits_u64 bits_u32 bits_u16 bits_u8 xeqA xagg xcmp xarr allK_iv num_iv calleeOf xread xeff xbin xint xnil xun xstr xload xconv xpart xfield xfieldAddr xindexAddr xindex bnd asInt? xslice xlen xmin xmax xbuild xfill xappend xapp2 xappstr xappmk xcap xcopy xcells eval_tmp eval_const put_at put_none fr0_at cells_agg cells_int cells_bool cells_string cells_ptr cells_slice notTuple tab iv_all hget_app hget_app0 hget_cons0 hget_cons set_app set_app0 setR setR_one QL_nil QL_cons QLc_val stepQ_t stepQ_f stepQC_n stepQC_s stepQX_s SL_nil SL_cons SLc_val stepS_t stepS_f ltT ltF leT leF eqT eqF ltTn ltFn leTn leFn eqTn eqFn beqT beqF bneT bneF wi64 wu64 wu32 wu16 wu8 tmodP tdivP hgetL hgetNe hgetEq setL nums_def nums_len Nat.succ_le_of_lt List.getElem?_cons_zero List.getElem?_cons_succ Option.getD_some Int.toNat_add Int.toNat_mul agM okM agB agI agS agP agL agA okB okI okS okP okSl okA
theorem listedX_ac {γ : Nat → Option Nat} {nro : Nat} {H : AH} {lv : Value} {L : List Int} (hL : InV H lv L) (hm : L.length ≤ maxLen) (hnro : nro ≤ H.length) : AC Try.prog nro γ 71 #[lv] H (fun v' H' => v' = lsV H.length ∧ Low H.length H H' ∧ hget H' H.length = some ⟨[lv], 23, none⟩) := by
 have v1 := hL.acc.nt
 have v2 := hL.acc.cs
 refine ac_of_aw Try.func71 rfl Try.ntmps71 Try.results71 (by simp) ?_
 refine aw_seq ?_
 (refine aw_ops (by kernel_rfl) (fun K hK => ?_); simp (disch := first | omega | (simp only [lnS]; try omega)) [-getElem?_pos, -getElem?_neg, -notTuple, v1, v2]; refine hK _ _ ?_; clear hK K)
 refine aw_seq ?_
 (refine aw_ops (by kernel_rfl) (fun K hK => ?_); simp (disch := first | omega | (simp only [lnS]; try omega)) [-getElem?_pos, -getElem?_neg, -notTuple, v1, v2, pl_nilF, nt_fn, cs_fn]; refine hK _ _ ?_; clear hK K)
 (refine aw_ret ?_; simp (disch := first | omega | (simp only [lnS]; try omega)) [-getElem?_pos, -getElem?_neg, thenQ_ret, scopeQ_ret, inBlockQ_ret, RQ, resL, resV])
 exact ⟨rfl, Low.push (Nat.le_refl _) _⟩
theorem ls_fun {γ : Nat → Option Nat} {K : AH} {lv : Value} {L : List Int} {p : Nat} (hp : hget K p = some ⟨[lv], 23, none⟩) (hL : InV K lv L) (hm : L.length ≤ maxLen) : Fun1 γ K 119 #[.pointer (some ⟨p, 0, none⟩)] fun z => decide (z ∈ L) :=
 ⟨l1f_callable, fun G z hg => listed1_rc ((hg.1 _ (hget_lt hp)).trans hp) (hL.lowG hg) hm z⟩
theorem isRight_ac {γ : Nat → Option Nat} {nro : Nat} {H : AH} {us : List Value} {o : OpD} {pv wv bv : Value} (hO : OpC H us o pv wv bv) (hw : o.Wf) (hnro : nro ≤ H.length) : AC Try.prog nro γ 116 #[.agg us.toArray] H (fun v' H' => Low H.length H H' ∧ v' = .bool (rightO o)) := by
 have hul := hO.len
 have hset : ∀ Z : List Value, Z.length = 71 → setR Z 0 us = us := fun Z hZ => setR_all _ _ (by omega)
 have htu : us.take 71 = us := List.take_of_length_le (by omega)
 have hp0 : plain1 (.slice none 0 0) = true := rfl
 have k0 := build_key0
 have hivl : (iv .u8 (List.replicate 32 0)).length = 32 := by rw [iv_length, List.length_replicate]
 refine ac_of_aw Try.func116 rfl Try.ntmps116 Try.results116 (by simp) ?_
 refine aw_seq ?_
 (refine aw_ops (by kernel_rfl) (fun K hK => ?_); simp (disch := first | omega | (simp only [lnS]; try omega)) [-getElem?_pos, -getElem?_neg, hul, nt_aggG, hp0, all_zl, hset, htu]; refine hK _ _ ?_; clear hK K)
 obtain ⟨lw, b1⟩ := boxed (H := H) us 41
 obtain ⟨n, hn⟩ : ∃ n, n = H.length := ⟨_, rfl⟩
 rw [← hn] at b1 ⊢
 generalize H ++ [some ⟨us, 41, none⟩] = G at *
 have hle := lw.2
 have hadd := (add_rc (γ := γ) (nil_nda G) key0_ok (hO.low lw.1) hw).thaw (nro := nro) addQ_thaw
 refine aw_seq ?_
 refine aw_ops (by kernel_rfl) (fun K hK => ?_)
 simp (disch := first | omega | (simp only [lnS]; try omega)) [-getElem?_pos, -getElem?_neg, b1, hul, htu, -xbuild, k0, hivl, nt_aggG, nt_slG]
 refine ⟨by kernel_rfl, hadd.mono ?_⟩
 rintro v G2 ⟨low2, sv, rfl, h⟩
 have hsv : notTuple sv = true ∧ sv.cells = #[sv] := by
  rcases h with ⟨_, h⟩ | ⟨_, rfl⟩
  ·exact h.sh
  ·exact ⟨rfl, rfl⟩
 obtain ⟨s1, s2⟩ := hsv
 have ha := addE_nil (List.replicate 32 0) o
 generalize addE [] (List.replicate 32 0) o = z at *
 simp (disch := first | omega | (simp only [lnS]; try omega)) [-getElem?_pos, -getElem?_neg, -notTuple, s1, s2, nt_intG]
 refine hK _ _ ?_; clear hK K
 refine aw_seq ?_
 cases hr : rightO o with
 | false =>
  obtain rfl := ha.2 hr
  (refine aw_ops (by kernel_rfl) (fun K hK => ?_); simp (disch := first | omega | (simp only [lnS]; try omega)) [-getElem?_pos, -getElem?_neg]; refine hK _ _ ?_; clear hK K)
  (refine aw_ret ?_; simp (disch := first | omega | (simp only [lnS]; try omega)) [-getElem?_pos, -getElem?_neg, thenQ_ret, scopeQ_ret, inBlockQ_ret, RQ, resL, resV, hr])
  exact hn ▸ lw.both low2
 | true =>
  have hz : ¬ z = 1 := fun e => by rw [ha.1 e] at hr; cases hr
  have hzb : (z == 1) = false := by simp [hz]
  (refine aw_ops (by kernel_rfl) (fun K hK => ?_); simp (disch := first | omega | (simp only [lnS]; try omega)) [-getElem?_pos, -getElem?_neg, hz, hzb]; refine hK _ _ ?_; clear hK K)
  (refine aw_ret ?_; simp (disch := first | omega | (simp only [lnS]; try omega)) [-getElem?_pos, -getElem?_neg, thenQ_ret, scopeQ_ret, inBlockQ_ret, RQ, resL, resV, hr, hz, hzb])
  exact hn ▸ lw.both low2
theorem was1_rc {γ : Nat → Option Nat} {H : AH} {nv : Value} {l : List NodeD} {p1 p2 : Nat} {w : Int} (hN : NdA H nv l) (h1 : hget H p1 = some ⟨[nv], 22, none⟩) (h2 : hget H p2 = some ⟨[.int .i64 w], 3, none⟩) {a : Nat} (ha : a < l.length) :
  AC Try.prog H.length γ 147 #[.int .i64 (a : Nat), .pointer (some ⟨p1, 0, none⟩), .pointer (some ⟨p2, 0, none⟩)] H (fun v' _ => v' = .bool (wasB l a w)) := by
 have hnt := hN.nt
 have hvc := hN.cs
 obtain ⟨j, q, bb, u7, pv, wv, bv, hx, hb, hq, hcut, hu7, hO, hW⟩ := hN.op_at (Low.refl (Nat.le_refl _)) ha
 have hset : ∀ Z : List Value, Z.length = 71 → setR Z 0 u7 = u7 := fun Z hZ => setR_all _ _ (by omega)
 have hp0 : plain1 (.slice none 0 0) = true := rfl
 refine ac_of_aw Try.func147 rfl Try.ntmps147 Try.results147 (by simp) ?_
 refine aw_seq ?_
 (refine aw_ops (by kernel_rfl) (fun K hK => ?_); simp (disch := first | omega | (simp only [lnS]; try omega)) [-getElem?_pos, -getElem?_neg]; refine hK _ _ ?_; clear hK K)
 refine aw_seq ?_
 (refine aw_ops (by kernel_rfl) (fun K hK => ?_); simp (disch := first | omega | (simp only [lnS]; try omega)) [-getElem?_pos, -getElem?_neg, h1, -notTuple, hnt, hvc, nt_intG, nt_aggG, -xindexAddr, hx, hb, hcut, hu7, hp0, all_zl, hset]; refine hK _ _ ?_; clear hK K)
 obtain ⟨lw2, b7⟩ := boxed (H := H) u7 41
 obtain ⟨m, hm⟩ : ∃ m, m = H.length := ⟨_, rfl⟩
 have g2 := hget_lt h2
 have h2 := (lw2.1 _ g2).trans h2
 have hO := hO.low lw2.1
 have hmp : p2 < m := by omega
 rw [← hm] at b7 ⊢
 generalize H ++ [some ⟨u7, 41, none⟩] = G2 at *
 have hle := lw2.2
 have o3 := hO.c3
 have o4 := hO.c4
 have w1 := hO.who.acc.nt
 have w2 := hO.who.acc.cs
 have hli := listedX_ac (γ := γ) (nro := m) hO.who hW.wlen (by omega)
 have hd : wasB l a w = ((decide ((nd l a).op.kind = 1) || decide ((nd l a).op.kind = 2)) && decide (w ∈ (nd l a).op.who)) := rfl
 rw [hd]
 have hwl := hW.wlen
 have hwho := hO.who
 generalize (nd l a).op = op at *
 clear hO hW hd
 have hgm := hget_lt b7
 have hg2 := hget_lt h2
 refine aw_seq ?_
 refine aw_cut (fun α _ => α 4 = .bool ((decide (op.kind = 1) || decide (op.kind = 2)) && decide (w ∈ op.who)) ∧ True) ?_ ?_
 ·by_cases hno : ¬ op.kind = 1 ∧ ¬ op.kind = 2
  ·obtain ⟨k1, k2⟩ := hno
   have k1b : (op.kind == 1) = false := by simp [k1]
   have k2b : (op.kind == 2) = false := by simp [k2]
   (refine aw_plan [] [] [0, 1, 2, 3, 4, 5, 6, 7, 8, 9, 10, 11, 12, 13, 14, 15, 16] 17 0 (by kernel_rfl) (by kernel_rfl) (by kernel_rfl) (fun K hK => ?_)); simp only [sel, List.getElem?_cons_succ, List.getElem?_cons_zero, List.drop_succ_cons, List.drop_zero]; simp (disch := first | omega | (simp only [lnS]; try omega)) [-getElem?_pos, -getElem?_neg, b7, o3, hu7, k1, k1b, k2, k2b, PL_nil, plainB_lit, PL_cons, PLc_val, PLc_new, stepP_t, stepP_f, stepPC_n, stepPC_s, stepPX_s, stepPX_n, stepPV_n, stepPV_s, stepPA_t, stepPA_c, stepPA_l, stepPN_s, allocOp, reloc_sl, reloc_ptr, List.map_cons, List.map_nil, List.nil_append, List.append_assoc, List.cons_append, Nat.add_assoc]
   refine hK _ _ ?_; clear hK K
   exact ⟨by (first | (simp [put_at, put_none, fr0_at, k1, k2]; done) | rfl), trivial⟩
  have hyes : (decide (op.kind = 1) || decide (op.kind = 2)) = true := by
   by_cases e : op.kind = 1
   ·simp [e]
   ·by_cases e2 : op.kind = 2
    ·simp [e2]
    ·exact absurd ⟨e, e2⟩ hno
  rw [hyes, Bool.true_and]
  obtain ⟨Φ, e0, e1, e2, eS⟩ : ∃ Φ : Nat → AH → Prop, (∀ A, Φ 0 A ↔ A = G2) ∧ (∀ A, Φ 1 A ↔ (Low G2.length G2 A ∧ hget A G2.length = some ⟨[wv], 23, none⟩)) ∧ (∀ A, Φ 2 A ↔ (Low G2.length G2 A ∧ hget A G2.length = some ⟨[wv], 23, none⟩)) ∧ (∀ s A, Φ s A → Low G2.length G2 A) := by
   refine ⟨fun s A => match s with
    | 0 => A = G2
    | 1 => Low G2.length G2 A ∧ hget A G2.length = some ⟨[wv], 23, none⟩
    | _ => Low G2.length G2 A ∧ hget A G2.length = some ⟨[wv], 23, none⟩, fun _ => Iff.rfl, fun _ => Iff.rfl, fun _ => Iff.rfl, fun s A h =>
   match s, h with
   | 0, h => by cases h; exact Low.refl (Nat.le_refl _)
   | 1, h => h.1
   | s + 2, h => h.1⟩
  have hlv : lsV G2.length = .agg #[.func (.func 119) #[] #[.pointer (some ⟨G2.length, 0, none⟩)]] := rfl
  refine aw_chain (fun j => j == m || j == p2) Φ (by kernel_rfl) (by kernel_rfl) (by kernel_rfl) (fun s A h j hj => by
   have e : j = m ∨ j = p2 := by simpa using hj
   rcases e with rfl | rfl
   ·exact (eS s A h).1 _ hgm
   ·exact (eS s A h).1 _ hg2) ((e0 _).2 rfl) (fun K hK => ?_)
  have hkc : ∃ b : Bool, (op.kind == 1) = b ∧ (b = false → op.kind = 2) := ⟨op.kind == 1, rfl, fun h => by
   have h1 : ¬ op.kind = 1 := by simpa using h
   refine Classical.byContradiction fun h2 => hno ⟨h1, h2⟩⟩
  by_cases k1 : op.kind = 1
  ·have k1b : (op.kind == 1) = true := by simp [k1]
   simp (disch := first | omega | (simp only [lnS]; try omega)) [-getElem?_pos, -getElem?_neg, b7, h2, o3, o4, hu7, k1, k1b, -notTuple, w1, w2, nt_intG, nt_boolG, nt_slG, nt_ptrG, nt_aggG, CL_nil, CL_cons, CLc_val, CLc_skip, memS, inS, inSp, isCallH, isCallU, isCallF, calleeH_f, calleeH_t, effF]
   refine CLc_call (v := lsV G2.length) (by kernel_rfl) (fun A hA => ?_) ?_
   ·obtain rfl := (e0 _).1 hA
    exact hli.mono fun v' A' h => ⟨h.1, (e1 _).2 h.2⟩
   try simp (disch := first | omega | (simp only [lnS]; try omega)) [-getElem?_pos, -getElem?_neg, b7, h2, hlv, -notTuple, nt_fn, cs_fn, nt_intG, nt_slG, nt_ptrG, nt_aggG, CL_nil, CL_cons, CLc_val, CLc_skip, memS, inS, inSp, isCallH, isCallU, isCallF, calleeH_f, calleeH_t, effF]
   refine CLc_call (v := .bool (decide (w ∈ op.who))) (by kernel_rfl) (fun A hA => ?_) ?_
   ·have hA2 := (e1 _).1 hA
    exact ac_of_rc ((ls_fun (γ := γ) hA2.2 (hwho.lowG hA2.1) hwl).2 A w (Low.refl (Nat.le_refl _))) (by simp [pv_iv, pv_int, pv_bool, pv_string, pv_tup2, pv_tup3, iv_plain, p2_int, p2_bool, p2_string]) ⟨rfl, (e2 _).2 hA2⟩
   try simp (disch := first | omega | (simp only [lnS]; try omega)) [-getElem?_pos, -getElem?_neg, CL_nil, CL_cons, CLc_val, CLc_skip, memS, inS, inSp, isCallH, isCallU, isCallF, calleeH_f, calleeH_t, effF]
   intro A hA
   refine hK _ _ ?_; clear hK K
   exact ⟨by (first | (simp [put_at, put_none, fr0_at]; done) | rfl), trivial⟩
  ·have k1b : (op.kind == 1) = false := by simp [k1]
   have k2 : op.kind = 2 := by
    refine Classical.byContradiction fun h2 => hno ⟨k1, h2⟩
   have k2b : (op.kind == 2) = true := by simp [k2]
   simp (disch := first | omega | (simp only [lnS]; try omega)) [-getElem?_pos, -getElem?_neg, b7, h2, o3, o4, hu7, k1, k1b, k2, k2b, -notTuple, w1, w2, nt_intG, nt_boolG, nt_slG, nt_ptrG, nt_aggG, CL_nil, CL_cons, CLc_val, CLc_skip, memS, inS, inSp, isCallH, isCallU, isCallF, calleeH_f, calleeH_t, effF]
   refine CLc_call (v := lsV G2.length) (by kernel_rfl) (fun A hA => ?_) ?_
   ·obtain rfl := (e0 _).1 hA
    exact hli.mono fun v' A' h => ⟨h.1, (e1 _).2 h.2⟩
   try simp (disch := first | omega | (simp only [lnS]; try omega)) [-getElem?_pos, -getElem?_neg, b7, h2, hlv, -notTuple, nt_fn, cs_fn, nt_intG, nt_slG, nt_ptrG, nt_aggG, CL_nil, CL_cons, CLc_val, CLc_skip, memS, inS, inSp, isCallH, isCallU, isCallF, calleeH_f, calleeH_t, effF]
   refine CLc_call (v := .bool (decide (w ∈ op.who))) (by kernel_rfl) (fun A hA => ?_) ?_
   ·have hA2 := (e1 _).1 hA
    exact ac_of_rc ((ls_fun (γ := γ) hA2.2 (hwho.lowG hA2.1) hwl).2 A w (Low.refl (Nat.le_refl _))) (by simp [pv_iv, pv_int, pv_bool, pv_string, pv_tup2, pv_tup3, iv_plain, p2_int, p2_bool, p2_string]) ⟨rfl, (e2 _).2 hA2⟩
   try simp (disch := first | omega | (simp only [lnS]; try omega)) [-getElem?_pos, -getElem?_neg, CL_nil, CL_cons, CLc_val, CLc_skip, memS, inS, inSp, isCallH, isCallU, isCallF, calleeH_f, calleeH_t, effF]
   intro A hA
   refine hK _ _ ?_; clear hK K
   exact ⟨by (first | (simp [put_at, put_none, fr0_at]; done) | rfl), trivial⟩
 rintro α _ ⟨q4, _⟩
 (refine aw_ret ?_; simp (disch := first | omega | (simp only [lnS]; try omega)) [-getElem?_pos, -getElem?_neg, thenQ_ret, scopeQ_ret, inBlockQ_ret, RQ, resL, resV, q4])
theorem was1_callable : callable Try.prog 147 = true := by kernel_rfl
theorem was_rc {γ : Nat → Option Nat} {H : AH} {nv sv : Value} {l : List NodeD} {S : List Int} (hN : NdA H nv l) (hS : InV H sv S) (hSl : S.length ≤ maxLen) (hP : Plc l S) (w : Int) : AC Try.prog H.length γ 118 #[nv, sv, .int .i64 w] H (fun v' _ => v' = .bool (S.any fun a => wasB l a.toNat w)) := by
 have hnt := hN.nt
 have hvc := hN.cs
 have s1 := hS.acc.nt
 have s2 := hS.acc.cs
 refine ac_of_aw Try.func118 rfl Try.ntmps118 Try.results118 (by simp) ?_
 refine aw_seq ?_
 (refine aw_ops (by kernel_rfl) (fun K hK => ?_); simp (disch := first | omega | (simp only [lnS]; try omega)) [-getElem?_pos, -getElem?_neg, -notTuple, hnt, hvc, nt_intG]; refine hK _ _ ?_; clear hK K)
 obtain ⟨n, hn⟩ : ∃ n, n = H.length := ⟨_, rfl⟩
 obtain ⟨G, hG⟩ : ∃ G : AH, G = H ++ [some ⟨[nv], 22, none⟩, some ⟨[.int .i64 w], 3, none⟩] := ⟨_, rfl⟩
 have b1 : hget G n = some ⟨[nv], 22, none⟩ := by rw [hG, hn, hget_app0]; rfl
 have b2 : hget G (n + 1) = some ⟨[.int .i64 w], 3, none⟩ := by rw [hG, hn, hget_app]; rfl
 have lw : Low H.length H G := by rw [hG]; exact Low.push (Nat.le_refl _) _
 rw [← hG, ← hn]
 clear hG
 have k2 := anyI_rc (γ := γ) (hS.lowG lw) hSl (f := 147) (cs := #[.pointer (some ⟨n, 0, none⟩), .pointer (some ⟨n + 1, 0, none⟩)]) (P := fun a => wasB l a.toNat w) was1_callable (fun G4 z h4 hz => by
  obtain ⟨r, rfl, hr⟩ := hP z hz
  exact was1_rc (γ := γ) (hN.lowG (lw.both h4)) ((h4.1 _ (hget_lt b1)).trans b1) ((h4.1 _ (hget_lt b2)).trans b2) hr)
 generalize (S.any fun a => wasB l a.toNat w) = E at *
 refine aw_seq ?_
 refine aw_ops (by kernel_rfl) (fun K hK => ?_)
 simp (disch := first | omega | (simp only [lnS]; try omega)) [-getElem?_pos, -getElem?_neg, -notTuple, s1, s2, nt_fn, cs_fn]
 refine ⟨by kernel_rfl, ac_of_rc k2 (by simp [pv_iv, pv_int, pv_bool, pv_string, pv_tup2, pv_tup3, iv_plain, p2_int, p2_bool, p2_string]) ?_⟩
 try simp (disch := first | omega | (simp only [lnS]; try omega)) [-getElem?_pos, -getElem?_neg]
 refine hK _ _ ?_; clear hK K
 (refine aw_ret ?_; simp (disch := first | omega | (simp only [lnS]; try omega)) [-getElem?_pos, -getElem?_neg, thenQ_ret, scopeQ_ret, inBlockQ_ret, RQ, resL, resV])
end
section
def behR (l : List NodeD) (o : OpD) : Int → Bool := rosB l (cntsB l) (pastL l l.length o.parents)
def alwE (l : List NodeD) (o : OpD) : Int :=
 if (rightG l && rightO o) = false then 1 else if o.parents.all (fun p => (findN l l.length p).isSome) = false then 14 else if o.kind = 1 then 0 else if behR l o o.author = false then 16 else if o.kind = 2 ∧ (pastL l l.length o.parents).any (fun a => wasB l a.toNat (o.who.getD 0 0)) = true then 13 else if o.kind = 3 ∧ behR l o (o.who.getD 0 0) = false then 22 else 0
def alwR (l : List NodeD) (o : OpD) : Int → Bool := if alwE l o = 0 ∧ o.kind ≠ 1 then behR l o else fun _ => false
def AlwQ (γ : Nat → Option Nat) (l : List NodeD) (o : OpD) (H : AH) (v' : Value) (H' : AH) : Prop :=
 Low H.length H H' ∧ ∃ f cs, v' = .tuple #[.agg #[.func (.func f) #[] cs], .int .i64 (alwE l o)] ∧ Fun1 γ H' f cs (alwR l o)
theorem plc_past (l : List NodeD) (ps : List (List Int)) : Plc l (pastL l l.length ps) := fun z hz => by
 obtain ⟨k, e, hk, _⟩ := pastL_bd hz
 exact ⟨k, e, hk⟩
attribute [local simp] wb_bool wb_undef with_lit XL_nil XL_cons XLc_val XLc_call step1_eq stepW_t stepW_f stepC_n stepC_s stepX_s stepX_n stepN_s calleeX oneV xop_eq xopR_s xopR_n wantedA_eq wantedG_n wantedG_s plain1_int plain1_bool plain1_string bits_i64 bits_u64 bits_u32 bits_u16 bits_u8 xeqA xagg xcmp xarr allK_iv num_iv calleeOf xread xeff xbin xint xnil xun xstr xload xconv xpart xfield xfieldAddr xindexAddr xindex bnd asInt? xslice xlen xmin xmax xbuild xfill xappend xapp2 xappstr xappmk xcap xcopy xcells eval_tmp eval_const put_at put_none fr0_at cells_agg cells_int cells_bool cells_string cells_ptr cells_slice notTuple tab iv_all hget_app hget_app0 hget_cons0 hget_cons set_app set_app0 setR setR_one QL_nil QL_cons QLc_val stepQ_t stepQ_f stepQC_n stepQC_s stepQX_s SL_nil SL_cons SLc_val stepS_t stepS_f ltT ltF leT leF eqT eqF ltTn ltFn leTn leFn eqTn eqFn beqT beqF bneT bneF wi64 wu64 wu32 wu16 wu8 tmodP tdivP hgetL hgetNe hgetEq setL nums_def nums_len Nat.succ_le_of_lt List.getElem?_cons_zero List.getElem?_cons_succ Option.getD_some Int.toNat_add Int.toNat_mul agM okM agB agI agS agP agL agA okB okI okS okP okSl okA
theorem vrosterX_ac {γ : Nat → Option Nat} {nro : Nat} {H : AH} {nv cv sv : Value} {l : List NodeD} {c : List Bool} {S : List Int} (hV : VwA H nv cv l c) (hS : InV H sv S) (hnro : nro ≤ H.length) :
  AC Try.prog nro γ 63 #[.agg #[nv, cv], sv] H (fun v' H' => v' = rosV H.length ∧ Low H.length H H' ∧ hget H' H.length = some ⟨[nv, cv], 95, none⟩ ∧ hget H' (H.length + 1) = some ⟨[sv], 23, none⟩) := by
 have s1 := hS.acc.nt
 have s2 := hS.acc.cs
 have n1 := hV.nodes.nt
 have n2 := hV.nodes.cs
 have c1 := hV.counts.nt
 have c2 := hV.counts.cs
 refine ac_of_aw Try.func63 rfl Try.ntmps63 Try.results63 (by simp) ?_
 refine aw_seq ?_
 (refine aw_ops (by kernel_rfl) (fun K hK => ?_); simp (disch := first | omega | (simp only [lnS]; try omega)) [-getElem?_pos, -getElem?_neg, -notTuple, s1, s2, n1, n2, c1, c2, nt_aggG]; refine hK _ _ ?_; clear hK K)
 refine aw_seq ?_
 (refine aw_ops (by kernel_rfl) (fun K hK => ?_); simp (disch := first | omega | (simp only [lnS]; try omega)) [-getElem?_pos, -getElem?_neg, -notTuple, pl_nilF, nt_fn, cs_fn, nt_aggG]; refine hK _ _ ?_; clear hK K)
 (refine aw_ret ?_; simp (disch := first | omega | (simp only [lnS]; try omega)) [-getElem?_pos, -getElem?_neg, thenQ_ret, scopeQ_ret, inBlockQ_ret, RQ, resL, resV])
 exact ⟨rfl, Low.push (Nat.le_refl _) _⟩
theorem ros_fun {γ : Nat → Option Nat} {K : AH} {nv cv sv : Value} {l : List NodeD} {c : List Bool} {S : List Int} {p : Nat} (h1 : hget K (p + 1) = some ⟨[sv], 23, none⟩) (h2 : hget K p = some ⟨[nv, cv], 95, none⟩) (hV : VwA K nv cv l c) (hS : InV K sv S) (hSl : S.length ≤ maxLen) (hP : Plc l S) : Fun1 γ K 105 #[.pointer (some ⟨p + 1, 0, none⟩), .pointer (some ⟨p, 0, none⟩)] (rosB l c S) :=
 ⟨ros1_callable, fun G z hg => ros1_rc (hV.low hg) (hS.lowG hg) hSl hP ((hg.1 _ (hget_lt h1)).trans h1) ((hg.1 _ (hget_lt h2)).trans h2) z⟩
theorem none_fun {γ : Nat → Option Nat} {K : AH} {p : Nat} (h : hget K p = some ⟨[.slice none 0 0], 23, none⟩) : Fun1 γ K 119 #[.pointer (some ⟨p, 0, none⟩)] fun _ => false := by
 have := ls_fun (γ := γ) (L := []) h (nil3 K).2.1 (by simp)
 have e : (fun z : Int => decide (z ∈ ([] : List Int))) = fun _ => false := by funext z; simp
 rwa [e] at this
theorem allowed_ac {γ : Nat → Option Nat} {nro : Nat} {H : AH} {nv : Value} {us : List Value} {l : List NodeD} {o : OpD} {pv wv bv : Value} (hN : NdA H nv l) (hO : OpC H us o pv wv bv) (hw : o.Wf) (hnro : nro ≤ H.length) : AC Try.prog nro γ 70 #[nv, .agg us.toArray] H (AlwQ γ l o H) := by
 have hnt := hN.nt
 have hvc := hN.cs
 have hul := hO.len
 have hset : ∀ Z : List Value, Z.length = 71 → setR Z 0 us = us := fun Z hZ => setR_all _ _ (by omega)
 have htu : us.take 71 = us := List.take_of_length_le (by omega)
 have hp0 : plain1 (.slice none 0 0) = true := rfl
 obtain ⟨n, hn⟩ : ∃ n, n = H.length := ⟨_, rfl⟩
 refine ac_of_aw Try.func70 rfl Try.ntmps70 Try.results70 (by simp) ?_
 refine aw_seq ?_
 (refine aw_ops (by kernel_rfl) (fun K hK => ?_); simp (disch := first | omega | (simp only [lnS]; try omega)) [-getElem?_pos, -getElem?_neg, -notTuple, hnt, hvc, hul, nt_aggG, hp0, all_zl, hset, htu, pl_nilF]; refine hK _ _ ?_; clear hK K)
 obtain ⟨G, hG⟩ : ∃ G : AH, G = H ++ [some ⟨us, 41, none⟩, some ⟨[.nilFunc], 93, none⟩] := ⟨_, rfl⟩
 have b3 : hget G n = some ⟨us, 41, none⟩ := by rw [hG, hn, hget_app0]; rfl
 have b4 : hget G (n + 1) = some ⟨[.nilFunc], 93, none⟩ := by rw [hG, hn, hget_app]; rfl
 have lw : Low n H G := by rw [hG, hn]; exact Low.push (Nat.le_refl _) _
 have hGl : G.length = n + 2 := by rw [hG, hn]; simp
 rw [← hG, ← hn]
 clear hG
 rw [← hn] at hnro
 refine aw_seq ?_
 refine aw_ops (by kernel_rfl) (fun K hK => ?_)
 simp (disch := first | omega | (simp only [lnS]; try omega)) [-getElem?_pos, -getElem?_neg, nt_slG]
 refine ⟨by kernel_rfl, (listedX_ac (γ := γ) (nro := nro) (nil3 G).2.1 (by simp) (by omega)).mono ?_⟩
 rintro v G1 ⟨rfl, lw1, b5⟩
 have hle1 := lw1.2
 have hlv : lsV G.length = .agg #[.func (.func 119) #[] #[.pointer (some ⟨n + 2, 0, none⟩)]] := by rw [← hGl]; rfl
 rw [hGl] at b5
 simp (disch := first | omega | (simp only [lnS]; try omega)) [-getElem?_pos, -getElem?_neg, hlv, nt_aggG, nt_fn, cs_fn, pl_nilF]
 refine hK _ _ ?_; clear hK K
 obtain ⟨fn, hfn⟩ : ∃ fn : Value, fn = .func (.func 119) #[] #[.pointer (some ⟨n + 2, 0, none⟩)] := ⟨_, rfl⟩
 have hf1 : notTuple fn = true := by rw [hfn]; rfl
 have hf2 : fn.cells = #[fn] := by rw [hfn]; rfl
 rw [← hfn]
 obtain ⟨lw2, b6⟩ := boxed (H := G1) [fn] 93
 obtain ⟨g6, hg6⟩ : ∃ g, g = G1.length := ⟨_, rfl⟩
 have lw12 := lw1.both lw2
 have hle2 := lw2.2
 have b3 := (lw12.1 _ (hget_lt b3)).trans b3
 have b4 := (lw12.1 _ (hget_lt b4)).trans b4
 have h56 := hget_lt b5
 have b5 := (lw2.1 _ h56).trans b5
 rw [← hg6] at b6 ⊢
 have low2 : Low n H (G1 ++ [some ⟨[fn], 93, none⟩]) := ⟨fun j hj => (lw12.1 j (by omega)).trans (lw.1 j hj), by have := lw12.2; omega⟩
 clear hlv lw1 lw12 lw2
 generalize G1 ++ [some ⟨[fn], 93, none⟩] = G2 at *
 have h6 := hget_lt b6
 have fin0 : ∀ (K : AH) (e : Int), Low n H K → hget K (n + 2) = some ⟨[.slice none 0 0], 23, none⟩ → alwE l o = e → (e ≠ 0 ∨ o.kind = 1) → AlwQ γ l o H (.tuple #[.agg #[fn], .int .i64 e]) K := fun K e hK h5 he hor => by
  refine ⟨hn ▸ hK, _, _, by rw [hfn, he], ?_⟩
  have hr : alwR l o = fun _ => false := by
   unfold alwR
   rw [he, if_neg (fun h => hor.elim (fun h' => h' h.1) (fun h' => h.2 h'))]
  rw [hr]
  exact none_fun h5
 have hO2 : OpC G2 us o pv wv bv := hO.low (fun j hj => low2.1 j (by omega))
 have gr := graph_right_rc (γ := γ) (hN.lowG (hn ▸ low2))
 have ir := isRight_ac (γ := γ) (nro := nro) hO2 hw (by omega)
 refine aw_seq ?_
 refine aw_seq ?_
 refine aw_cut (fun α G3 => α 18 = .bool (!(rightG l && rightO o)) ∧ α 0 = nv ∧ α 3 = .pointer (some ⟨n, 0, none⟩) ∧ α 4 = .pointer (some ⟨n + 1, 0, none⟩) ∧ α 6 = .pointer (some ⟨g6, 0, none⟩) ∧ Low G2.length G2 G3) ?_ ?_
 ·refine aw_ops (by kernel_rfl) (fun K hK => ?_)
  simp (disch := first | omega | (simp only [lnS]; try omega)) [-getElem?_pos, -getElem?_neg, -notTuple, hnt, hvc, nt_intG]
  refine ⟨by kernel_rfl, ac_of_rc gr (by simp [pv_iv, pv_int, pv_bool, pv_string, pv_tup2, pv_tup3, iv_plain, p2_int, p2_bool, p2_string]) ?_⟩
  cases h3 : rightG l with
  | false =>
   try simp (disch := first | omega | (simp only [lnS]; try omega)) [-getElem?_pos, -getElem?_neg]
   refine hK _ _ ?_; clear hK K
   exact ⟨by rw [h3]; (first | (simp [put_at, put_none, fr0_at]; done) | rfl), by (first | (simp [put_at, put_none, fr0_at]; done) | rfl), by (first | (simp [put_at, put_none, fr0_at]; done) | rfl), by (first | (simp [put_at, put_none, fr0_at]; done) | rfl), by (first | (simp [put_at, put_none, fr0_at]; done) | rfl), Low.refl (Nat.le_refl _)⟩
  | true =>
   simp (disch := first | omega | (simp only [lnS]; try omega)) [-getElem?_pos, -getElem?_neg, b3, hul, htu, nt_aggG, nt_intG]
   refine ⟨by kernel_rfl, ir.mono ?_⟩
   rintro v G3 ⟨lw3, rfl⟩
   try simp (disch := first | omega | (simp only [lnS]; try omega)) [-getElem?_pos, -getElem?_neg]
   refine hK _ _ ?_; clear hK K
   exact ⟨by rw [h3]; (first | (simp [put_at, put_none, fr0_at]; done) | rfl), by (first | (simp [put_at, put_none, fr0_at]; done) | rfl), by (first | (simp [put_at, put_none, fr0_at]; done) | rfl), by (first | (simp [put_at, put_none, fr0_at]; done) | rfl), by (first | (simp [put_at, put_none, fr0_at]; done) | rfl), lw3⟩
 rintro α G3 ⟨q18, q0, q3, q4, q6, lw3⟩
 have hle3 := lw3.2
 have b3 := (lw3.1 _ (hget_lt b3)).trans b3
 have b4 := (lw3.1 _ (hget_lt b4)).trans b4
 have b5 := (lw3.1 _ (hget_lt b5)).trans b5
 have b6 := (lw3.1 _ h6).trans b6
 have low3 : Low n H G3 := ⟨fun j hj => (lw3.1 j (by have := low2.2; omega)).trans (low2.1 j hj), by have := low2.2; omega⟩
 have h6 := hget_lt b6
 have hsetK : ∀ (K : AH) (x : Option Blk), Low n H K → hget K (n + 2) = some ⟨[.slice none 0 0], 23, none⟩ → Low n H (K.set (n + 1) x) ∧ hget (K.set (n + 1) x) (n + 2) = some ⟨[.slice none 0 0], 23, none⟩ := fun K x hl h => ⟨⟨fun j hj => (hget_set_ne (by omega)).trans (hl.1 j hj), by rw [List.length_set]; exact hl.2⟩, (hget_set_ne (by omega)).trans h⟩
 cases hb : (rightG l && rightO o) with
 | false =>
  rw [hb] at q18
  refine aw_t (by (first | (simp [eval_tmp, put_at, q18]; done) | (simp [eval_tmp, put_at, q18]; omega))) (by kernel_rfl) ?_
  refine aw_seq ?_
  (refine aw_ops (by kernel_rfl) (fun K hK => ?_); simp (disch := first | omega | (simp only [lnS]; try omega)) [-getElem?_pos, -getElem?_neg, q4, q6, b4, b6, hf1, hf2, nt_aggG, -notTuple]; refine hK _ _ ?_; clear hK K)
  (refine aw_ret ?_; simp (disch := first | omega | (simp only [lnS]; try omega)) [-getElem?_pos, -getElem?_neg, thenQ_ret, scopeQ_ret, inBlockQ_ret, RQ, resL, resV, q4, b4])
  obtain ⟨k1, k2⟩ := hsetK G3 (some ⟨[fn], 93, none⟩) low3 b5
  exact fin0 _ 1 k1 k2 (by unfold alwE; rw [hb, if_pos rfl]) (.inl (by decide))
 | true =>
 rw [hb] at q18
 refine aw_f (by (first | (simp [eval_tmp, put_at, q18]; done) | (simp [eval_tmp, put_at, q18]; omega))) (by kernel_rfl) ?_
 refine aw_skip ?_
 obtain ⟨h3, hro⟩ := Bool.and_eq_true_iff.1 hb
 have hO3 : OpC G3 us o pv wv bv := hO.low (fun j hj => low3.1 j (by omega))
 have o0 := hO.c0
 have o2 := hO.c2
 have o3 := hO.c3
 have o4 := hO.c4
 have hpar := hO3.parents.acc (fun k hk => (hw.parents k hk).1)
 have p1 := hpar.nt
 have p2 := hpar.cs
 have w1 := hO.who.acc.nt
 have w2 := hO.who.acc.cs
 have rp := (pastE_rc (γ := γ) (hN.lowG (hn ▸ low3)) hO3.parents (fun k hk => (hw.parents k hk).1) hw.plen).thaw (nro := nro) (fun v G' h => by
  rcases h with ⟨_, h, _⟩ | ⟨_, rfl, _⟩
  ·exact ⟨h.2, h.1⟩
  ·exact ⟨Nat.le_refl _, fun j hj => rfl⟩)
 refine aw_seq ?_
 refine aw_ops (by kernel_rfl) (fun K hK => ?_)
 simp (disch := first | omega | (simp only [lnS]; try omega)) [-getElem?_pos, -getElem?_neg, q0, q3, b3, o2, hul, -notTuple, hnt, hvc, p1, p2, nt_aggG, nt_intG]
 refine ⟨by kernel_rfl, rp.mono ?_⟩
 rintro v G4 (⟨_, lw4, ⟨hall, sv, F, rfl, hown, hF⟩ | ⟨hall, rfl⟩⟩ | ⟨hbad, _, _⟩)
 rotate_left
 ·have hle4 := lw4.2
  have b4 := (lw4.1 _ (hget_lt b4)).trans b4
  have b5 := (lw4.1 _ (hget_lt b5)).trans b5
  have b6 := (lw4.1 _ h6).trans b6
  have low4 : Low n H G4 := ⟨fun j hj => (lw4.1 j (by have := low3.2; omega)).trans (low3.1 j hj), by have := low3.2; omega⟩
  simp (disch := first | omega | (simp only [lnS]; try omega)) [-getElem?_pos, -getElem?_neg, nt_slG, nt_intG]
  refine hK _ _ ?_; clear hK K
  refine aw_seq ?_
  refine aw_seq ?_
  (refine aw_ops (by kernel_rfl) (fun K hK => ?_); simp (disch := first | omega | (simp only [lnS]; try omega)) [-getElem?_pos, -getElem?_neg]; refine hK _ _ ?_; clear hK K)
  refine aw_t (by (first | (simp [eval_tmp, put_at]; done) | (simp [eval_tmp, put_at]; omega))) (by kernel_rfl) ?_
  refine aw_seq ?_
  (refine aw_ops (by kernel_rfl) (fun K hK => ?_); simp (disch := first | omega | (simp only [lnS]; try omega)) [-getElem?_pos, -getElem?_neg, q4, q6, b4, b6, hf1, hf2, nt_aggG, nt_intG, -notTuple]; refine hK _ _ ?_; clear hK K)
  (refine aw_ret ?_; simp (disch := first | omega | (simp only [lnS]; try omega)) [-getElem?_pos, -getElem?_neg, thenQ_ret, scopeQ_ret, inBlockQ_ret, RQ, resL, resV, q4, b4])
  obtain ⟨k1, k2⟩ := hsetK G4 (some ⟨[fn], 93, none⟩) low4 b5
  exact fin0 _ 14 k1 k2 (by unfold alwE; rw [hb, if_neg (by simp), hall, if_pos rfl]) (.inl (by decide))
 ·rw [h3] at hbad; cases hbad
 obtain ⟨S, hS⟩ : ∃ S, S = pastL l l.length o.parents := ⟨_, rfl⟩
 rw [← hS] at hown
 have hSl : S.length ≤ maxLen := by
  have h1 := pastL_length l l.length o.parents
  have h2 := rightG_len h3
  rw [hS]; simp only [maxLen]; omega
 have hSP : Plc l S := hS ▸ plc_past l o.parents
 have hle4 := lw4.2
 have b3 := (lw4.1 _ (hget_lt b3)).trans b3
 have b4 := (lw4.1 _ (hget_lt b4)).trans b4
 have b5 := (lw4.1 _ (hget_lt b5)).trans b5
 have b6 := (lw4.1 _ h6).trans b6
 have low4 : Low n H G4 := ⟨fun j hj => (lw4.1 j (by have := low3.2; omega)).trans (low3.1 j hj), by have := low3.2; omega⟩
 have h6 := hget_lt b6
 obtain ⟨s1, s2⟩ := own_nt hown
 simp (disch := first | omega | (simp only [lnS]; try omega)) [-getElem?_pos, -getElem?_neg, -notTuple, s1, s2, nt_intG]
 refine hK _ _ ?_; clear hK K
 refine aw_seq ?_
 refine aw_seq ?_
 (refine aw_ops (by kernel_rfl) (fun K hK => ?_); simp (disch := first | omega | (simp only [lnS]; try omega)) [-getElem?_pos, -getElem?_neg]; refine hK _ _ ?_; clear hK K)
 refine aw_f (by (first | (simp [eval_tmp, put_at]; done) | (simp [eval_tmp, put_at]; omega))) (by kernel_rfl) ?_
 refine aw_skip ?_
 refine aw_seq ?_
 refine aw_ops (by kernel_rfl) (fun K hK => ?_)
 simp (disch := first | omega | (simp only [lnS]; try omega)) [-getElem?_pos, -getElem?_neg, q0, -notTuple, hnt, hvc, nt_intG]
 refine ⟨by kernel_rfl, (look2_ac (γ := γ) (nro := nro) (hN.lowG (hn ▸ low4)) h3 (by omega)).mono ?_⟩
 rintro v G5 ⟨lw5, rfl, c5⟩
 have hle5 := lw5.2
 have low5 : Low n H G5 := ⟨fun j hj => (lw5.1 j (by have := low4.2; omega)).trans (low4.1 j hj), by have := low4.2; omega⟩
 try simp (disch := first | omega | (simp only [lnS]; try omega)) [-getElem?_pos, -getElem?_neg, -notTuple, s1, s2, nt_aggG, nt_intG]
 refine ⟨by kernel_rfl, (vrosterX_ac (γ := γ) (nro := nro) (vw_at (hN.lowG (hn ▸ low5)) h3 c5) (own_inv (hown.low (fun j hj => lw5.1 j (hown.lt j hj)))) (by omega)).mono ?_⟩
 rintro v G6 ⟨rfl, lw6, d6, e6⟩
 have hle6 := lw6.2
 obtain ⟨p, hp⟩ : ∃ p, p = G5.length := ⟨_, rfl⟩
 obtain ⟨fr, hfr⟩ : ∃ fr : Value, fr = .func (.func 105) #[] #[.pointer (some ⟨p + 1, 0, none⟩), .pointer (some ⟨p, 0, none⟩)] := ⟨_, rfl⟩
 have hrv : rosV G5.length = .agg #[fr] := by rw [hfr, hp]; rfl
 have fr1 : notTuple fr = true := by rw [hfr]; rfl
 have fr2 : fr.cells = #[fr] := by rw [hfr]; rfl
 rw [← hp] at d6 e6
 rw [hrv]
 simp (disch := first | omega | (simp only [lnS]; try omega)) [-getElem?_pos, -getElem?_neg, fr1, fr2, -notTuple, nt_aggG, pl_nilF]
 refine hK _ _ ?_; clear hK K
 obtain ⟨lw7, b9⟩ := boxed (H := G6) [fr] 93
 obtain ⟨g9, hg9⟩ : ∃ g, g = G6.length := ⟨_, rfl⟩
 rw [← hg9] at b9 ⊢
 have hle7 := lw7.2
 have d6l := hget_lt d6
 have e6l := hget_lt e6
 have d6 := (lw7.1 _ d6l).trans d6
 have e6 := (lw7.1 _ e6l).trans e6
 have c5l := hget_lt c5
 have c5 := ((lw7.1 _ (by omega)).trans (lw6.1 _ c5l)).trans c5
 have hk7 : ∀ j, j < G4.length → hget (G6 ++ [some ⟨[fr], 93, none⟩]) j = hget G4 j := fun j hj => ((lw7.1 j (by omega)).trans (lw6.1 j (by omega))).trans (lw5.1 j hj)
 have b3 := (hk7 _ (hget_lt b3)).trans b3
 have b4 := (hk7 _ (hget_lt b4)).trans b4
 have b5 := (hk7 _ (hget_lt b5)).trans b5
 have b6 := (hk7 _ h6).trans b6
 have low7 : Low n H (G6 ++ [some ⟨[fr], 93, none⟩]) := ⟨fun j hj => (hk7 j (by have := low4.2; omega)).trans (low4.1 j hj), by have := low4.2; omega⟩
 have hown7 := hown.low (H' := G6 ++ [some ⟨[fr], 93, none⟩]) (fun j hj => hk7 j (hown.lt j hj))
 clear lw7 lw6 lw5 lw4 hk7
 generalize G6 ++ [some ⟨[fr], 93, none⟩] = G7 at *
 have h9 := hget_lt b9
 have rosK : ∀ K, Low n H K → (∀ j, n + 1 < j → hget K j = hget G7 j) → Fun1 γ K 105 #[.pointer (some ⟨p + 1, 0, none⟩), .pointer (some ⟨p, 0, none⟩)] (behR l o) := fun K hl hk => by
  have := ros_fun (γ := γ) ((hk (p + 1) (by omega)).trans e6) ((hk p (by omega)).trans d6) (vw_at (hN.lowG (hn ▸ hl)) h3 ((hk _ (by omega)).trans c5)) (own_inv (hown7.low (fun j hj => hk j (by have := hF j hj; omega)))) hSl hSP
  rw [hS] at this
  exact this
 have ros7 := rosK G7 low7 (fun j hj => rfl)
 have hO7 : OpC G7 us o pv wv bv := hO.low (fun j hj => low7.1 j (by omega))
 have k0 : alwE l o = if o.kind = 1 then 0 else if behR l o o.author = false then 16 else if o.kind = 2 ∧ S.any (fun a => wasB l a.toNat (o.who.getD 0 0)) = true then 13 else if o.kind = 3 ∧ behR l o (o.who.getD 0 0) = false then 22 else 0 := by
  unfold alwE
  rw [hb, if_neg (by simp), hall, if_neg (by simp), hS]
 obtain ⟨k1, k2⟩ := hsetK G7 (some ⟨[fn], 93, none⟩) low7 b5
 refine aw_seq ?_
 refine aw_block ?_
 refine aw_seq ?_
 by_cases e1 : o.kind = 1
 ·have e1b : (o.kind == 1) = true := by simp [e1]
  (refine aw_ops (by kernel_rfl) (fun K hK => ?_); simp (disch := first | omega | (simp only [lnS]; try omega)) [-getElem?_pos, -getElem?_neg, q3, b3, o3, hul, e1, e1b]; refine hK _ _ ?_; clear hK K)
  refine aw_t (by (first | (simp [eval_tmp, put_at]; done) | (simp [eval_tmp, put_at]; omega))) (by kernel_rfl) ?_
  refine aw_seq ?_
  (refine aw_ops (by kernel_rfl) (fun K hK => ?_); simp (disch := first | omega | (simp only [lnS]; try omega)) [-getElem?_pos, -getElem?_neg, q4, q6, b4, b6, hf1, hf2, nt_aggG, -notTuple]; refine hK _ _ ?_; clear hK K)
  (refine aw_ret ?_; simp (disch := first | omega | (simp only [lnS]; try omega)) [-getElem?_pos, -getElem?_neg, thenQ_ret, scopeQ_ret, inBlockQ_ret, RQ, resL, resV, q4, b4])
  exact fin0 _ 0 k1 k2 (by rw [k0, if_pos e1]) (.inr e1)
 have e1b : (o.kind == 1) = false := by simp [e1]
 rw [if_neg e1] at k0
 (refine aw_ops (by kernel_rfl) (fun K hK => ?_); simp (disch := first | omega | (simp only [lnS]; try omega)) [-getElem?_pos, -getElem?_neg, q3, b3, o3, hul, e1, e1b]; refine hK _ _ ?_; clear hK K)
 refine aw_f (by (first | (simp [eval_tmp, put_at]; done) | (simp [eval_tmp, put_at]; omega))) (by kernel_rfl) ?_
 refine aw_seq ?_
 refine aw_cut (fun α G8 => α 40 = .bool (!behR l o o.author) ∧ α 0 = nv ∧ α 3 = .pointer (some ⟨n, 0, none⟩) ∧ α 4 = .pointer (some ⟨n + 1, 0, none⟩) ∧ α 6 = .pointer (some ⟨g6, 0, none⟩) ∧ α 7 = sv ∧ α 9 = .pointer (some ⟨g9, 0, none⟩) ∧ G8 = G7) ?_ ?_
 ·refine aw_ops (by kernel_rfl) (fun K hK => ?_)
  simp (disch := first | omega | (simp only [lnS]; try omega)) [-getElem?_pos, -getElem?_neg, q3, b3, b9, o0, hul, fr1, fr2, hfr, -notTuple, nt_fn, cs_fn, nt_intG]
  refine ⟨ros7.1, ac_of_rc (ros7.2 G7 o.author (Low.refl (Nat.le_refl _))) (by simp [pv_iv, pv_int, pv_bool, pv_string, pv_tup2, pv_tup3, iv_plain, p2_int, p2_bool, p2_string]) ?_⟩
  try simp (disch := first | omega | (simp only [lnS]; try omega)) [-getElem?_pos, -getElem?_neg]
  refine hK _ _ ?_; clear hK K
  exact ⟨by (first | (simp [put_at, put_none, fr0_at]; done) | rfl), by (first | (simp [put_at, put_none, fr0_at, q0]; done) | rfl), by (first | (simp [put_at, put_none, fr0_at, q3]; done) | rfl), by (first | (simp [put_at, put_none, fr0_at, q4]; done) | rfl), by (first | (simp [put_at, put_none, fr0_at, q6]; done) | rfl), by (first | (simp [put_at, put_none, fr0_at]; done) | rfl), by (first | (simp [put_at, put_none, fr0_at]; done) | rfl), rfl⟩
 clear q0 q3 q4 q6
 rintro α G8 ⟨q40, q0, q3, q4, q6, q7, q9, rfl⟩
 cases hau : behR l o o.author with
 | false =>
  rw [hau] at q40
  refine aw_t (by (first | (simp [eval_tmp, put_at, q40]; done) | (simp [eval_tmp, put_at, q40]; omega))) (by kernel_rfl) ?_
  refine aw_seq ?_
  (refine aw_ops (by kernel_rfl) (fun K hK => ?_); simp (disch := first | omega | (simp only [lnS]; try omega)) [-getElem?_pos, -getElem?_neg, q4, q6, b4, b6, hf1, hf2, nt_aggG, -notTuple]; refine hK _ _ ?_; clear hK K)
  (refine aw_ret ?_; simp (disch := first | omega | (simp only [lnS]; try omega)) [-getElem?_pos, -getElem?_neg, thenQ_ret, scopeQ_ret, inBlockQ_ret, RQ, resL, resV, q4, b4])
  exact fin0 _ 16 k1 k2 (by rw [k0, hau, if_pos rfl]) (.inl (by decide))
 | true =>
 rw [hau] at q40
 rw [hau, if_neg (by simp)] at k0
 refine aw_f (by (first | (simp [eval_tmp, put_at, q40]; done) | (simp [eval_tmp, put_at, q40]; omega))) (by kernel_rfl) ?_
 have xl3 : xload Try.prog 3 (.pointer (some ⟨n, 3, none⟩)) G8 = some (.int .i64 o.kind) := by simp [xload, b3, o3]
 have xl4 : xload Try.prog 23 (.pointer (some ⟨n, 4, none⟩)) G8 = some wv := by simp [xload, b3, o4]
 have xl9 : xload Try.prog 91 (.pointer (some ⟨g9, 0, none⟩)) G8 = some fr := by simp [xload, b9]
 have hw0 : (o.kind = 2 ∨ o.kind = 3) → ∃ x q, o.who.getD 0 0 = x ∧ notTuple q = true ∧ xindexAddr Try.prog 23 wv (.int .i64 0) = some q ∧ xload Try.prog 3 q G8 = some (.int .i64 x) := fun hor => by
  obtain ⟨x, hx⟩ := rightO_who1 hro hor
  have hwho := hO7.who
  rw [hx] at hwho ⊢
  obtain ⟨q, y, y1, y2, y3, y4, y5⟩ := hwho.acc.at_ 0 (by simp)
  have y5 := y5 G8 (Low.refl (Nat.le_refl _))
  subst y4
  exact ⟨x, q, rfl, y1, y2, y5⟩
 refine aw_seq ?_
 refine aw_cut (fun α G9 => α 48 = .bool (decide (o.kind = 2) && S.any (fun a => wasB l a.toNat (o.who.getD 0 0))) ∧ α 3 = .pointer (some ⟨n, 0, none⟩) ∧ α 4 = .pointer (some ⟨n + 1, 0, none⟩) ∧ α 6 = .pointer (some ⟨g6, 0, none⟩) ∧ α 9 = .pointer (some ⟨g9, 0, none⟩) ∧ G9 = G8) ?_ ?_
 ·by_cases e2 : o.kind = 2
  ·have e2b : (o.kind == 2) = true := by simp [e2]
   obtain ⟨x, q, hx, y1, y2, y5⟩ := hw0 (.inl e2)
   rw [hx]
   have wr := was_rc (γ := γ) (hN.lowG (hn ▸ low7)) (own_inv hown7) hSl hSP x
   refine aw_ops (by kernel_rfl) (fun K hK => ?_)
   simp (disch := first | omega | (simp only [lnS]; try omega)) [-getElem?_pos, -getElem?_neg, q0, q3, q7, -xload, xl3, xl4, y5, -xindexAddr, y2, e2, e2b, -notTuple, hnt, hvc, s1, s2, w1, w2, y1, nt_intG, nt_ptrG]
   refine ⟨by kernel_rfl, ac_of_rc wr (by simp [pv_iv, pv_int, pv_bool, pv_string, pv_tup2, pv_tup3, iv_plain, p2_int, p2_bool, p2_string]) ?_⟩
   try simp (disch := first | omega | (simp only [lnS]; try omega)) [-getElem?_pos, -getElem?_neg]
   refine hK _ _ ?_; clear hK K
   exact ⟨by rw [decide_eq_true e2]; (first | (simp [put_at, put_none, fr0_at]; done) | rfl), by (first | (simp [put_at, put_none, fr0_at, q3]; done) | rfl), by (first | (simp [put_at, put_none, fr0_at, q4]; done) | rfl), by (first | (simp [put_at, put_none, fr0_at, q6]; done) | rfl), by (first | (simp [put_at, put_none, fr0_at, q9]; done) | rfl), rfl⟩
  ·have e2b : (o.kind == 2) = false := by simp [e2]
   (refine aw_ops (by kernel_rfl) (fun K hK => ?_); simp (disch := first | omega | (simp only [lnS]; try omega)) [-getElem?_pos, -getElem?_neg, q3, -xload, xl3, e2, e2b, -notTuple, nt_intG]; refine hK _ _ ?_; clear hK K)
   exact ⟨by rw [decide_eq_false e2]; (first | (simp [put_at, put_none, fr0_at]; done) | rfl), by (first | (simp [put_at, put_none, fr0_at, q3]; done) | rfl), by (first | (simp [put_at, put_none, fr0_at, q4]; done) | rfl), by (first | (simp [put_at, put_none, fr0_at, q6]; done) | rfl), by (first | (simp [put_at, put_none, fr0_at, q9]; done) | rfl), rfl⟩
 clear q0 q3 q4 q6 q7 q9 q40
 rintro α G9 ⟨q48, q3, q4, q6, q9, rfl⟩
 cases hwas : (decide (o.kind = 2) && S.any (fun a => wasB l a.toNat (o.who.getD 0 0))) with
 | true =>
  rw [hwas] at q48
  refine aw_t (by (first | (simp [eval_tmp, put_at, q48]; done) | (simp [eval_tmp, put_at, q48]; omega))) (by kernel_rfl) ?_
  refine aw_seq ?_
  (refine aw_ops (by kernel_rfl) (fun K hK => ?_); simp (disch := first | omega | (simp only [lnS]; try omega)) [-getElem?_pos, -getElem?_neg, q4, q6, b4, b6, hf1, hf2, nt_aggG, -notTuple]; refine hK _ _ ?_; clear hK K)
  (refine aw_ret ?_; simp (disch := first | omega | (simp only [lnS]; try omega)) [-getElem?_pos, -getElem?_neg, thenQ_ret, scopeQ_ret, inBlockQ_ret, RQ, resL, resV, q4, b4])
  rw [Bool.and_eq_true, decide_eq_true_eq] at hwas
  exact fin0 _ 13 k1 k2 (by rw [k0, if_pos hwas]) (.inl (by decide))
 | false =>
 rw [hwas] at q48
 have k0 : alwE l o = if o.kind = 3 ∧ behR l o (o.who.getD 0 0) = false then 22 else 0 := by
  rw [k0, if_neg]
  intro h
  rw [decide_eq_true h.1, h.2] at hwas
  cases hwas
 refine aw_f (by (first | (simp [eval_tmp, put_at, q48]; done) | (simp [eval_tmp, put_at, q48]; omega))) (by kernel_rfl) ?_
 refine aw_seq ?_
 refine aw_cut (fun α G10 => α 62 = .bool (decide (o.kind = 3) && !behR l o (o.who.getD 0 0)) ∧ α 4 = .pointer (some ⟨n + 1, 0, none⟩) ∧ α 6 = .pointer (some ⟨g6, 0, none⟩) ∧ α 9 = .pointer (some ⟨g9, 0, none⟩) ∧ G10 = G9) ?_ ?_
 ·by_cases e3 : o.kind = 3
  ·have e3b : (o.kind == 3) = true := by simp [e3]
   obtain ⟨x, q, hx, y1, y2, y5⟩ := hw0 (.inr e3)
   rw [hx]
   have rc := ros7.2 G9 x (Low.refl (Nat.le_refl _))
   (refine aw_plan [] [] [0, 1, 2, 3, 4, 5, 6, 7, 8, 9, 10, 11, 12, 13] 14 0 (by kernel_rfl) (by kernel_rfl) (by kernel_rfl) (fun K hK => ?_)); simp only [sel, List.getElem?_cons_succ, List.getElem?_cons_zero, List.drop_succ_cons, List.drop_zero]; simp (disch := first | omega | (simp only [lnS]; try omega)) [-getElem?_pos, -getElem?_neg, q3, q9, -xload, xl3, xl4, xl9, y5, -xindexAddr, y2, e3, e3b, fr1, fr2, hfr, -notTuple, w1, w2, y1, nt_fn, cs_fn, nt_intG, nt_ptrG, PL_nil, plainB_lit, PL_cons, PLc_val, PLc_new, stepP_t, stepP_f, stepPC_n, stepPC_s, stepPX_s, stepPX_n, stepPV_n, stepPV_s, stepPA_t, stepPA_c, stepPA_l, stepPN_s, allocOp, reloc_sl, reloc_ptr, List.map_cons, List.map_nil, List.nil_append, List.append_assoc, List.cons_append, Nat.add_assoc]
   refine PLc_callV (v := .bool (behR l o x)) ros7.1 (by simpa using rc) (by simp [pv_iv, pv_int, pv_bool, pv_string, pv_tup2, pv_tup3, iv_plain, p2_int, p2_bool, p2_string]) ?_
   try simp (disch := first | omega | (simp only [lnS]; try omega)) [-getElem?_pos, -getElem?_neg, PL_nil, plainB_lit, PL_cons, PLc_val, PLc_new, stepP_t, stepP_f, stepPC_n, stepPC_s, stepPX_s, stepPX_n, stepPV_n, stepPV_s, stepPA_t, stepPA_c, stepPA_l, stepPN_s, allocOp, reloc_sl, reloc_ptr, List.map_cons, List.map_nil, List.nil_append, List.append_assoc, List.cons_append, Nat.add_assoc]
   refine hK _ _ ?_; clear hK K
   exact ⟨by rw [decide_eq_true e3]; (first | (simp [put_at, put_none, fr0_at]; done) | rfl), by (first | (simp [put_at, put_none, fr0_at, q4]; done) | rfl), by (first | (simp [put_at, put_none, fr0_at, q6]; done) | rfl), by (first | (simp [put_at, put_none, fr0_at, q9]; done) | rfl), rfl⟩
  ·have e3b : (o.kind == 3) = false := by simp [e3]
   (refine aw_plan [] [] [0, 1, 2, 3, 4, 5, 6, 7, 8, 9, 10, 11, 12, 13] 14 0 (by kernel_rfl) (by kernel_rfl) (by kernel_rfl) (fun K hK => ?_)); simp only [sel, List.getElem?_cons_succ, List.getElem?_cons_zero, List.drop_succ_cons, List.drop_zero]; simp (disch := first | omega | (simp only [lnS]; try omega)) [-getElem?_pos, -getElem?_neg, q3, -xload, xl3, e3, e3b, -notTuple, nt_intG, PL_nil, plainB_lit, PL_cons, PLc_val, PLc_new, stepP_t, stepP_f, stepPC_n, stepPC_s, stepPX_s, stepPX_n, stepPV_n, stepPV_s, stepPA_t, stepPA_c, stepPA_l, stepPN_s, allocOp, reloc_sl, reloc_ptr, List.map_cons, List.map_nil, List.nil_append, List.append_assoc, List.cons_append, Nat.add_assoc]
   refine hK _ _ ?_; clear hK K
   exact ⟨by rw [decide_eq_false e3]; (first | (simp [put_at, put_none, fr0_at]; done) | rfl), by (first | (simp [put_at, put_none, fr0_at, q4]; done) | rfl), by (first | (simp [put_at, put_none, fr0_at, q6]; done) | rfl), by (first | (simp [put_at, put_none, fr0_at, q9]; done) | rfl), rfl⟩
 clear q3 q4 q6 q9 q48
 rintro α G10 ⟨q62, q4, q6, q9, rfl⟩
 cases hno : (decide (o.kind = 3) && !behR l o (o.who.getD 0 0)) with
 | true =>
  rw [hno] at q62
  refine aw_t (by (first | (simp [eval_tmp, put_at, q62]; done) | (simp [eval_tmp, put_at, q62]; omega))) (by kernel_rfl) ?_
  refine aw_seq ?_
  (refine aw_ops (by kernel_rfl) (fun K hK => ?_); simp (disch := first | omega | (simp only [lnS]; try omega)) [-getElem?_pos, -getElem?_neg, q4, q6, b4, b6, hf1, hf2, nt_aggG, -notTuple]; refine hK _ _ ?_; clear hK K)
  (refine aw_ret ?_; simp (disch := first | omega | (simp only [lnS]; try omega)) [-getElem?_pos, -getElem?_neg, thenQ_ret, scopeQ_ret, inBlockQ_ret, RQ, resL, resV, q4, b4])
  rw [Bool.and_eq_true, decide_eq_true_eq, Bool.not_eq_true'] at hno
  exact fin0 _ 22 k1 k2 (by rw [k0, if_pos hno]) (.inl (by decide))
 | false =>
 rw [hno] at q62
 have k0 : alwE l o = 0 := by
  rw [k0, if_neg]
  intro h
  rw [decide_eq_true h.1, h.2] at hno
  cases hno
 refine aw_f (by (first | (simp [eval_tmp, put_at, q62]; done) | (simp [eval_tmp, put_at, q62]; omega))) (by kernel_rfl) ?_
 refine aw_skip ?_
 refine aw_seq ?_
 (refine aw_ops (by kernel_rfl) (fun K hK => ?_); simp (disch := first | omega | (simp only [lnS]; try omega)) [-getElem?_pos, -getElem?_neg, q4, q9, b4, b9, fr1, fr2, nt_aggG, -notTuple]; refine hK _ _ ?_; clear hK K)
 (refine aw_ret ?_; simp (disch := first | omega | (simp only [lnS]; try omega)) [-getElem?_pos, -getElem?_neg, thenQ_ret, scopeQ_ret, inBlockQ_ret, RQ, resL, resV, q4, b4])
 have hR : alwR l o = behR l o := by
  unfold alwR
  rw [if_pos ⟨k0, e1⟩]
 have k3 := (hsetK G10 (some ⟨[fr], 93, none⟩) low7 b5).1
 refine ⟨hn ▸ k3, _, _, by rw [hfr, k0], ?_⟩
 rw [hR]
 exact rosK _ k3 (fun j hj => hget_set_ne (by omega))
end
section
attribute [local simp] wb_bool wb_undef with_lit XL_nil XL_cons XLc_val XLc_call step1_eq stepW_t stepW_f stepC_n stepC_s stepX_s stepX_n stepN_s calleeX oneV xop_eq xopR_s xopR_n wantedA_eq wantedG_n wantedG_s plain1_int plain1_bool plain1_string bits_i64 bits_u64 bits_u32 bits_u16 bits_u8 xeqA xagg xcmp xarr allK_iv num_iv calleeOf xread xeff xbin xint xnil xun xstr xload xconv xpart xfield xfieldAddr xindexAddr xindex bnd asInt? xslice xlen xmin xmax xbuild xfill xappend xapp2 xappstr xappmk xcap xcopy xcells eval_tmp eval_const put_at put_none fr0_at cells_agg cells_int cells_bool cells_string cells_ptr cells_slice notTuple tab iv_all hget_app hget_app0 hget_cons0 hget_cons set_app set_app0 setR setR_one QL_nil QL_cons QLc_val stepQ_t stepQ_f stepQC_n stepQC_s stepQX_s SL_nil SL_cons SLc_val stepS_t stepS_f ltT ltF leT leF eqT eqF ltTn ltFn leTn leFn eqTn eqFn beqT beqF bneT bneF wi64 wu64 wu32 wu16 wu8 tmodP tdivP hgetL hgetNe hgetEq setL nums_def nums_len Nat.succ_le_of_lt List.getElem?_cons_zero List.getElem?_cons_succ Option.getD_some Int.toNat_add Int.toNat_mul agM okM agB agI agS agP agL agA okB okI okS okP okSl okA
theorem rAllowed_rc {γ : Nat → Option Nat} {H : AH} {nv : Value} {us : List Value} {l : List NodeD} {o : OpD} {pv wv bv : Value} (hN : NdA H nv l) (hO : OpC H us o pv wv bv) (hw : o.Wf) : AC Try.prog H.length γ 27 #[nv, .agg us.toArray] H (fun v' _ => v' = .int .i64 (alwE l o)) := by
 have hnt := hN.nt
 have hvc := hN.cs
 have hul := hO.len
 have hset : ∀ Z : List Value, Z.length = 71 → setR Z 0 us = us := fun Z hZ => setR_all _ _ (by omega)
 have htu : us.take 71 = us := List.take_of_length_le (by omega)
 have hp0 : plain1 (.slice none 0 0) = true := rfl
 refine ac_of_aw Try.func27 rfl Try.ntmps27 Try.results27 (by simp) ?_
 refine aw_seq ?_
 (refine aw_ops (by kernel_rfl) (fun K hK => ?_); simp (disch := first | omega | (simp only [lnS]; try omega)) [-getElem?_pos, -getElem?_neg, -notTuple, hnt, hvc, hul, nt_aggG, hp0, all_zl, hset, htu, pl_nilF]; refine hK _ _ ?_; clear hK K)
 obtain ⟨lw, b3⟩ := boxed (H := H) us 41
 obtain ⟨n, hn⟩ : ∃ n, n = H.length := ⟨_, rfl⟩
 rw [← hn] at b3 ⊢
 generalize H ++ [some ⟨us, 41, none⟩] = G at *
 have hle := lw.2
 have ha := allowed_ac (γ := γ) (nro := n) (hN.lowG lw) (hO.low lw.1) hw (by omega)
 refine aw_seq ?_
 refine aw_ops (by kernel_rfl) (fun K hK => ?_)
 simp (disch := first | omega | (simp only [lnS]; try omega)) [-getElem?_pos, -getElem?_neg, b3, hul, htu, -notTuple, hnt, hvc, nt_aggG, nt_intG]
 refine ⟨by kernel_rfl, ha.mono ?_⟩
 rintro v G2 ⟨lw2, f, cs, rfl, hf⟩
 obtain ⟨fr, hfr⟩ : ∃ fr : Value, fr = .func (.func f) #[] cs := ⟨_, rfl⟩
 have fr1 : notTuple fr = true := by rw [hfr]; rfl
 have fr2 : fr.cells = #[fr] := by rw [hfr]; rfl
 rw [← hfr]
 have hle2 := lw2.2
 have hn2 : n ≤ G2.length := by omega
 simp (disch := first | omega | (simp only [lnS]; try omega)) [-getElem?_pos, -getElem?_neg, hn2, fr1, fr2, -notTuple, nt_aggG, nt_intG, pl_nilF]
 refine hK _ _ ?_; clear hK K
 refine aw_seq ?_
 (refine aw_ops (by kernel_rfl) (fun K hK => ?_); simp (disch := first | omega | (simp only [lnS]; try omega)) [-getElem?_pos, -getElem?_neg, nt_intG]; refine hK _ _ ?_; clear hK K)
 (refine aw_ret ?_; simp (disch := first | omega | (simp only [lnS]; try omega)) [-getElem?_pos, -getElem?_neg, thenQ_ret, scopeQ_ret, inBlockQ_ret, RQ, resL, resV])
end
section
def whoXY (x y : Int) (w : Int) : Bool := decide (w = x) || decide (w = y)
def cO1 (x y : Int) : OpD := opC1 x 1 1 [] (membL (whoXY x y) 8)
def cO2 (x y : Int) : OpD := opC1 x 2 3 [key1 1] [y]
def cO3 (y z : Int) : OpD := opC1 y 1 2 [key1 1] [z]
def cO4 (x y : Int) : OpD := opC1 y 2 3 [key1 3] [x]
def cO5 (x : Int) : OpD := opC1 x 3 4 [key1 2, key1 4] []
def cL1 (x y : Int) : List NodeD := [⟨key1 1, cO1 x y, []⟩]
def cL2 (x y : Int) : List NodeD := cL1 x y ++ [⟨key1 2, cO2 x y, [0]⟩]
def cL3 (x y z : Int) : List NodeD := cL2 x y ++ [⟨key1 3, cO3 y z, [0]⟩]
def cL4 (x y z : Int) : List NodeD := cL3 x y z ++ [⟨key1 4, cO4 x y, [0, 2]⟩]
def bothOk (x y z : Int) : Bool := decide (addE [] (key1 1) (cO1 x y) = 0) && (decide (addE (cL1 x y) (key1 2) (cO2 x y) = 0) && (decide (addE (cL2 x y) (key1 3) (cO3 y z) = 0) && (decide (addE (cL3 x y z) (key1 4) (cO4 x y) = 0) && (decide (pastL (cL1 x y) 1 [key1 1] = [0]) && (decide (pastL (cL2 x y) 2 [key1 1] = [0]) && (decide (pastL (cL3 x y z) 3 [key1 3] = [0, 2]) && (decide (allR (cL4 x y z) = []) && (decide (alwE (cL4 x y z) (cO5 x) = 16) && decide ((membL (whoXY x y) 8).length = 2)))))))))
theorem both_all : ((List.range 8).all fun x => (List.range 8).all fun y => (List.range 8).all fun z => decide (x = y) || (decide (y = z) || (decide (x = z) || bothOk x y z))) = true := by decide +kernel
structure Both (x y z : Int) : Prop where
 a1 : addE [] (key1 1) (cO1 x y) = 0 ∧ [] ++ [addD [] (key1 1) (cO1 x y)] = cL1 x y
 a2 : addE (cL1 x y) (key1 2) (cO2 x y) = 0 ∧ cL1 x y ++ [addD (cL1 x y) (key1 2) (cO2 x y)] = cL2 x y
 a3 : addE (cL2 x y) (key1 3) (cO3 y z) = 0 ∧ cL2 x y ++ [addD (cL2 x y) (key1 3) (cO3 y z)] = cL3 x y z
 a4 : addE (cL3 x y z) (key1 4) (cO4 x y) = 0 ∧ cL3 x y z ++ [addD (cL3 x y z) (key1 4) (cO4 x y)] = cL4 x y z
 all : allR (cL4 x y z) = []
 alw : alwE (cL4 x y z) (cO5 x) = 16
 two : (membL (whoXY x y) 8).length = 2
theorem both_of {x y z : Nat} (hx : x < 8) (hy : y < 8) (hz : z < 8) (h1 : x ≠ y) (h2 : y ≠ z) (h3 : x ≠ z) : Both x y z := by
 have h := both_all
 rw [List.all_eq_true] at h
 have h := h x (List.mem_range.2 hx)
 rw [List.all_eq_true] at h
 have h := h y (List.mem_range.2 hy)
 rw [List.all_eq_true] at h
 have h := h z (List.mem_range.2 hz)
 rw [decide_eq_false h1, decide_eq_false h2, decide_eq_false h3, Bool.false_or, Bool.false_or, Bool.false_or] at h
 unfold bothOk at h
 simp only [Bool.and_eq_true, decide_eq_true_eq] at h
 obtain ⟨e1, e2, e3, e4, p1, p2, p3, q1, q2, q3⟩ := h
 refine ⟨⟨e1, rfl⟩, ⟨e2, ?_⟩, ⟨e3, ?_⟩, ⟨e4, ?_⟩, q1, q2, q3⟩
 ·have : addD (cL1 x y) (key1 2) (cO2 x y) = ⟨key1 2, cO2 x y, pastL (cL1 x y) 1 [key1 1]⟩ := rfl
  rw [this, p1]; rfl
 ·have : addD (cL2 x y) (key1 3) (cO3 y z) = ⟨key1 3, cO3 y z, pastL (cL2 x y) 2 [key1 1]⟩ := rfl
  rw [this, p2]; rfl
 ·have : addD (cL3 x y z) (key1 4) (cO4 x y) = ⟨key1 4, cO4 x y, pastL (cL3 x y z) 3 [key1 3]⟩ := rfl
  rw [this, p3]; rfl
theorem memb_i64 (P : Int → Bool) : ∀ z ∈ membL P 8, I64 z := fun z hz => by
 have := (mem_membL.1 hz).1
 unfold I64; omega
theorem one_i64 {x : Nat} (h : x < 8) : ∀ z ∈ [(x : Int)], I64 z := fun z hz => by
 rw [List.mem_singleton] at hz; subst hz; unfold I64; omega
theorem cO1_wf {x y : Nat} (hx : x < 8) : (cO1 x y).Wf := opC1_wf (by unfold I64; omega) (by unfold U32; omega) (by unfold I64; omega) (by simp) (Nat.zero_le _) (memb_i64 _) (by have := membL_le (whoXY x y) 8; omega)
theorem cO2_wf {x y : Nat} (hx : x < 8) (hy : y < 8) : (cO2 x y).Wf := opC1_wf (by unfold I64; omega) (by unfold U32; omega) (by unfold I64; omega) (fun p hp => by simp at hp; subst hp; exact key1_ok (by omega)) (by simp) (one_i64 hy) (by simp)
theorem cO3_wf {y z : Nat} (hy : y < 8) (hz : z < 8) : (cO3 y z).Wf := opC1_wf (by unfold I64; omega) (by unfold U32; omega) (by unfold I64; omega) (fun p hp => by simp at hp; subst hp; exact key1_ok (by omega)) (by simp) (one_i64 hz) (by simp)
theorem cO4_wf {x y : Nat} (hx : x < 8) (hy : y < 8) : (cO4 x y).Wf := opC1_wf (by unfold I64; omega) (by unfold U32; omega) (by unfold I64; omega) (fun p hp => by simp at hp; subst hp; exact key1_ok (by omega)) (by simp) (one_i64 hx) (by simp)
theorem cO5_wf {x : Nat} (hx : x < 8) : (cO5 x).Wf := opC1_wf (by unfold I64; omega) (by unfold U32; omega) (by unfold I64; omega) (fun p hp => by simp at hp; rcases hp with rfl | rfl <;> exact key1_ok (by omega)) (by simp) (fun z hz => by cases hz) (Nat.zero_le _)
theorem cL_wf {L : List NodeD} {x : NodeD} (h : ∀ x ∈ L, x.Wf) (hx : x.Wf) : ∀ y ∈ L ++ [x], y.Wf := fun y hy => by
 rcases List.mem_append.1 hy with hy | hy
 ·exact h y hy
 ·rw [List.mem_singleton] at hy; subst hy; exact hx
theorem cL1_wf {x y : Nat} (hx : x < 8) : ∀ v ∈ cL1 x y, v.Wf := fun v hv => by
 unfold cL1 at hv
 rw [List.mem_singleton] at hv
 subst hv
 exact ⟨key1_ok (by omega), cO1_wf hx, fun z hz => (by cases hz), by simp⟩
theorem p0_i64 : ∀ z ∈ [(0 : Int)], I64 z := fun z hz => by rw [List.mem_singleton] at hz; subst hz; unfold I64; omega
theorem p02_i64 : ∀ z ∈ [(0 : Int), 2], I64 z := fun z hz => by
 simp at hz
 unfold I64
 omega
theorem cL2_wf {x y : Nat} (hx : x < 8) (hy : y < 8) : ∀ v ∈ cL2 x y, v.Wf := cL_wf (cL1_wf hx) ⟨key1_ok (by omega), cO2_wf hx hy, p0_i64, by simp [maxLen]⟩
theorem cL3_wf {x y z : Nat} (hx : x < 8) (hy : y < 8) (hz : z < 8) : ∀ v ∈ cL3 x y z, v.Wf := cL_wf (cL2_wf hx hy) ⟨key1_ok (by omega), cO3_wf hy hz, p0_i64, by simp [maxLen]⟩
theorem cL4_wf {x y z : Nat} (hx : x < 8) (hy : y < 8) (hz : z < 8) : ∀ v ∈ cL4 x y z, v.Wf := cL_wf (cL3_wf hx hy hz) ⟨key1_ok (by omega), cO4_wf hx hy, p02_i64, by simp [maxLen]⟩
end
section
theorem fill_two : xfill (fun i => some (i * 32, 32)) (List.map (fun j => (iv .u8 (zl 32))[j % 32]?.getD undef) (List.range 64)) [(0, .agg (iv .u8 (key1 2)).toArray), (1, .agg (iv .u8 (key1 4)).toArray)] = some (iv .u8 (key1 2) ++ iv .u8 (key1 4)) := by kernel_rfl
theorem key2_ksv {G : AH} {b : Nat} (h : hget G b = some ⟨iv .u8 (key1 2) ++ iv .u8 (key1 4), 38, some 32⟩) : KsV G (.slice (some ⟨b, 0, none⟩) 2 2) [key1 2, key1 4] := kr_ksv (F := [b]) (.inr ⟨b, 2, rfl, by simpa [kr] using h, by simp [kr, iv_length, key1_32], rfl⟩) (fun k hk => by simp at hk; rcases hk with rfl | rfl <;> exact key1_32 _)
theorem rem8 {a : Int} (h : 0 ≤ a) : ∃ x : Nat, a % 8 = (x : Int) ∧ x < 8 := ⟨(a % 8).toNat, by omega, by omega⟩
attribute [local simp] wb_bool wb_undef with_lit XL_nil XL_cons XLc_val XLc_call step1_eq stepW_t stepW_f stepC_n stepC_s stepX_s stepX_n stepN_s calleeX oneV xop_eq xopR_s xopR_n wantedA_eq wantedG_n wantedG_s plain1_int plain1_bool plain1_string bits_i64 bits_u64 bits_u32 bits_u16 bits_u8 xeqA xagg xcmp xarr allK_iv num_iv calleeOf xread xeff xbin xint xnil xun xstr xload xconv xpart xfield xfieldAddr xindexAddr xindex bnd asInt? xslice xlen xmin xmax xbuild xfill xappend xapp2 xappstr xappmk xcap xcopy xcells eval_tmp eval_const put_at put_none fr0_at cells_agg cells_int cells_bool cells_string cells_ptr cells_slice notTuple tab iv_all hget_app hget_app0 hget_cons0 hget_cons set_app set_app0 setR setR_one QL_nil QL_cons QLc_val stepQ_t stepQ_f stepQC_n stepQC_s stepQX_s SL_nil SL_cons SLc_val stepS_t stepS_f ltT ltF leT leF eqT eqF ltTn ltFn leTn leFn eqTn eqFn beqT beqF bneT bneF wi64 wu64 wu32 wu16 wu8 tmodP tdivP hgetL hgetNe hgetEq setL nums_def nums_len Nat.succ_le_of_lt List.getElem?_cons_zero List.getElem?_cons_succ Option.getD_some Int.toNat_add Int.toNat_mul agM okM agB agI agS agP agL agA okB okI okS okP okSl okA
theorem both_law {γ : Nat → Option Nat} {H : AH} {a b c : Int} (ha : 0 ≤ a ∧ a ≤ 255) (hb : 0 ≤ b ∧ b ≤ 255) (hc : 0 ≤ c ∧ c ≤ 255) : AC Try.prog H.length γ 8 #[.int .u8 a, .int .u8 b, .int .u8 c] H (fun v' _ => v' = .bool true) := by
 obtain ⟨ha, ha2⟩ := ha
 obtain ⟨hb, hb2⟩ := hb
 obtain ⟨hc, hc2⟩ := hc
 obtain ⟨x, hx, hx8⟩ := rem8 ha
 obtain ⟨y, hy, hy8⟩ := rem8 hb
 obtain ⟨z, hz, hz8⟩ := rem8 hc
 have al := ralive_rc (γ := γ) (H := H)
 refine ac_of_aw Try.func8 rfl Try.ntmps8 Try.results8 (by simp) ?_
 refine aw_seq ?_
 (refine aw_ops (by kernel_rfl) (fun K hK => ?_); simp (disch := first | omega | (simp only [lnS]; try omega)) [-getElem?_pos, -getElem?_neg]; refine hK _ _ ?_; clear hK K)
 refine aw_seq ?_
 refine aw_seq ?_
 refine aw_ops (by kernel_rfl) (fun K hK => ?_)
 simp (disch := first | omega | (simp only [lnS]; try omega)) [-getElem?_pos, -getElem?_neg]
 refine ⟨by kernel_rfl, ac_of_rc al (by simp [pv_iv, pv_int, pv_bool, pv_string, pv_tup2, pv_tup3, iv_plain, p2_int, p2_bool, p2_string]) ?_⟩
 try simp (disch := first | omega | (simp only [lnS]; try omega)) [-getElem?_pos, -getElem?_neg]
 refine hK _ _ ?_; clear hK K
 refine aw_f (by (first | (simp [eval_tmp, put_at]; done) | (simp [eval_tmp, put_at]; omega))) (by kernel_rfl) ?_
 refine aw_skip ?_
 refine aw_seq ?_
 (refine aw_ops (by kernel_rfl) (fun K hK => ?_); simp (disch := first | omega | (simp only [lnS]; try omega)) [-getElem?_pos, -getElem?_neg, hx, hy, hz]; refine hK _ _ ?_; clear hK K)
 refine aw_seq ?_
 refine aw_seq ?_
 refine aw_cut (fun α G => α 40 = .bool (decide (x = y) || (decide (y = z) || decide (x = z))) ∧ α 7 = .int .i64 (x : Nat) ∧ α 8 = .int .i64 (y : Nat) ∧ α 9 = .int .i64 (z : Nat) ∧ G = H) ?_ ?_
 ·by_cases e1 : x = y
  ·have e1b : ((x : Int) == (y : Int)) = true := by rw [beq_iff_eq]; omega
   (refine aw_ops (by kernel_rfl) (fun K hK => ?_); simp (disch := first | omega | (simp only [lnS]; try omega)) [-getElem?_pos, -getElem?_neg, e1b, nt_intG]; refine hK _ _ ?_; clear hK K)
   exact ⟨by rw [decide_eq_true e1]; (first | (simp [put_at, put_none, fr0_at]; done) | rfl), by (first | (simp [put_at, put_none, fr0_at]; done) | rfl), by (first | (simp [put_at, put_none, fr0_at]; done) | rfl), by (first | (simp [put_at, put_none, fr0_at]; done) | rfl), rfl⟩
  have e1b : ((x : Int) == (y : Int)) = false := by rw [beq_eq_false_iff_ne]; omega
  rw [decide_eq_false e1]
  by_cases e2 : y = z
  ·have e2b : ((y : Int) == (z : Int)) = true := by rw [beq_iff_eq]; omega
   (refine aw_ops (by kernel_rfl) (fun K hK => ?_); simp (disch := first | omega | (simp only [lnS]; try omega)) [-getElem?_pos, -getElem?_neg, e1b, e2b, nt_intG]; refine hK _ _ ?_; clear hK K)
   exact ⟨by rw [decide_eq_true e2]; (first | (simp [put_at, put_none, fr0_at]; done) | rfl), by (first | (simp [put_at, put_none, fr0_at]; done) | rfl), by (first | (simp [put_at, put_none, fr0_at]; done) | rfl), by (first | (simp [put_at, put_none, fr0_at]; done) | rfl), rfl⟩
  have e2b : ((y : Int) == (z : Int)) = false := by rw [beq_eq_false_iff_ne]; omega
  rw [decide_eq_false e2]
  by_cases e3 : x = z
  ·have e3b : ((x : Int) == (z : Int)) = true := by rw [beq_iff_eq]; omega
   (refine aw_ops (by kernel_rfl) (fun K hK => ?_); simp (disch := first | omega | (simp only [lnS]; try omega)) [-getElem?_pos, -getElem?_neg, e1b, e2b, e3b, nt_intG]; refine hK _ _ ?_; clear hK K)
   exact ⟨by rw [decide_eq_true e3]; (first | (simp [put_at, put_none, fr0_at]; done) | rfl), by (first | (simp [put_at, put_none, fr0_at]; done) | rfl), by (first | (simp [put_at, put_none, fr0_at]; done) | rfl), by (first | (simp [put_at, put_none, fr0_at]; done) | rfl), rfl⟩
  ·have e3b : ((x : Int) == (z : Int)) = false := by rw [beq_eq_false_iff_ne]; omega
   (refine aw_ops (by kernel_rfl) (fun K hK => ?_); simp (disch := first | omega | (simp only [lnS]; try omega)) [-getElem?_pos, -getElem?_neg, e1b, e2b, e3b, nt_intG]; refine hK _ _ ?_; clear hK K)
   exact ⟨by rw [decide_eq_false e3]; (first | (simp [put_at, put_none, fr0_at]; done) | rfl), by (first | (simp [put_at, put_none, fr0_at]; done) | rfl), by (first | (simp [put_at, put_none, fr0_at]; done) | rfl), by (first | (simp [put_at, put_none, fr0_at]; done) | rfl), rfl⟩
 rintro α G ⟨q40, q7, q8, q9, rfl⟩
 cases hall : (decide (x = y) || (decide (y = z) || decide (x = z))) with
 | true =>
  rw [hall] at q40
  refine aw_t (by (first | (simp [eval_tmp, put_at, q40]; done) | (simp [eval_tmp, put_at, q40]; omega))) (by kernel_rfl) ?_
  refine aw_seq ?_
  refine aw_ops (by kernel_rfl) (fun K hK => ?_)
  simp (disch := first | omega | (simp only [lnS]; try omega)) [-getElem?_pos, -getElem?_neg]
  refine ⟨by kernel_rfl, ac_of_rc al (by simp [pv_iv, pv_int, pv_bool, pv_string, pv_tup2, pv_tup3, iv_plain, p2_int, p2_bool, p2_string]) ?_⟩
  try simp (disch := first | omega | (simp only [lnS]; try omega)) [-getElem?_pos, -getElem?_neg]
  refine hK _ _ ?_; clear hK K
  (refine aw_ret ?_; simp (disch := first | omega | (simp only [lnS]; try omega)) [-getElem?_pos, -getElem?_neg, thenQ_ret, scopeQ_ret, inBlockQ_ret, RQ, resL, resV])
 | false =>
 rw [hall] at q40
 refine aw_f (by (first | (simp [eval_tmp, put_at, q40]; done) | (simp [eval_tmp, put_at, q40]; omega))) (by kernel_rfl) ?_
 refine aw_skip ?_
 simp only [Bool.or_eq_false_iff, decide_eq_false_iff_not] at hall
 obtain ⟨d1, d2, d3⟩ := hall
 have B := both_of hx8 hy8 hz8 d1 d2 d3
 obtain ⟨n, hn⟩ : ∃ n, n = G.length := ⟨_, rfl⟩
 rw [← hn]
 refine aw_seq ?_
 (refine aw_ops (by kernel_rfl) (fun K hK => ?_); simp (disch := first | omega | (simp only [lnS]; try omega)) [-getElem?_pos, -getElem?_neg]; refine hK _ _ ?_; clear hK K)
 refine aw_seq ?_
 refine aw_seq ?_
 (refine aw_ops (by kernel_rfl) (fun K hK => ?_); simp (disch := first | omega | (simp only [lnS]; try omega)) [-getElem?_pos, -getElem?_neg]; refine hK _ _ ?_; clear hK K)
 refine aw_block ?_
 refine aw_loop (fun c α G2 => ∃ (k : Nat) (v : Value) (F : List Nat), k + c = 8 ∧ Low n G G2 ∧ α 7 = .int .i64 (x : Nat) ∧ α 8 = .int .i64 (y : Nat) ∧ α 9 = .int .i64 (z : Nat) ∧ α 10 = v ∧ α 11 = .int .i64 (k : Nat) ∧ OwnF G2 v 3 1 (iv .i64 (membL (whoXY x y) k)) F ∧ ∀ j ∈ F, n ≤ j) 8 ?_ ?_
 ·exact ⟨0, .slice none 0 0, [], by omega, by rw [hn]; exact Low.refl (Nat.le_refl _), by (first | (simp [put_at, put_none, fr0_at, q7]; done) | rfl), by (first | (simp [put_at, put_none, fr0_at, q8]; done) | rfl), by (first | (simp [put_at, put_none, fr0_at, q9]; done) | rfl), by (first | (simp [put_at, put_none, fr0_at]; done) | rfl), by (first | (simp [put_at, put_none, fr0_at]; done) | rfl), .inl ⟨rfl, rfl, rfl⟩, fun j hj => by cases hj⟩
 clear q7 q8 q9 q40
 rintro c2 α G2 ⟨k, v, F, hkc, lw2, q7, q8, q9, q10, q11, hF, hFl⟩
 obtain ⟨x1, x2⟩ := own_nt hF
 have hle2 := lw2.2
 refine aw_seq ?_
 refine aw_seq ?_
 by_cases hk : k < 8
 case pos =>
  have hsu := membL_succ (whoXY x y) k
  have hle8 := membL_le (whoXY x y) k
  have hT : whoXY (x : Int) (y : Int) (k : Int) = (decide (k = x) || decide (k = y)) := by
   unfold whoXY
   have e1 : decide ((k : Int) = (x : Int)) = decide (k = x) := by rw [decide_eq_decide]; omega
   have e2 : decide ((k : Int) = (y : Int)) = decide (k = y) := by rw [decide_eq_decide]; omega
   rw [e1, e2]
  (refine aw_ops (by kernel_rfl) (fun K hK => ?_); simp (disch := first | omega | (simp only [lnS]; try omega)) [-getElem?_pos, -getElem?_neg, q11, hk]; refine hK _ _ ?_; clear hK K)
  refine aw_t (by (first | (simp [eval_tmp, put_at]; done) | (simp [eval_tmp, put_at]; omega))) (by kernel_rfl) ?_
  refine aw_skip ?_
  refine aw_seq ?_
  refine aw_block ?_
  refine aw_seq ?_
  refine aw_cut (fun α G3 => α 53 = .bool (decide (k = x) || decide (k = y)) ∧ α 7 = .int .i64 (x : Nat) ∧ α 8 = .int .i64 (y : Nat) ∧ α 9 = .int .i64 (z : Nat) ∧ α 10 = v ∧ α 11 = .int .i64 (k : Nat) ∧ G3 = G2) ?_ ?_
  ·by_cases e1 : k = x
   ·have e1b : ((k : Int) == (x : Int)) = true := by rw [beq_iff_eq]; omega
    (refine aw_ops (by kernel_rfl) (fun K hK => ?_); simp (disch := first | omega | (simp only [lnS]; try omega)) [-getElem?_pos, -getElem?_neg, q7, q8, q11, e1b, nt_intG]; refine hK _ _ ?_; clear hK K)
    exact ⟨by rw [decide_eq_true e1]; (first | (simp [put_at, put_none, fr0_at]; done) | rfl), by (first | (simp [put_at, put_none, fr0_at, q7]; done) | rfl), by (first | (simp [put_at, put_none, fr0_at, q8]; done) | rfl), by (first | (simp [put_at, put_none, fr0_at, q9]; done) | rfl), by (first | (simp [put_at, put_none, fr0_at, q10]; done) | rfl), by (first | (simp [put_at, put_none, fr0_at, q11]; done) | rfl), rfl⟩
   have e1b : ((k : Int) == (x : Int)) = false := by rw [beq_eq_false_iff_ne]; omega
   rw [decide_eq_false e1]
   by_cases e2 : k = y
   ·have e2b : ((k : Int) == (y : Int)) = true := by rw [beq_iff_eq]; omega
    (refine aw_ops (by kernel_rfl) (fun K hK => ?_); simp (disch := first | omega | (simp only [lnS]; try omega)) [-getElem?_pos, -getElem?_neg, q7, q8, q11, e1b, e2b, nt_intG]; refine hK _ _ ?_; clear hK K)
    exact ⟨by rw [decide_eq_true e2]; (first | (simp [put_at, put_none, fr0_at]; done) | rfl), by (first | (simp [put_at, put_none, fr0_at, q7]; done) | rfl), by (first | (simp [put_at, put_none, fr0_at, q8]; done) | rfl), by (first | (simp [put_at, put_none, fr0_at, q9]; done) | rfl), by (first | (simp [put_at, put_none, fr0_at, q10]; done) | rfl), by (first | (simp [put_at, put_none, fr0_at, q11]; done) | rfl), rfl⟩
   ·have e2b : ((k : Int) == (y : Int)) = false := by rw [beq_eq_false_iff_ne]; omega
    (refine aw_ops (by kernel_rfl) (fun K hK => ?_); simp (disch := first | omega | (simp only [lnS]; try omega)) [-getElem?_pos, -getElem?_neg, q7, q8, q11, e1b, e2b, nt_intG]; refine hK _ _ ?_; clear hK K)
    exact ⟨by rw [decide_eq_false e2]; (first | (simp [put_at, put_none, fr0_at]; done) | rfl), by (first | (simp [put_at, put_none, fr0_at, q7]; done) | rfl), by (first | (simp [put_at, put_none, fr0_at, q8]; done) | rfl), by (first | (simp [put_at, put_none, fr0_at, q9]; done) | rfl), by (first | (simp [put_at, put_none, fr0_at, q10]; done) | rfl), by (first | (simp [put_at, put_none, fr0_at, q11]; done) | rfl), rfl⟩
  clear q7 q8 q9 q10 q11
  rintro α G3 ⟨q53, q7, q8, q9, q10, q11, rfl⟩
  rw [hT] at hsu
  cases hTk : (decide (k = x) || decide (k = y)) with
  | false =>
   rw [hTk] at q53 hsu
   refine aw_f (by (first | (simp [eval_tmp, put_at, q53]; done) | (simp [eval_tmp, put_at, q53]; omega))) (by kernel_rfl) ?_
   refine aw_skip ?_
   (refine aw_ops (by kernel_rfl) (fun K hK => ?_); simp (disch := first | omega | (simp only [lnS]; try omega)) [-getElem?_pos, -getElem?_neg, q11]; refine hK _ _ ?_; clear hK K)
   exact ⟨c2 - 1, by omega, k + 1, v, F, by omega, lw2, by (first | (simp [put_at, put_none, fr0_at, q7]; done) | rfl), by (first | (simp [put_at, put_none, fr0_at, q8]; done) | rfl), by (first | (simp [put_at, put_none, fr0_at, q9]; done) | rfl), by (first | (simp [put_at, put_none, fr0_at, q10]; done) | rfl), by (first | (simp [put_at, put_none, fr0_at]; done) | rfl), by rw [hsu]; exact hF, hFl⟩
  | true =>
   rw [hTk, if_pos rfl] at hsu
   rw [hTk] at q53
   refine aw_t (by (first | (simp [eval_tmp, put_at, q53]; done) | (simp [eval_tmp, put_at, q53]; omega))) (by kernel_rfl) ?_
   generalize membL (whoXY (x : Int) (y : Int)) k = out at *
   have hxc : xcells 1 (.slice (some ⟨G3.length, 0, none⟩) 1 1) (G3 ++ [some ⟨[.int .i64 (k : Nat)], 3, some 1⟩]) = some (iv .i64 [(k : Int)]) := by simp [xcells, iv, hget_app0]
   obtain ⟨v', G6, hap, ho3, hl3, hk3⟩ := ownF_append (P := Try.prog) (nro := n) (t := 23) (e := 3) (H := G3 ++ [some ⟨[.int .i64 (k : Nat)], 3, some 1⟩]) (v := v) (x := .slice (some ⟨G3.length, 0, none⟩) 1 1) (sz := 1) (cells := iv .i64 out) (news := iv .i64 [(k : Int)]) (F := F) (by simp) (by simp) (by omega) (by simp) (hF.low (fun j hj => hget_left (hF.lt j hj)))
    (fun j hj => by have := hFl j hj; omega) (fun s e => by cases e) hxc (by simp [iv]) (Nat.mod_one _) (by rw [iv_length, iv_length]; simp; omega) (by rw [iv_length, iv_length]; simp [maxLen]; omega)
   (refine aw_ops (by kernel_rfl) (fun K hK => ?_); simp (disch := first | omega | (simp only [lnS]; try omega)) [-getElem?_pos, -getElem?_neg, q10, q11, -notTuple, x1, x2, nt_intG, nt_slG, -xappend, hap]; refine hK _ _ ?_; clear hK K)
   (refine aw_ops (by kernel_rfl) (fun K hK => ?_); simp (disch := first | omega | (simp only [lnS]; try omega)) [-getElem?_pos, -getElem?_neg, q11]; refine hK _ _ ?_; clear hK K)
   have lw5 : Low n G G6 := ⟨fun j hj => (hk3 j (by simp; omega) (fun h => by have := hFl _ h; omega)).trans ((hget_left (by omega)).trans (lw2.1 j hj)), by rw [hl3]; simp; omega⟩
   refine ⟨c2 - 1, by omega, k + 1, v', _, by omega, lw5, by (first | (simp [put_at, put_none, fr0_at, q7]; done) | rfl), by (first | (simp [put_at, put_none, fr0_at, q8]; done) | rfl), by (first | (simp [put_at, put_none, fr0_at, q9]; done) | rfl), by (first | (simp [put_at, put_none, fr0_at]; done) | rfl), by (first | (simp [put_at, put_none, fr0_at]; done) | rfl), by rw [hsu, iv_append]; exact ho3, fun j hj => ?_⟩
   rw [List.mem_singleton] at hj
   rw [hj]
   simp
   omega
 obtain rfl : k = 8 := by omega
 (refine aw_ops (by kernel_rfl) (fun K hK => ?_); simp (disch := first | omega | (simp only [lnS]; try omega)) [-getElem?_pos, -getElem?_neg, q11]; refine hK _ _ ?_; clear hK K)
 refine aw_f (by (first | (simp [eval_tmp, put_at]; done) | (simp [eval_tmp, put_at]; omega))) (by kernel_rfl) ?_
 refine aw_exit ?_
 have hinv := own_inv hF
 obtain ⟨j, rfl⟩ : ∃ j, v = .slice (some ⟨j, 0, none⟩) 2 2 := by
  rcases hF with ⟨_, h, _⟩ | ⟨j, len, rfl, _, h, _⟩
  ·have := congrArg List.length h
   rw [iv_length, B.two] at this
   cases this
  ·rw [iv_length, B.two] at h
   obtain rfl : len = 2 := by omega
   exact ⟨j, rfl⟩
 clear hF hFl x1 x2
 have k1 := build_key 1
 have k2 := build_key 2
 have k3 := build_key 3
 have k4 := build_key 4
 have p1 : (iv .u8 (key1 1)).length = 32 := by rw [iv_length, key1_32]
 have p3 : (iv .u8 (key1 3)).length = 32 := by rw [iv_length, key1_32]
 have fk := fill_keyG (k := .u8) (x := key1 1) (n := 32) (zl 32) p1
 have fk3 := fill_keyG (k := .u8) (x := key1 3) (n := 32) (zl 32) p3
 have bc := build_create x ⟨j, 0, none⟩ 2
 rw [opRow_c1 x 1 1 [] (membL (whoXY x y) 8)] at bc
 have o1 : OpC G2 _ (cO1 x y) _ _ _ := opC_row (cO1_wf hx8) (nil3 G2).1 hinv (nil3 G2).2.2
 refine aw_seq ?_
 refine aw_ops (by kernel_rfl) (fun K hK => ?_)
 simp (disch := first | omega | (simp only [lnS]; try omega)) [-getElem?_pos, -getElem?_neg, q7, q10, -xbuild, k1, bc]
 refine ⟨by kernel_rfl, ((add_rc (γ := γ) (nil_nda G2) (key1_ok (x := 1) (by omega)) o1 (cO1_wf hx8)).thaw (nro := n) (fun v G' h => ⟨h.1.2, h.1.1⟩)).mono ?_⟩
 rintro v G3 hq
 obtain ⟨lw3, sv, rfl, hnew⟩ := hq.zero B.a1
 obtain ⟨v1, v2⟩ := hnew.sh
 have N1 := hnew.nda (cL1_wf hx8) (fun _ _ _ => rfl)
 have low3 : Low n G G3 := ⟨fun j hj => (lw3.1 j (by omega)).trans (lw2.1 j hj), by have := lw3.2; omega⟩
 clear hnew hq lw3 o1
 simp (disch := first | omega | (simp only [lnS]; try omega)) [-getElem?_pos, -getElem?_neg, -notTuple, v1, v2, nt_intG]
 refine hK _ _ ?_; clear hK K
 refine aw_seq ?_
 refine aw_ops (by kernel_rfl) (fun K hK => ?_)
 simp (disch := first | omega | (simp only [lnS]; try omega)) [-getElem?_pos, -getElem?_neg, q7, q8, q9, -xbuild, k1, k2, -notTuple, v1, v2, nt_intG, nt_aggG, all_zl, p1, -xfill, fk]
 obtain ⟨lw1, b1⟩ := boxed2 (H := G3) (iv .u8 (key1 1)) 38 32
 have gl1 := hget_lt b1
 generalize G3 ++ [some ⟨iv .u8 (key1 1), 38, some 32⟩] = K1 at *
 have hle0 := low3.2
 have hle1 := lw1.2
 refine ⟨by kernel_rfl, (opw_ac (nro := n) (γ := γ) (H := K1) (ps := [key1 1]) (k := 3) (a := (x : Nat)) (s := 2) (w := (y : Nat)) (by omega)).mono ?_⟩
 rintro v K2 ⟨lw2', wv, rfl, iw⟩
 have hwl : whoL ((y : Nat) : Int) = [((y : Nat) : Int)] := by unfold whoL; rw [if_pos (by omega)]
 rw [hwl] at iw ⊢
 have hle2' := lw2'.2
 have lw12 : Low G3.length G3 K2 := lw1.both lw2'
 have o1 : OpC K2 _ (cO2 x y) _ _ _ := opC_row (cO2_wf hx8 hy8) (key1_ksv ((lw2'.1 _ gl1).trans b1)) iw (nil3 K2).2.2
 refine ⟨by kernel_rfl, ((add_rc (γ := γ) (N1.lowG lw12) (key1_ok (x := 2) (by omega)) o1 (cO2_wf hx8 hy8)).thaw (nro := n) (fun v G' h => ⟨h.1.2, h.1.1⟩)).mono ?_⟩
 rintro v G4 hq
 obtain ⟨lw3, sv4, rfl, hnew⟩ := hq.zero B.a2
 obtain ⟨u1, u2⟩ := hnew.sh
 have N4 := hnew.nda (cL2_wf hx8 hy8) (fun _ _ _ => rfl)
 have low4 : Low n G G4 := ⟨fun j hj => (((lw3.1 j (by omega)).trans (lw12.1 j (by omega))).trans (low3.1 j hj)), by have := lw3.2; omega⟩
 clear hnew hq lw1 lw2' lw12 lw3 o1 hle1 hle2' iw b1 gl1 hwl
 simp (disch := first | omega | (simp only [lnS]; try omega)) [-getElem?_pos, -getElem?_neg, -notTuple, u1, u2, nt_intG]
 refine hK _ _ ?_; clear hK K
 refine aw_seq ?_
 refine aw_ops (by kernel_rfl) (fun K hK => ?_)
 simp (disch := first | omega | (simp only [lnS]; try omega)) [-getElem?_pos, -getElem?_neg, q7, q8, q9, -xbuild, k1, k3, -notTuple, u1, u2, nt_intG, nt_aggG, all_zl, p1, -xfill, fk]
 obtain ⟨lw1, b1⟩ := boxed2 (H := G4) (iv .u8 (key1 1)) 38 32
 have gl1 := hget_lt b1
 generalize G4 ++ [some ⟨iv .u8 (key1 1), 38, some 32⟩] = K1 at *
 have hle0 := low4.2
 have hle1 := lw1.2
 refine ⟨by kernel_rfl, (opw_ac (nro := n) (γ := γ) (H := K1) (ps := [key1 1]) (k := 2) (a := (y : Nat)) (s := 1) (w := (z : Nat)) (by omega)).mono ?_⟩
 rintro v K2 ⟨lw2', wv, rfl, iw⟩
 have hwl : whoL ((z : Nat) : Int) = [((z : Nat) : Int)] := by unfold whoL; rw [if_pos (by omega)]
 rw [hwl] at iw ⊢
 have hle2' := lw2'.2
 have lw12 : Low G4.length G4 K2 := lw1.both lw2'
 have o1 : OpC K2 _ (cO3 y z) _ _ _ := opC_row (cO3_wf hy8 hz8) (key1_ksv ((lw2'.1 _ gl1).trans b1)) iw (nil3 K2).2.2
 refine ⟨by kernel_rfl, ((add_rc (γ := γ) (N4.lowG lw12) (key1_ok (x := 3) (by omega)) o1 (cO3_wf hy8 hz8)).thaw (nro := n) (fun v G' h => ⟨h.1.2, h.1.1⟩)).mono ?_⟩
 rintro v G5 hq
 obtain ⟨lw3, sv5, rfl, hnew⟩ := hq.zero B.a3
 obtain ⟨t1, t2⟩ := hnew.sh
 have N5 := hnew.nda (cL3_wf hx8 hy8 hz8) (fun _ _ _ => rfl)
 have low5 : Low n G G5 := ⟨fun j hj => (((lw3.1 j (by omega)).trans (lw12.1 j (by omega))).trans (low4.1 j hj)), by have := lw3.2; omega⟩
 clear hnew hq lw1 lw2' lw12 lw3 o1 hle1 hle2' iw b1 gl1 hwl
 simp (disch := first | omega | (simp only [lnS]; try omega)) [-getElem?_pos, -getElem?_neg, -notTuple, t1, t2, nt_intG]
 refine hK _ _ ?_; clear hK K
 refine aw_seq ?_
 refine aw_ops (by kernel_rfl) (fun K hK => ?_)
 simp (disch := first | omega | (simp only [lnS]; try omega)) [-getElem?_pos, -getElem?_neg, q7, q8, q9, -xbuild, k3, k4, -notTuple, t1, t2, nt_intG, nt_aggG, all_zl, p3, -xfill, fk3]
 obtain ⟨lw1, b1⟩ := boxed2 (H := G5) (iv .u8 (key1 3)) 38 32
 have gl1 := hget_lt b1
 generalize G5 ++ [some ⟨iv .u8 (key1 3), 38, some 32⟩] = K1 at *
 have hle0 := low5.2
 have hle1 := lw1.2
 refine ⟨by kernel_rfl, (opw_ac (nro := n) (γ := γ) (H := K1) (ps := [key1 3]) (k := 3) (a := (y : Nat)) (s := 2) (w := (x : Nat)) (by omega)).mono ?_⟩
 rintro v K2 ⟨lw2', wv, rfl, iw⟩
 have hwl : whoL ((x : Nat) : Int) = [((x : Nat) : Int)] := by unfold whoL; rw [if_pos (by omega)]
 rw [hwl] at iw ⊢
 have hle2' := lw2'.2
 have lw12 : Low G5.length G5 K2 := lw1.both lw2'
 have o1 : OpC K2 _ (cO4 x y) _ _ _ := opC_row (cO4_wf hx8 hy8) (key1_ksv ((lw2'.1 _ gl1).trans b1)) iw (nil3 K2).2.2
 refine ⟨by kernel_rfl, ((add_rc (γ := γ) (N5.lowG lw12) (key1_ok (x := 4) (by omega)) o1 (cO4_wf hx8 hy8)).thaw (nro := n) (fun v G' h => ⟨h.1.2, h.1.1⟩)).mono ?_⟩
 rintro v G6 hq
 obtain ⟨lw3, sv6, rfl, hnew⟩ := hq.zero B.a4
 obtain ⟨r1, r2⟩ := hnew.sh
 have N6 := hnew.nda (cL4_wf hx8 hy8 hz8) (fun _ _ _ => rfl)
 have low6 : Low n G G6 := ⟨fun j hj => (((lw3.1 j (by omega)).trans (lw12.1 j (by omega))).trans (low5.1 j hj)), by have := lw3.2; omega⟩
 clear hnew hq lw1 lw2' lw12 lw3 o1 hle1 hle2' iw b1 gl1 hwl
 simp (disch := first | omega | (simp only [lnS]; try omega)) [-getElem?_pos, -getElem?_neg, -notTuple, r1, r2, nt_intG]
 refine hK _ _ ?_; clear hK K
 have hle6 := low6.2
 have al6 := ralive_rc (γ := γ) (H := G6)
 have f2 := fill_two
 have q2 : (iv .u8 (key1 2)).length = 32 := by rw [iv_length, key1_32]
 have q4 : (iv .u8 (key1 4)).length = 32 := by rw [iv_length, key1_32]
 refine aw_seq ?_
 refine aw_ops (by kernel_rfl) (fun K hK => ?_)
 simp (disch := first | omega | (simp only [lnS]; try omega)) [-getElem?_pos, -getElem?_neg, -xlen]
 refine ⟨by kernel_rfl, ac_of_rc al6 (by simp [pv_iv, pv_int, pv_bool, pv_string, pv_tup2, pv_tup3, iv_plain, p2_int, p2_bool, p2_string]) ?_⟩
 try simp (disch := first | omega | (simp only [lnS]; try omega)) [-getElem?_pos, -getElem?_neg, -notTuple, r1, r2, nt_intG, -xlen]
 refine ⟨by kernel_rfl, (rosAll_ac (γ := γ) (nro := n) N6 (by simp [cL4, cL3, cL2, cL1]) (by omega)).mono ?_⟩
 rintro av G7 ⟨lw7, F7, hF7, _⟩
 rw [B.all] at hF7
 obtain ⟨a1, a2⟩ := own_nt hF7
 have hal := (own_inv hF7).acc.len
 have hle7 := lw7.2
 have N7 := N6.lowG lw7
 simp (disch := first | omega | (simp only [lnS]; try omega)) [-getElem?_pos, -getElem?_neg, q7, -xbuild, k2, k4, -notTuple, a1, a2, r1, r2, nt_intG, nt_aggG, -xlen, hal, all_zl, q2, q4, -xfill, f2]
 obtain ⟨lw8, b8⟩ := boxed2 (H := G7) (iv .u8 (key1 2) ++ iv .u8 (key1 4)) 38 32
 have gl8 := hget_lt b8
 generalize G7 ++ [some ⟨iv .u8 (key1 2) ++ iv .u8 (key1 4), 38, some 32⟩] = K1 at *
 have hle8 := lw8.2
 refine ⟨by kernel_rfl, (opw_ac (nro := n) (γ := γ) (H := K1) (ps := [key1 2, key1 4]) (k := 4) (a := (x : Nat)) (s := 3) (w := -1) (by omega)).mono ?_⟩
 rintro v K2 ⟨lw9, wv, rfl, iw⟩
 have hwl : whoL (-1) = [] := rfl
 rw [hwl] at iw ⊢
 have hle9 := lw9.2
 have o5 : OpC K2 _ (cO5 x) _ _ _ := opC_row (cO5_wf hx8) (key2_ksv ((lw9.1 _ gl8).trans b8)) iw (nil3 K2).2.2
 have ra := rAllowed_rc (γ := γ) ((N7.lowG lw8).lowG lw9) o5 (cO5_wf hx8)
 rw [B.alw] at ra
 refine ⟨by kernel_rfl, ac_of_rc ra (by simp [pv_iv, pv_int, pv_bool, pv_string, pv_tup2, pv_tup3, iv_plain, p2_int, p2_bool, p2_string]) ?_⟩
 try simp (disch := first | omega | (simp only [lnS]; try omega)) [-getElem?_pos, -getElem?_neg]
 refine hK _ _ ?_; clear hK K
 (refine aw_ret ?_; simp (disch := first | omega | (simp only [lnS]; try omega)) [-getElem?_pos, -getElem?_neg, thenQ_ret, scopeQ_ret, inBlockQ_ret, RQ, resL, resV])
end
end Go.Proofs.Ytdeccbjdhcifiaa
