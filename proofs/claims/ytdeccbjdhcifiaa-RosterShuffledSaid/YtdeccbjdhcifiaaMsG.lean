/-
  The same operations in another order: what is ahead, and the heads.
  The roster hangs on the set alone: the same nodes in another order have the same roster; nodes that neither admit nor remove turn nothing.
  GraphShuffled: the law, walked.
  RosterStill: the law, walked.
  RosterShuffled: the law, walked.
-/
import Derived.Test.YtdeccbjdhcifiaaMsF
import Derived.Test.YtdeccbjdhcifiaaMsE
namespace Go.Proofs.Ytdeccbjdhcifiaa
open Go Go.RowKit
set_option linter.unusedSimpArgs false
set_option linter.unusedVariables false
set_option maxRecDepth 100000
set_option maxHeartbeats 4000000
section
theorem nd_push {m : List NodeD} {x : NodeD} {a : Nat} (h : a < m.length) : nd (m ++ [x]) a = nd m a := by
  unfold nd
  rw [List.getD_eq_getElem?_getD, List.getD_eq_getElem?_getD, List.getElem?_append_left h]
theorem nd_last (m : List NodeD) (x : NodeD) : nd (m ++ [x]) m.length = x := nd_eq (by rw [List.getElem?_append_right (Nat.le_refl _)]; simp)
theorem findN_eq_none {l : List NodeD} {n : Nat} {k : List Int} (h : ∀ a, a < n → (nd l a).id ≠ k) : findN l n k = none := by
  unfold findN
  rw [List.find?_eq_none]
  intro a ha
  have := h a (List.mem_range.1 ha)
  simpa using this
theorem stepB_congr {l m : List NodeD} {i : Nat} (h : ∀ a, a ≤ i → nd l a = nd m a) : stepB l i = stepB m i := by
  have h' : ∀ a, a < i → nd l a = nd m a := fun a ha => h a (by omega)
  unfold stepB
  rw [h i (Nat.le_refl _), pastL_congr h', turnB_congr h']
  have : (fun p => (findN l i p).isSome) = fun p => (findN m i p).isSome := by
    funext p
    rw [find_congr h']
  rw [this, find_congr h']
section
variable {l m : List NodeD}
theorem add_facts {id : List Int} {o : OpD} (h : addE m id o = 0) : rightG m = true ∧ rightO o = true ∧ findN m m.length id = none ∧ m.length ≠ 96 ∧ o.parents.all (fun p => (findN m m.length p).isSome) = true ∧ seqOk m o = true := by
  unfold addE at h
  split at h
  · cases h
  rename_i h1
  split at h
  · cases h
  rename_i h2
  split at h
  · cases h
  rename_i h3
  split at h
  · cases h
  rename_i h4
  split at h
  · cases h
  rename_i h5
  split at h
  · cases h
  rename_i h6
  exact ⟨eq_true_of_ne_false h1, eq_true_of_ne_false h2, by simpa using h3, h4, eq_true_of_ne_false h5, eq_true_of_ne_false h6⟩
theorem rightO_first {o : OpD} (h : rightO o = true) (hk : o.kind ≠ 1) : 0 < o.parents.length := by
  unfold rightO at h
  simp only [Bool.and_eq_true] at h
  have := h.2.2.2.1
  unfold placeB at this
  rw [if_neg hk] at this
  simp only [Bool.and_eq_true, decide_eq_true_eq] at this
  exact this.2.1
theorem add_turn {id : List Int} {o : OpD} (h : addE m id o = 0) : turnB m m.length o (pastL m m.length o.parents) = true := by
  obtain ⟨h1, h2, h3, h4, h5, h6⟩ := add_facts h
  unfold seqOk at h6
  simp only [Bool.and_eq_true, Bool.not_eq_true', Bool.and_eq_false_iff, decide_eq_true_eq, decide_eq_false_iff_not] at h6
  obtain ⟨h7, h8, h9⟩ := h6
  unfold turnB
  rw [(ahead_all m m.length o.parents o.author).1 h9, Bool.true_and, Bool.and_eq_true, decide_eq_true_eq]
  refine ⟨?_, by rw [← h9]; exact h8⟩
  rw [beq_iff_eq, decide_eq_decide]
  constructor
  · intro hk
    rcases h7 with h7 | h7
    · exact absurd hk h7
    · omega
  · intro hn
    refine Decidable.byContradiction fun hk => ?_
    have hp := rightO_first h2 hk
    rw [List.all_eq_true] at h5
    obtain ⟨p, hp⟩ := List.exists_mem_of_length_pos hp
    have := h5 p hp
    rw [hn, findN_zero] at this
    cases this
theorem add_rightG {id : List Int} {o : OpD} (h : addE m id o = 0) : rightG (m ++ [addD m id o]) = true := by
  obtain ⟨h1, h2, h3, h4, h5, h6⟩ := add_facts h
  have hl := rightG_len h1
  have ht := add_turn h
  have hc : ∀ a, a < m.length → nd (m ++ [addD m id o]) a = nd m a := fun a ha => nd_push ha
  unfold rightG
  rw [Bool.and_eq_true, decide_eq_true_eq, List.all_eq_true]
  refine ⟨by simp; omega, fun i hi => ?_⟩
  rw [List.mem_range, List.length_append] at hi
  rcases Nat.lt_or_ge i m.length with hil | hil
  · rw [stepB_congr (fun a ha => hc a (by omega))]
    exact right_step h1 hil
  · have : i = m.length := by simp at hi; omega
    subst this
    rw [step_iff, nd_last]
    have hps : (fun p => (findN (m ++ [addD m id o]) m.length p).isSome) = fun p => (findN m m.length p).isSome := by
      funext p
      rw [find_congr hc]
    have e1 : (addD m id o).op = o := rfl
    have e2 : (addD m id o).id = id := rfl
    have e3 : (addD m id o).past = pastL m m.length o.parents := rfl
    rw [e1, e2, e3, hps, find_congr hc, pastL_congr hc, turnB_congr hc]
    exact ⟨h5, h2, h3, rfl, ht⟩
theorem ids_inj (h : rightG l = true) {i j : Nat} (hi : i < l.length) (hj : j < l.length) (e : (nd l i).id = (nd l j).id) : i = j := by
  rcases Nat.lt_trichotomy i j with hlt | rfl | hlt
  · exact absurd e (ids_ne h hlt hj)
  · rfl
  · exact absurd e.symm (ids_ne h hlt hi)
/-- A part of a graph's operations, in an order of its own. -/
structure Sub (l m : List NodeD) : Prop where
  left : rightG l = true
  right : rightG m = true
  at_ : ∀ j, j < m.length → ∃ i, i < l.length ∧ (nd m j).id = (nd l i).id ∧ (nd m j).op = (nd l i).op
theorem Sub.op (h : Sub l m) {i j : Nat} (hi : i < l.length) (hj : j < m.length) (e : (nd m j).id = (nd l i).id) : (nd m j).op = (nd l i).op := by
  obtain ⟨i', h1, h2, h3⟩ := h.at_ j hj
  obtain rfl : i = i' := ids_inj h.left hi h1 (e.symm.trans h2)
  exact h3
theorem in_past (h : rightG l = true) {i k : Nat} (hi : i < l.length) : (k : Int) ∈ (nd l i).past ↔ ∃ p ∈ (nd l i).op.parents, ∃ a, findN l i p = some a ∧ (a = k ∨ (k : Int) ∈ (nd l a).past) := by
  rw [right_past h hi, mem_pastL, inB_iff]
  refine ⟨fun h => h.2, fun hh => ⟨?_, hh⟩⟩
  obtain ⟨p, hp, a, ha, hor⟩ := hh
  have hal := findN_lt ha
  rcases hor with rfl | hor
  · exact hal
  · obtain ⟨k', e, hk⟩ := past_bd h (by omega) hor
    omega
/-- The same is ahead of the same. -/
theorem Sub.past (h : Sub l m) : ∀ (j : Nat), j < m.length → ∀ (i j' i' : Nat), i < l.length → (nd m j).id = (nd l i).id → j' < m.length → i' < l.length → (nd m j').id = (nd l i').id → ((j' : Int) ∈ (nd m j).past ↔ (i' : Int) ∈ (nd l i).past) := by
  intro j
  induction j using Nat.strongRecOn with
  | ind j ih =>
    intro hj i j' i' hi e hj' hi' e'
    have hop := h.op hi hj e
    rw [in_past h.right hj, in_past h.left hi, hop]
    refine exists_congr fun p => and_congr_right fun hp => ?_
    obtain ⟨a, ha⟩ := right_par h.right hj (by rw [hop]; exact hp)
    obtain ⟨b, hb⟩ := right_par h.left hi hp
    have hal := findN_lt ha
    have hbl := findN_lt hb
    have hia := findN_id ha
    have hib := findN_id hb
    rw [ha, hb]
    have eab : (nd m a).id = (nd l b).id := hia.trans hib.symm
    simp only [Option.some.injEq, exists_eq_left']
    refine or_congr ?_ (ih a hal (by omega) b j' i' (by omega) eab hj' hi' e')
    constructor
    · rintro rfl
      exact ids_inj h.left (by omega) hi' (eab.symm.trans e')
    · rintro rfl
      exact ids_inj h.right (by omega) hj' (eab.trans e'.symm)
/-- What is ahead of what is there is there. -/
theorem Sub.closed (h : Sub l m) : ∀ (j : Nat), j < m.length → ∀ (i i' : Nat), i < l.length → (nd m j).id = (nd l i).id → (i' : Int) ∈ (nd l i).past → ∃ j', j' < m.length ∧ (nd m j').id = (nd l i').id := by
  intro j
  induction j using Nat.strongRecOn with
  | ind j ih =>
    intro hj i i' hi e hp
    have hop := h.op hi hj e
    rw [in_past h.left hi] at hp
    obtain ⟨p, hp, b, hb, hor⟩ := hp
    obtain ⟨a, ha⟩ := right_par h.right hj (by rw [hop]; exact hp)
    have hal := findN_lt ha
    have hbl := findN_lt hb
    have eab : (nd m a).id = (nd l b).id := (findN_id ha).trans (findN_id hb).symm
    rcases hor with rfl | hor
    · exact ⟨a, by omega, eab⟩
    · exact ih a hal (by omega) b i' (by omega) eab hor
theorem ids_nodup (h : rightG l = true) (n : Nat) (hn : n ≤ l.length) (p : Nat → Bool) : (((List.range n).filter p).map fun k => (nd l k).id).Nodup := by
  rw [List.Nodup, List.pairwise_map]
  refine List.Pairwise.imp_of_mem ?_ (List.Pairwise.filter _ List.pairwise_lt_range)
  intro i j hi hj hij
  exact ids_ne h hij (by have := List.mem_range.1 (List.mem_filter.1 hj).1; omega)
theorem mem_ids {n : Nat} {p : Nat → Bool} {k : List Int} : k ∈ ((List.range n).filter p).map (fun k => (nd l k).id) ↔ ∃ i, i < n ∧ p i = true ∧ (nd l i).id = k := by
  rw [List.mem_map]
  refine exists_congr fun i => ?_
  rw [List.mem_filter, List.mem_range]
  exact and_assoc
theorem filtT (n : Nat) : (List.range n).filter (fun _ => true) = List.range n := List.filter_eq_self.2 (fun _ _ => rfl)
theorem leastG {P : Nat → Prop} : ∀ n, (∃ i, i < n ∧ P i) → ∃ i, i < n ∧ P i ∧ ∀ j, j < i → ¬ P j := by
  intro n
  induction n with
  | zero => rintro ⟨i, hi, _⟩; omega
  | succ n ih =>
    rintro ⟨i, hi, hp⟩
    by_cases h : ∃ i, i < n ∧ P i
    · obtain ⟨i, a, b, c⟩ := ih h
      exact ⟨i, by omega, b, c⟩
    · refine ⟨i, hi, hp, fun j hj hpj => h ⟨j, by omega, hpj⟩⟩
theorem Sub.len (h : Sub l m) : m.length ≤ l.length := by
  have := List.Nodup.length_le_of_subset (l₂ := ((List.range l.length).filter fun _ => true).map fun k => (nd l k).id) (ids_nodup h.right m.length (Nat.le_refl _) (fun _ => true)) (fun k hk => by
    obtain ⟨j, hj, _, rfl⟩ := mem_ids.1 hk
    obtain ⟨i, hi, e, _⟩ := h.at_ j hj
    exact mem_ids.2 ⟨i, hi, rfl, e.symm⟩)
  simpa [filtT] using this
/-- As long as not all are there, one may come. -/
theorem Sub.more (h : Sub l m) (hlt : m.length < l.length) (h40 : l.length ≤ 90) : ∃ i, i < l.length ∧ addE m (nd l i).id (nd l i).op = 0 := by
  obtain ⟨i, hi, hno, hle⟩ : ∃ i, i < l.length ∧ (∀ j, j < m.length → (nd m j).id ≠ (nd l i).id) ∧ ∀ i', i' < i → ¬ (∀ j, j < m.length → (nd m j).id ≠ (nd l i').id) := by
    refine leastG l.length ?_
    refine Classical.byContradiction fun hall => ?_
    have := List.Nodup.length_le_of_subset (l₂ := ((List.range m.length).filter fun _ => true).map fun k => (nd m k).id) (ids_nodup h.left l.length (Nat.le_refl _) (fun _ => true)) (fun k hk => by
      obtain ⟨i, hi, _, rfl⟩ := mem_ids.1 hk
      refine Classical.byContradiction fun hn => hall ⟨i, hi, fun j hj e => hn (mem_ids.2 ⟨j, hj, rfl, e⟩)⟩)
    simp [filtT] at this
    omega
  have hthere : ∀ i', i' < i → ∃ j, j < m.length ∧ (nd m j).id = (nd l i').id := fun i' hi' => by
    refine Classical.byContradiction fun hn => hle i' hi' fun j hj e => hn ⟨j, hj, e⟩
  refine ⟨i, hi, ?_⟩
  have hturn := right_turn h.left hi
  unfold turnB at hturn
  simp only [Bool.and_eq_true, decide_eq_true_eq, beq_iff_eq, decide_eq_decide] at hturn
  obtain ⟨hk1, hau, hsq⟩ := hturn
  have f1 := h.right
  have f2 := right_op h.left hi
  have f3 : findN m m.length (nd l i).id = none := findN_eq_none hno
  have hpar : ∀ p ∈ (nd l i).op.parents, ∀ a, findN l i p = some a → ∃ j, j < m.length ∧ findN m m.length p = some j ∧ (nd m j).id = (nd l a).id := fun p hp a ha => by
    obtain ⟨j, hj, e⟩ := hthere a (findN_lt ha)
    have hid := findN_id ha
    refine ⟨j, hj, ?_, e⟩
    rw [← hid, ← e]
    exact find_self h.right hj (Nat.le_refl _)
  have f5 : (nd l i).op.parents.all (fun p => (findN m m.length p).isSome) = true := by
    rw [List.all_eq_true]
    intro p hp
    obtain ⟨a, ha⟩ := right_par h.left hi hp
    obtain ⟨j, hj, e, _⟩ := hpar p hp a ha
    rw [e]; rfl
  have hbefore : ∀ j, j < m.length → ∀ i', i' < l.length → (nd m j).id = (nd l i').id → (nd l i').op.author = (nd l i).op.author → i' < i := fun j hj i' hi' e ea => by
    refine Classical.byContradiction fun hge => ?_
    rcases Nat.eq_or_lt_of_le (Nat.le_of_not_lt hge) with rfl | hgt
    · exact hno j hj e
    · obtain ⟨j', hj', e'⟩ := h.closed j hj i' i hi' e (author_ahead h.left hgt hi' ea.symm)
      exact hno j' hj' e'
  have hall : autA m m.length (nd l i).op.author (pastL m m.length (nd l i).op.parents) = true := by
    unfold autA at hau ⊢
    rw [List.all_eq_true] at hau ⊢
    intro j hj
    rw [List.mem_range] at hj
    by_cases ea : (nd m j).op.author = (nd l i).op.author
    · obtain ⟨i', hi', e, eo⟩ := h.at_ j hj
      have hlt' := hbefore j hj i' hi' e (by rw [← eo]; exact ea)
      have := hau i' (List.mem_range.2 hlt')
      rw [← eo] at this
      have hin : (i' : Int) ∈ (nd l i).past := by simpa [ea] using this
      rw [in_past h.left hi] at hin
      obtain ⟨p, hp, a, ha, hor⟩ := hin
      have hal := findN_lt ha
      obtain ⟨b, hb, hfb, eb⟩ := hpar p hp a ha
      have hinm : (j : Int) ∈ pastL m m.length (nd l i).op.parents := by
        rw [mem_pastL, inB_iff]
        refine ⟨hj, p, hp, b, hfb, ?_⟩
        rcases hor with rfl | hor
        · exact .inl (ids_inj h.right hb hj (eb.trans e.symm))
        · exact .inr ((h.past b hb a j i' (by omega) eb hj hi' e).2 hor)
      simp [hinm]
    · have : ((nd m j).op.author == (nd l i).op.author) = false := by simpa using ea
      simp [this]
  have hcnt : autN m m.length (nd l i).op.author = autN l i (nd l i).op.author := by
    unfold autN
    have hp := (List.perm_ext_iff_of_nodup (ids_nodup h.right m.length (Nat.le_refl _) (fun a => (nd m a).op.author == (nd l i).op.author)) (ids_nodup h.left i (by omega) (fun a => (nd l a).op.author == (nd l i).op.author))).2 (fun k => by
      rw [mem_ids, mem_ids]
      constructor
      · rintro ⟨j, hj, ea, rfl⟩
        obtain ⟨i', hi', e, eo⟩ := h.at_ j hj
        rw [beq_iff_eq] at ea
        have ea' : (nd l i').op.author = (nd l i).op.author := by rw [← eo]; exact ea
        exact ⟨i', hbefore j hj i' hi' e ea', by simp [ea'], e.symm⟩
      · rintro ⟨i', hi', ea, rfl⟩
        obtain ⟨j, hj, e⟩ := hthere i' hi'
        have eo := h.op (by omega) hj e
        exact ⟨j, hj, by rw [eo]; exact ea, e⟩)
    have := hp.length_eq
    simpa using this
  have f6 : seqOk m (nd l i).op = true := by
    have hah := (ahead_all m m.length (nd l i).op.parents (nd l i).op.author).2 hall
    unfold seqOk
    rw [hah, hcnt]
    simp only [decide_true, Bool.and_true, Bool.and_eq_true, Bool.not_eq_true', Bool.and_eq_false_iff, decide_eq_false_iff_not, decide_eq_true_eq]
    refine ⟨?_, hsq⟩
    by_cases hm0 : 0 < m.length
    · refine .inl fun hk => ?_
      have hi0 := hk1.1 hk
      have t0 := right_turn h.right hm0
      unfold turnB at t0
      simp only [Bool.and_eq_true, beq_iff_eq, decide_eq_decide] at t0
      have hk0 := t0.1.2 trivial
      obtain ⟨i', hi', e, eo⟩ := h.at_ 0 hm0
      have t1 := right_turn h.left hi'
      unfold turnB at t1
      simp only [Bool.and_eq_true, beq_iff_eq, decide_eq_decide] at t1
      have := t1.1.1 (by rw [← eo]; exact hk0)
      subst this hi0
      exact hno 0 hm0 e
    · exact .inr hm0
  unfold addE
  rw [f1, f2, f3, f5, f6, if_neg (by simp), if_neg (by simp), if_neg (by simp), if_neg (by omega), if_neg (by simp), if_neg (by simp)]
theorem Sub.nil (h : rightG l = true) : Sub l [] := ⟨h, rfl, fun j hj => by simp at hj⟩
theorem Sub.push (h : Sub l m) {i : Nat} (hi : i < l.length) (h0 : addE m (nd l i).id (nd l i).op = 0) : Sub l (m ++ [addD m (nd l i).id (nd l i).op]) := by
  refine ⟨h.left, add_rightG h0, fun j hj => ?_⟩
  rcases Nat.lt_or_ge j m.length with hjl | hjl
  · rw [nd_push hjl]
    exact h.at_ j hjl
  · have : j = m.length := by simp at hj; omega
    subst this
    rw [nd_last]
    exact ⟨i, hi, rfl, rfl⟩
theorem Sub.all (h : Sub l m) (he : m.length = l.length) : ∀ i, i < l.length → ∃ j, j < m.length ∧ (nd m j).id = (nd l i).id := fun i hi => by
  refine Classical.byContradiction fun hn => ?_
  have := List.Nodup.length_le_of_subset (l₁ := (nd l i).id :: ((List.range m.length).filter fun _ => true).map fun k => (nd m k).id) (l₂ := ((List.range l.length).filter fun _ => true).map fun k => (nd l k).id) (by
    rw [List.nodup_cons]
    exact ⟨fun hm => hn (by obtain ⟨j, hj, _, e⟩ := mem_ids.1 hm; exact ⟨j, hj, e⟩), ids_nodup h.right m.length (Nat.le_refl _) _⟩) (fun k hk => by
    rcases List.mem_cons.1 hk with rfl | hk
    · exact mem_ids.2 ⟨i, hi, rfl, rfl⟩
    · obtain ⟨j, hj, _, rfl⟩ := mem_ids.1 hk
      obtain ⟨i', hi', e, _⟩ := h.at_ j hj
      exact mem_ids.2 ⟨i', hi', rfl, e.symm⟩)
  simp [filtT] at this
  omega
theorem aheadB_nat (h : rightG l = true) {a b : Nat} (ha : a < l.length) (hb : b < l.length) : aheadB l (a : Int) (b : Int) = decide ((a : Int) ∈ (nd l b).past) := by
  rw [Bool.eq_iff_iff, ahead_iff, decide_eq_true_eq]
  constructor
  · rintro ⟨i, j, e1, e2, _, _, _, hh⟩
    obtain rfl : a = i := by omega
    obtain rfl : b = j := by omega
    exact hh
  · intro hh
    exact ⟨a, b, rfl, rfl, ha, hb, h, hh⟩
theorem Sub.ahead (h : Sub l m) (he : m.length = l.length) {a b : Nat} (ha : a < l.length) (hb : b < l.length) : aheadB l (a : Int) (b : Int) = aheadB m (findI m m.length (nd l a).id) (findI m m.length (nd l b).id) := by
  obtain ⟨ja, hja, ea⟩ := h.all he a ha
  obtain ⟨jb, hjb, eb⟩ := h.all he b hb
  unfold findI
  rw [← ea, ← eb, find_self h.right hja (Nat.le_refl _), find_self h.right hjb (Nat.le_refl _)]
  show _ = aheadB m (ja : Int) (jb : Int)
  rw [aheadB_nat h.left ha hb, aheadB_nat h.right hja hjb]
  rw [Bool.eq_iff_iff, decide_eq_true_eq, decide_eq_true_eq]
  exact (h.past jb hjb b ja a hb eb hja ha ea).symm
end
end
section
section
variable {l m : List NodeD}
theorem rightG_takeO (h : rightG l = true) (k : Nat) : rightG (l.take k) = true := by
  have hl := rightG_len h
  unfold rightG
  rw [Bool.and_eq_true, decide_eq_true_eq, List.all_eq_true]
  refine ⟨by rw [List.length_take]; omega, fun i hi => ?_⟩
  rw [List.mem_range, List.length_take] at hi
  have hs := step_iff.1 (right_step h (i := i) (by omega))
  have hc : ∀ a, a < i → nd (l.take k) a = nd l a := fun a ha => nd_take (by omega)
  have hi2 : nd (l.take k) i = nd l i := nd_take (by omega)
  refine step_iff.2 ?_
  rw [hi2, find_congr hc, pastL_congr hc, turnB_congr hc]
  obtain ⟨h1, h2, h3, h4, h5⟩ := hs
  refine ⟨?_, h2, h3, h4, h5⟩
  rw [List.all_eq_true] at h1 ⊢
  intro p hp
  rw [find_congr hc]
  exact h1 p hp
/-- The next node of a graph may come behind those before it. -/
theorem Sub.next (h : Sub l m) (hid : ∀ k, k < m.length → (nd m k).id = (nd l k).id) (hlt : m.length < l.length) (h40 : l.length ≤ 90) : addE m (nd l m.length).id (nd l m.length).op = 0 := by
  have hs : Sub (l.take (m.length + 1)) m := ⟨rightG_takeO h.left _, h.right, fun j hj => ⟨j, by rw [List.length_take]; omega, by rw [nd_take (by omega)]; exact hid j hj, by rw [nd_take (by omega)]; exact h.op (by omega) hj (hid j hj)⟩⟩
  obtain ⟨i, hi, h0⟩ := hs.more (by rw [List.length_take]; omega) (by rw [List.length_take]; omega)
  rw [List.length_take] at hi
  rw [nd_take (by omega)] at h0
  rcases Nat.lt_or_ge i m.length with hlt' | hge
  · exact absurd (hid i hlt') (findN_none (add_facts h0).2.2.1 hlt')
  · obtain rfl : i = m.length := by omega
    exact h0
/-- The same node, there and here. -/
def Sm (l m : List NodeD) (i j : Nat) : Prop := i < l.length ∧ j < m.length ∧ (nd m j).id = (nd l i).id
/-- Two sets of the same nodes. -/
structure Cor (l m : List NodeD) (S T : List Int) : Prop where
  to : ∀ z ∈ S, ∃ i j : Nat, z = i ∧ Sm l m i j ∧ (j : Int) ∈ T
  fro : ∀ z ∈ T, ∃ i j : Nat, z = j ∧ Sm l m i j ∧ (i : Int) ∈ S
theorem Cor.any {S T : List Int} (h : Cor l m S T) (f g : Nat → Bool) (hfg : ∀ i j, Sm l m i j → (i : Int) ∈ S → (j : Int) ∈ T → f i = g j) : (S.any fun a => f a.toNat) = T.any fun a => g a.toNat := by
  rw [Bool.eq_iff_iff, List.any_eq_true, List.any_eq_true]
  constructor
  · rintro ⟨z, hz, hf⟩
    obtain ⟨i, j, rfl, h1, h2⟩ := h.to z hz
    rw [Int.toNat_natCast] at hf
    exact ⟨j, h2, by rw [Int.toNat_natCast, ← hfg i j h1 hz h2]; exact hf⟩
  · rintro ⟨z, hz, hf⟩
    obtain ⟨i, j, rfl, h1, h2⟩ := h.fro z hz
    rw [Int.toNat_natCast] at hf
    exact ⟨i, h2, by rw [Int.toNat_natCast, hfg i j h1 h2 hz]; exact hf⟩
theorem Cor.ros {S T : List Int} (h : Cor l m S T) (hs : Sub l m) {c d : List Bool} (hc : ∀ i j, Sm l m i j → (i : Int) ∈ S → c.getD i false = d.getD j false) (w : Int) : rosB l c S w = rosB m d T w := by
  have hrem : ∀ i j, Sm l m i j → (i : Int) ∈ S → ∀ v, remB l c i v = remB m d j v := fun i j e hi v => by
    unfold remB
    rw [hc i j e hi, hs.op e.1 e.2.1 e.2.2]
  have hah : ∀ a a' b b', Sm l m a a' → Sm l m b b' → ahB l a b = ahB m a' b' := fun a a' b b' ea eb => by
    unfold ahB
    rw [Bool.eq_iff_iff, decide_eq_true_eq, decide_eq_true_eq]
    exact (hs.past b' eb.2.1 b a' a eb.1 eb.2.2 ea.2.1 ea.1 ea.2.2).symm
  have hbes : ∀ a a', Sm l m a a' → besB l c S a = besB m d T a' := fun a a' ea => by
    unfold besB
    refine h.any (fun r => remB l c r (nd l a).op.author && (!ahB l r a && !ahB l a r)) (fun r => remB m d r (nd m a').op.author && (!ahB m r a' && !ahB m a' r)) fun i j e hi hj => ?_
    show (remB l c i (nd l a).op.author && (!ahB l i a && !ahB l a i)) = (remB m d j (nd m a').op.author && (!ahB m j a' && !ahB m a' j))
    rw [hrem i j e hi, hah i j a a' e ea, hah a a' i j ea e, hs.op ea.1 ea.2.1 ea.2.2]
  unfold rosB
  refine h.any (fun a => admB l c S a w && !(S.any fun r => remB l c r.toNat w && !ahB l r.toNat a)) (fun a => admB m d T a w && !(T.any fun r => remB m d r.toNat w && !ahB m r.toNat a)) fun a a' ea ha ha' => ?_
  show (admB l c S a w && !(S.any fun r => remB l c r.toNat w && !ahB l r.toNat a)) = (admB m d T a' w && !(T.any fun r => remB m d r.toNat w && !ahB m r.toNat a'))
  have h1 : (S.any fun r => remB l c r.toNat w && !ahB l r.toNat a) = T.any fun r => remB m d r.toNat w && !ahB m r.toNat a' := by
    refine h.any (fun r => remB l c r w && !ahB l r a) (fun r => remB m d r w && !ahB m r a') fun i j e hi hj => ?_
    show (remB l c i w && !ahB l i a) = (remB m d j w && !ahB m j a')
    rw [hrem i j e hi, hah i j a a' e ea]
  rw [h1]
  unfold admB
  rw [hc a a' ea ha, hbes a a' ea, hs.op ea.1 ea.2.1 ea.2.2]
theorem Sub.corPast (hs : Sub l m) {i j : Nat} (e : Sm l m i j) : Cor l m (nd l i).past (nd m j).past := by
  refine ⟨fun z hz => ?_, fun z hz => ?_⟩
  · obtain ⟨k, rfl, hk⟩ := past_bd hs.left e.1 hz
    obtain ⟨j', hj', e'⟩ := hs.closed j e.2.1 i k e.1 e.2.2 hz
    exact ⟨k, j', rfl, ⟨by have := e.1; omega, hj', e'⟩, (hs.past j e.2.1 i j' k e.1 e.2.2 hj' (by have := e.1; omega) e').2 hz⟩
  · obtain ⟨k, rfl, hk⟩ := past_bd hs.right e.2.1 hz
    have hkm : k < m.length := by have := e.2.1; omega
    obtain ⟨i', hi', e', _⟩ := hs.at_ k hkm
    exact ⟨i', k, rfl, ⟨hi', hkm, e'⟩, (hs.past j e.2.1 i k i' e.1 e.2.2 hkm hi' e').1 hz⟩
theorem Sub.cnts (hs : Sub l m) : ∀ i j, Sm l m i j → (cntsB l).getD i false = (cntsB m).getD j false := by
  intro i
  induction i using Nat.strongRecOn with
  | ind i ih =>
    intro j e
    rw [cnts_at hs.left e.1, cnts_at hs.right e.2.1, hs.op e.1 e.2.1 e.2.2, (hs.corPast e).ros hs (c := cntsB l) (d := cntsB m) (fun a b eab ha => by
      obtain ⟨k, ek, hk⟩ := past_bd hs.left e.1 ha
      exact ih a (by omega) b eab)]
theorem Sub.allR (hs : Sub l m) (he : m.length = l.length) : allR l = allR m := by
  unfold Go.Proofs.Ytdeccbjdhcifiaa.allR
  rw [hs.left, hs.right, if_pos rfl, if_pos rfl]
  congr 1
  funext w
  refine Cor.ros ⟨fun z hz => ?_, fun z hz => ?_⟩ hs (fun i j e _ => hs.cnts i j e) w
  · obtain ⟨h1, h2⟩ := mem_rgZ.1 hz
    obtain ⟨j, hj, e⟩ := hs.all he z.toNat (by omega)
    exact ⟨z.toNat, j, by omega, ⟨by omega, hj, e⟩, mem_rgZ.2 (by omega)⟩
  · obtain ⟨h1, h2⟩ := mem_rgZ.1 hz
    obtain ⟨i, hi, e, _⟩ := hs.at_ z.toNat (by omega)
    exact ⟨i, z.toNat, by omega, ⟨hi, by omega, e⟩, mem_rgZ.2 (by omega)⟩
theorem ros_drop {c : List Bool} {S : List Int} {a : Nat} (hk : 4 ≤ (nd l a).op.kind) (w : Int) : rosB l c (S ++ [(a : Int)]) w = rosB l c S w := by
  have hrem : ∀ v, remB l c a v = false := fun v => by
    unfold remB
    rw [decide_eq_false (by omega), Bool.false_and]
  have hbes : ∀ b, besB l c (S ++ [(a : Int)]) b = besB l c S b := fun b => by
    unfold besB
    rw [List.any_append]
    simp [hrem]
  have hadm : ∀ b v, admB l c (S ++ [(a : Int)]) b v = admB l c S b v := fun b v => by
    unfold admB
    rw [hbes]
  have hno : ∀ T v, admB l c T a v = false := fun T v => by
    unfold admB
    rw [decide_eq_false (show ¬ (nd l a).op.kind = 1 by omega), decide_eq_false (show ¬ (nd l a).op.kind = 2 by omega)]
    simp
  unfold rosB
  rw [List.any_append]
  simp [hrem, hadm, hno]
/-- A node that neither admits nor removes turns nothing. -/
theorem still {x : NodeD} (h : rightG (m ++ [x]) = true) (hm : rightG m = true) (hk : 4 ≤ x.op.kind) : allR (m ++ [x]) = allR m := by
  have hs : Sub (m ++ [x]) m := ⟨h, hm, fun j hj => ⟨j, by simp; omega, by rw [nd_push hj], by rw [nd_push hj]⟩⟩
  unfold allR
  rw [h, hm, if_pos rfl, if_pos rfl]
  congr 1
  funext w
  rw [List.length_append, List.length_singleton, rgZ_succ, ros_drop (by rw [nd_last]; exact hk)]
  refine Cor.ros ⟨fun z hz => ?_, fun z hz => ?_⟩ hs (fun i j e _ => hs.cnts i j e) w
  · obtain ⟨h1, h2⟩ := mem_rgZ.1 hz
    exact ⟨z.toNat, z.toNat, by omega, ⟨by simp; omega, by omega, by rw [nd_push (by omega)]⟩, mem_rgZ.2 (by omega)⟩
  · obtain ⟨h1, h2⟩ := mem_rgZ.1 hz
    exact ⟨z.toNat, z.toNat, by omega, ⟨by simp; omega, by omega, by rw [nd_push (by omega)]⟩, mem_rgZ.2 (by omega)⟩
end
end
section
theorem picks_in {H : AH} {ds : List CD} {u : Value} (ho : OkL [.sl [.int .u8]] ds) (hv : ValL H ds [u]) : ∃ zs : List Int, CD.Val H (.sl (zs.map fun z => [.int .u8 z])) u ∧ (∀ z ∈ zs, 0 ≤ z ∧ z ≤ 255) ∧ zs.length ≤ maxLen := by
  obtain ⟨d, r, rfl, h1, h2⟩ := ho.cons
  obtain rfl := h2.nil
  obtain ⟨zs, rfl, h3, h4⟩ := ok_ints h1
  obtain ⟨u', r', e, h5, h6⟩ := hv.cons
  cases e
  exact ⟨zs, h5, fun z hz => wf_u8 (h3 z hz), h4⟩
theorem picks_at {H : AH} {v : Value} {zs : List Int} (h : CD.Val H (.sl (zs.map fun z => [.int .u8 z])) v) {i : Nat} (hi : i < zs.length) : ∃ p, xindexAddr Try.prog 48 v (.int .i64 (i : Nat)) = some p ∧ notTuple p = true ∧ ∀ G : AH, Low H.length H G → xload Try.prog 5 p G = some (.int .u8 (zs.getD i 0)) := by
  obtain ⟨z, hz⟩ : ∃ z, zs[i]? = some z := ⟨_, List.getElem?_eq_getElem hi⟩
  obtain ⟨j, b, us, hv, hb, hle, hx, hus, hul, hle2, hc, hval⟩ := val_at (P := Try.prog) (t := 48) (e := 5) (sz := 1) h (by kernel_rfl) (by kernel_rfl) (by omega) (fun row hr => by
    obtain ⟨y, _, rfl⟩ := List.mem_map.1 hr; rfl) (i := i) (row := [.int .u8 z]) (by rw [List.getElem?_map, hz]; rfl)
  obtain ⟨u, r, rfl, v1, n1⟩ := hval.cons
  rw [val_int v1] at hus hc
  refine ⟨_, hx, rfl, fun G hG => ?_⟩
  have hbG : hget G j = some b := (hG.1 j (hget_lt hb)).trans hb
  have e : zs.getD i 0 = z := by rw [List.getD_eq_getElem?_getD, hz]; rfl
  have hc0 := hc 0 (by omega)
  rw [e]
  have h1 : isAggD (und Try.prog 5) = false := by kernel_rfl
  have h2 : okD (und Try.prog 5) = true := by kernel_rfl
  unfold xload
  simp only [hbG, h1, h2]
  simpa using hc0
theorem mod_cover {n p i : Nat} (hi : i < n) : ∃ k, k < n ∧ (k + p) % n = i := by
  refine ⟨(i + (n - p % n)) % n, Nat.mod_lt _ (by omega), ?_⟩
  have hp := Nat.mod_lt p (show 0 < n by omega)
  rw [Nat.mod_add_mod]
  have e : i + (n - p % n) + p = i + (n - p % n + p % n) + n * (p / n) := by have := Nat.div_add_mod p n; omega
  rw [e, Nat.add_mul_mod_self_left, show n - p % n + p % n = n by omega, Nat.add_mod_right, Nat.mod_eq_of_lt hi]
/-- Nodes that came so far, where they lie. -/
structure Took (n : Nat) (H : AH) (l : List NodeD) (G : AH) (mv : Value) (m : List NodeD) : Prop where
  low : Low n H G
  nda : NdA G mv m
  sub : Sub l m
theorem Took.keep {n : Nat} {H G K : AH} {l m : List NodeD} {mv : Value} (h : Took n H l G mv m) (hk : Low G.length G K) : Took n H l K mv m :=
  ⟨⟨fun j hj => (hk.1 j (by have := h.low.2; omega)).trans (h.low.1 j hj), by have := h.low.2; have := hk.2; omega⟩, h.nda.lowG hk, h.sub⟩
attribute [local simp] wb_bool wb_undef with_lit XL_nil XL_cons XLc_val XLc_call step1_eq stepW_t stepW_f stepC_n stepC_s stepX_s stepX_n stepN_s calleeX oneV xop_eq xopR_s xopR_n wantedA_eq wantedG_n wantedG_s plain1_int plain1_bool plain1_string bits_i64 bits_u64 bits_u32 bits_u16 bits_u8 xeqA xagg xcmp xarr allK_iv num_iv calleeOf xread xeff xbin xint xnil xun xstr xload xconv xpart xfield xfieldAddr xindexAddr xindex bnd asInt? xslice xlen xmin xmax xbuild xfill xappend xapp2 xappstr xappmk xcap xcopy xcells eval_tmp eval_const put_at put_none fr0_at cells_agg cells_int cells_bool cells_string cells_ptr cells_slice notTuple tab iv_all hget_app hget_app0 hget_cons0 hget_cons set_app set_app0 setR setR_one QL_nil QL_cons QLc_val stepQ_t stepQ_f stepQC_n stepQC_s stepQX_s SL_nil SL_cons SLc_val stepS_t stepS_f ltT ltF leT leF eqT eqF ltTn ltFn leTn leFn eqTn eqFn beqT beqF bneT bneF wi64 wu64 wu32 wu16 wu8 tmodP tdivP hgetL hgetNe hgetEq setL nums_def nums_len Nat.succ_le_of_lt List.getElem?_cons_zero List.getElem?_cons_succ Option.getD_some Int.toNat_add Int.toNat_mul agM okM agB agI agS agP agL agA okB okI okS okP okSl okA
end
section
theorem took_wf {l m : List NodeD} {H G : AH} {n : Nat} {mv : Value} (hT : Took n H l G mv m) {r : Nat} (hr : (nd l r).Wf) : ∀ x ∈ m ++ [addD m (nd l r).id (nd l r).op], x.Wf := fun x hx => by
  rcases List.mem_append.1 hx with hx | hx
  · exact hT.nda.wf x hx
  · rw [List.mem_singleton] at hx
    subst hx
    have hm96 := rightG_len hT.sub.right
    refine ⟨hr.id, hr.op, fun z hz => ?_, ?_⟩
    · obtain ⟨k1, rfl, hk1, _⟩ := pastL_bd hz
      unfold I64
      omega
    · have := pastL_length m m.length (nd l r).op.parents
      show (pastL m m.length (nd l r).op.parents).length ≤ maxLen
      simp only [maxLen]
      omega
theorem allR_le (l : List NodeD) : (allR l).length ≤ maxLen := by
  have := membL_le (rosB l (cntsB l) (rgZ l.length)) 8
  unfold allR
  split
  · simp only [maxLen]; omega
  · simp
attribute [local simp] wb_bool wb_undef with_lit XL_nil XL_cons XLc_val XLc_call step1_eq stepW_t stepW_f stepC_n stepC_s stepX_s stepX_n stepN_s calleeX oneV xop_eq xopR_s xopR_n wantedA_eq wantedG_n wantedG_s plain1_int plain1_bool plain1_string bits_i64 bits_u64 bits_u32 bits_u16 bits_u8 xeqA xagg xcmp xarr allK_iv num_iv calleeOf xread xeff xbin xint xnil xun xstr xload xconv xpart xfield xfieldAddr xindexAddr xindex bnd asInt? xslice xlen xmin xmax xbuild xfill xappend xapp2 xappstr xappmk xcap xcopy xcells eval_tmp eval_const put_at put_none fr0_at cells_agg cells_int cells_bool cells_string cells_ptr cells_slice notTuple tab iv_all hget_app hget_app0 hget_cons0 hget_cons set_app set_app0 setR setR_one QL_nil QL_cons QLc_val stepQ_t stepQ_f stepQC_n stepQC_s stepQX_s SL_nil SL_cons SLc_val stepS_t stepS_f ltT ltF leT leF eqT eqF ltTn ltFn leTn leFn eqTn eqFn beqT beqF bneT bneF wi64 wu64 wu32 wu16 wu8 tmodP tdivP hgetL hgetNe hgetEq setL nums_def nums_len Nat.succ_le_of_lt List.getElem?_cons_zero List.getElem?_cons_succ Option.getD_some Int.toNat_add Int.toNat_mul agM okM agB agI agS agP agL agA okB okI okS okP okSl okA
theorem still_law {γ : Nat → Option Nat} {H : AH} {ds : List CD} {u : Value} (ho : OkL [.sl nodeK] ds) (hv : ValL H ds [u]) : AC Try.prog H.length γ 7 #[u] H (fun v' _ => v' = .bool true) := by
  obtain ⟨l, hV, hw, hm⟩ := nodes_in ho hv
  have hN := hV.nda hw
  have al := ralive_rc (γ := γ) (H := H)
  have gr := greatG_rc (γ := γ) hN
  have rr := graph_right_rc (γ := γ) hN
  obtain ⟨v1, v2⟩ := val_nt hV
  have hxl := hN.len
  refine ac_of_aw Try.func7 rfl Try.ntmps7 Try.results7 (by simp) ?_
  refine aw_seq ?_
  (refine aw_ops (by kernel_rfl) (fun K hK => ?_); simp (disch := first | omega | (simp only [lnS]; try omega; done)) [-getElem?_pos, -getElem?_neg]; refine hK _ _ ?_; clear hK K)
  refine aw_seq ?_
  refine aw_seq ?_
  refine aw_ops (by kernel_rfl) (fun K hK => ?_)
  simp (disch := first | omega | (simp only [lnS]; try omega; done)) [-getElem?_pos, -getElem?_neg]
  refine ⟨by kernel_rfl, ac_of_rc al (by simp [pv_iv, pv_int, pv_bool, pv_string, pv_tup2, pv_tup3, iv_plain, p2_int, p2_bool, p2_string]) ?_⟩
  try simp (disch := first | omega | (simp only [lnS]; try omega; done)) [-getElem?_pos, -getElem?_neg]
  refine hK _ _ ?_; clear hK K
  refine aw_f (by (first | (simp [eval_tmp, put_at]; done) | (simp [eval_tmp, put_at]; omega))) (by kernel_rfl) ?_
  refine aw_skip ?_
  refine aw_seq ?_
  refine aw_seq ?_
  refine aw_cut (fun α G => α 20 = .bool (greatG l || (decide (40 < l.length) || !rightG l)) ∧ α 0 = u ∧ G = H) ?_ ?_
  · refine aw_ops (by kernel_rfl) (fun K hK => ?_)
    simp (disch := first | omega | (simp only [lnS]; try omega; done)) [-getElem?_pos, -getElem?_neg, -notTuple, v1, v2, nt_intG]
    refine ⟨by kernel_rfl, ac_of_rc gr (by simp [pv_iv, pv_int, pv_bool, pv_string, pv_tup2, pv_tup3, iv_plain, p2_int, p2_bool, p2_string]) ?_⟩
    cases hg : greatG l with
    | true =>
      try simp (disch := first | omega | (simp only [lnS]; try omega; done)) [-getElem?_pos, -getElem?_neg]
      refine hK _ _ ?_; clear hK K
      exact ⟨by rw [hg]; (first | (simp [put_at, put_none, fr0_at]; done) | rfl), by (first | (simp [put_at, put_none, fr0_at]; done) | rfl), rfl⟩
    | false =>
      by_cases h40 : 40 < l.length
      · try simp (disch := first | omega | (simp only [lnS]; try omega; done)) [-getElem?_pos, -getElem?_neg, -notTuple, v1, v2, nt_intG, -xlen, hxl, h40]
        refine hK _ _ ?_; clear hK K
        exact ⟨by rw [hg]; simp [h40, put_at], by (first | (simp [put_at, put_none, fr0_at]; done) | rfl), rfl⟩
      · try simp (disch := first | omega | (simp only [lnS]; try omega; done)) [-getElem?_pos, -getElem?_neg, -notTuple, v1, v2, nt_intG, -xlen, hxl, h40]
        refine ⟨by kernel_rfl, ac_of_rc rr (by simp [pv_iv, pv_int, pv_bool, pv_string, pv_tup2, pv_tup3, iv_plain, p2_int, p2_bool, p2_string]) ?_⟩
        cases hr : rightG l with
        | true =>
          try simp (disch := first | omega | (simp only [lnS]; try omega; done)) [-getElem?_pos, -getElem?_neg]
          refine hK _ _ ?_; clear hK K
          exact ⟨by rw [hg, hr]; simp [h40, put_at], by (first | (simp [put_at, put_none, fr0_at]; done) | rfl), rfl⟩
        | false =>
          try simp (disch := first | omega | (simp only [lnS]; try omega; done)) [-getElem?_pos, -getElem?_neg]
          refine hK _ _ ?_; clear hK K
          exact ⟨by rw [hg, hr]; simp [h40, put_at], by (first | (simp [put_at, put_none, fr0_at]; done) | rfl), rfl⟩
  rintro α G ⟨q20, q0, rfl⟩
  cases hb : (greatG l || (decide (40 < l.length) || !rightG l)) with
  | true =>
    rw [hb] at q20
    refine aw_t (by (first | (simp [eval_tmp, put_at, q20]; done) | (simp [eval_tmp, put_at, q20]; omega))) (by kernel_rfl) ?_
    refine aw_seq ?_
    refine aw_ops (by kernel_rfl) (fun K hK => ?_)
    simp (disch := first | omega | (simp only [lnS]; try omega; done)) [-getElem?_pos, -getElem?_neg]
    refine ⟨by kernel_rfl, ac_of_rc al (by simp [pv_iv, pv_int, pv_bool, pv_string, pv_tup2, pv_tup3, iv_plain, p2_int, p2_bool, p2_string]) ?_⟩
    try simp (disch := first | omega | (simp only [lnS]; try omega; done)) [-getElem?_pos, -getElem?_neg]
    refine hK _ _ ?_; clear hK K
    (refine aw_ret ?_; simp (disch := first | omega | (simp only [lnS]; try omega; done)) [-getElem?_pos, -getElem?_neg, thenQ_ret, scopeQ_ret, inBlockQ_ret, RQ, resL, resV])
  | false =>
  rw [hb] at q20
  refine aw_f (by (first | (simp [eval_tmp, put_at, q20]; done) | (simp [eval_tmp, put_at, q20]; omega))) (by kernel_rfl) ?_
  refine aw_skip ?_
  simp only [Bool.or_eq_false_iff, decide_eq_false_iff_not, Bool.not_eq_false'] at hb
  obtain ⟨hg, h40, hr⟩ := hb
  have h40 : l.length ≤ 40 := by omega
  obtain ⟨n, hn⟩ : ∃ n, n = G.length := ⟨_, rfl⟩
  rw [← hn]
  refine aw_seq ?_
  (refine aw_ops (by kernel_rfl) (fun K hK => ?_); simp (disch := first | omega | (simp only [lnS]; try omega; done)) [-getElem?_pos, -getElem?_neg]; refine hK _ _ ?_; clear hK K)
  refine aw_seq ?_
  refine aw_seq ?_
  (refine aw_ops (by kernel_rfl) (fun K hK => ?_); simp (disch := first | omega | (simp only [lnS]; try omega; done)) [-getElem?_pos, -getElem?_neg]; refine hK _ _ ?_; clear hK K)
  refine aw_block ?_
  refine aw_loop (fun c α G2 => ∃ (mv : Value) (m : List NodeD), m.length + c = l.length ∧ α 0 = u ∧ α 3 = mv ∧ α 4 = .int .i64 (m.length : Nat) ∧ Took n G l G2 mv m ∧ ∀ k, k < m.length → (nd m k).id = (nd l k).id) l.length ?_ ?_
  · exact ⟨.slice none 0 0, [], by simp, by (first | (simp [put_at, put_none, fr0_at, q0]; done) | rfl), by (first | (simp [put_at, put_none, fr0_at]; done) | rfl), by (first | (simp [put_at, put_none, fr0_at]; done) | rfl), ⟨by rw [hn]; exact Low.refl (Nat.le_refl _), nil_nda _, Sub.nil hr⟩, fun k hk => by simp at hk⟩
  clear q0 q20
  rintro c α G2 ⟨mv, m, hmc, q0, q3, q4, hT, hids⟩
  have m1 := hT.nda.nt
  have m2 := hT.nda.cs
  refine aw_seq ?_
  refine aw_seq ?_
  by_cases hml : m.length < l.length
  case neg =>
    (refine aw_ops (by kernel_rfl) (fun K hK => ?_); simp (disch := first | omega | (simp only [lnS]; try omega; done)) [-getElem?_pos, -getElem?_neg, q0, q4, -notTuple, v1, v2, m1, m2, nt_intG, -xlen, hxl, hml]; refine hK _ _ ?_; clear hK K)
    refine aw_f (by (first | (simp [eval_tmp, put_at, hml]; done) | (simp [eval_tmp, put_at, hml]; omega))) (by kernel_rfl) ?_
    refine aw_exit ?_
    have al2 := ralive_rc (γ := γ) (H := G2)
    refine aw_seq ?_
    refine aw_ops (by kernel_rfl) (fun K hK => ?_)
    simp (disch := first | omega | (simp only [lnS]; try omega; done)) [-getElem?_pos, -getElem?_neg]
    refine ⟨by kernel_rfl, ac_of_rc al2 (by simp [pv_iv, pv_int, pv_bool, pv_string, pv_tup2, pv_tup3, iv_plain, p2_int, p2_bool, p2_string]) ?_⟩
    try simp (disch := first | omega | (simp only [lnS]; try omega; done)) [-getElem?_pos, -getElem?_neg]
    refine hK _ _ ?_; clear hK K
    (refine aw_ret ?_; simp (disch := first | omega | (simp only [lnS]; try omega; done)) [-getElem?_pos, -getElem?_neg, thenQ_ret, scopeQ_ret, inBlockQ_ret, RQ, resL, resV])
  have h0 := hT.sub.next hids hml (by omega)
  have hrw := hw _ (List.mem_of_getElem? (nd_get hml))
  obtain ⟨j, q, bb, us, pv, wv, bv, qv, hx, hbb, hq, hcell, hus, hC⟩ := hN.at_ m.length _ (nd_get hml)
  have hlow := hT.low
  have hle0 := hlow.2
  have hbG : hget G2 j = some bb := (hlow.1 j (by have := hget_lt hbb; omega)).trans hbb
  have hid : (bb.cells.drop q).take 32 = iv .u8 (nd l m.length).id := by
    have := hC.id
    rw [hus, List.take_take] at this
    simpa using this
  obtain ⟨u7, hu7⟩ : ∃ u7, (bb.cells.drop (q + 32)).take 71 = u7 := ⟨_, rfl⟩
  have hO0 := hC.op
  rw [hus, ← op_cut, hu7] at hO0
  have hO : OpC G2 u7 (nd l m.length).op pv wv bv := hO0.low (fun k hk => hlow.1 k (by omega))
  have hul := hO.len
  have c3 : bb.cells[q + 35]? = some (.int .i64 (nd l m.length).op.kind) := by
    rw [hcell 35 (by omega)]
    have := hC.op.c3
    rwa [List.getElem?_take_of_lt (by omega), List.getElem?_drop] at this
  have hivl : (iv .u8 (nd l m.length).id).length = 32 := by rw [iv_length, hrw.id.1]
  have hadd := (add_rc (γ := γ) hT.nda hrw.id hO hrw.op).thaw (nro := n) (fun v G' h => ⟨h.1.2, h.1.1⟩)
  (refine aw_ops (by kernel_rfl) (fun K hK => ?_); simp (disch := first | omega | (simp only [lnS]; try omega; done)) [-getElem?_pos, -getElem?_neg, q0, q4, -notTuple, v1, v2, m1, m2, nt_intG, -xlen, hxl, hml]; refine hK _ _ ?_; clear hK K)
  refine aw_t (by (first | (simp [eval_tmp, put_at, hml]; done) | (simp [eval_tmp, put_at, hml]; omega))) (by kernel_rfl) ?_
  refine aw_skip ?_
  refine aw_seq ?_
  refine aw_block ?_
  refine aw_seq ?_
  refine aw_cut (fun α2 G4 => α2 0 = u ∧ α2 3 = mv ∧ α2 4 = .int .i64 (m.length : Nat) ∧ ∃ sv, α2 5 = sv ∧ α2 6 = .int .i64 0 ∧ Low G2.length G2 G4 ∧ NewG G2.length G4 sv (m ++ [addD m (nd l m.length).id (nd l m.length).op])) ?_ ?_
  · (refine aw_ptree [0, 1, 2, 3, 4, 6, 7, 8, 9] 8 [[5, 10, 11, 12, 13, 14, 15, 16], [5, 10, 11, 12, 13, 15, 14, 16], [5, 10, 11, 12, 14, 13, 15, 16], [10, 5, 11, 12, 13, 14, 15, 16], [10, 5, 11, 12, 13, 15, 14, 16], [10, 5, 11, 12, 14, 13, 15, 16]] (by kernel_rfl) (by kernel_rfl) (by kernel_rfl) (fun K hK => ?_)); simp only [sel, List.getElem?_cons_succ, List.getElem?_cons_zero]; simp (disch := first | omega | (simp only [lnS]; try omega; done)) [-getElem?_pos, -getElem?_neg, q0, q3, q4, -notTuple, v1, v2, m1, m2, nt_intG, nt_aggG, nt_ptrG, -xindexAddr, hx, hbG, hid, hu7, hul, hq, hivl, XO_s, XO_z, XLk_val, XLk_call, headsO, behind, List.length_cons, List.length_nil, List.mem_cons, List.not_mem_nil, or_false, forall_eq_or_imp, forall_eq, List.contains_cons, List.contains_nil]
    refine ⟨⟨by kernel_rfl, hadd.mono ?_⟩, by kernel_rfl, hadd.mono ?_⟩
    all_goals rintro v G4 ⟨low4, sv, rfl, ⟨_, hnew⟩ | ⟨h0', _⟩⟩
    case inr | inr => exact absurd h0 h0'
    all_goals (obtain ⟨s1, s2⟩ := hnew.sh; rw [h0])
    · simp (disch := first | omega | (simp only [lnS]; try omega; done)) [-getElem?_pos, -getElem?_neg, -notTuple, s1, s2, nt_intG, XO_s, XO_z, XLk_val, XLk_call, headsO, behind, List.length_cons, List.length_nil, List.mem_cons, List.not_mem_nil, or_false, forall_eq_or_imp, forall_eq, List.contains_cons, List.contains_nil]
      refine ⟨⟨hK _ _ ?_, hK _ _ ?_⟩, hK _ _ ?_⟩ <;> exact ⟨by (first | (simp [put_at, put_none, fr0_at, q0]; done) | rfl), by (first | (simp [put_at, put_none, fr0_at, q3]; done) | rfl), by (first | (simp [put_at, put_none, fr0_at, q4]; done) | rfl), sv, by (first | (simp [put_at, put_none, fr0_at]; done) | rfl), by (first | (simp [put_at, put_none, fr0_at]; done) | rfl), low4, hnew⟩
    · simp (disch := first | omega | (simp only [lnS]; try omega; done)) [-getElem?_pos, -getElem?_neg, -notTuple, s1, s2, nt_intG, XO_s, XO_z, XLk_val, XLk_call, headsO, behind, List.length_cons, List.length_nil, List.mem_cons, List.not_mem_nil, or_false, forall_eq_or_imp, forall_eq, List.contains_cons, List.contains_nil]
      refine ⟨⟨hK _ _ ?_, hK _ _ ?_⟩, hK _ _ ?_⟩ <;> exact ⟨by (first | (simp [put_at, put_none, fr0_at, q0]; done) | rfl), by (first | (simp [put_at, put_none, fr0_at, q3]; done) | rfl), by (first | (simp [put_at, put_none, fr0_at, q4]; done) | rfl), sv, by (first | (simp [put_at, put_none, fr0_at]; done) | rfl), by (first | (simp [put_at, put_none, fr0_at]; done) | rfl), low4, hnew⟩
  clear q0 q3 q4
  rintro α G4 ⟨q0, q3, q4, sv, q5, q6, low4, hnew⟩
  obtain ⟨s1, s2⟩ := hnew.sh
  have hT4 : Took n G l G4 sv (m ++ [addD m (nd l m.length).id (nd l m.length).op]) := ⟨(hT.keep low4).low, hnew.nda (took_wf hT hrw) (fun _ _ _ => rfl), hT.sub.push hml h0⟩
  have hTm := hT.keep low4
  have hle4 := hT4.low.2
  have hle24 := low4.2
  have xl3 : xload Try.prog 3 (.pointer (some ⟨j, q + 35, none⟩)) G4 = some (.int .i64 (nd l m.length).op.kind) := by simp [xload, (low4.1 j (hget_lt hbG)).trans hbG, c3]
  refine aw_seq ?_
  refine aw_seq ?_
  (refine aw_ops (by kernel_rfl) (fun K hK => ?_); simp (disch := first | omega | (simp only [lnS]; try omega; done)) [-getElem?_pos, -getElem?_neg, q6]; refine hK _ _ ?_; clear hK K)
  refine aw_f (by (first | (simp [eval_tmp, put_at]; done) | (simp [eval_tmp, put_at]; omega))) (by kernel_rfl) ?_
  refine aw_skip ?_
  refine aw_seq ?_
  refine aw_seq ?_
  refine aw_cut (fun α G5 => α 59 = .bool false ∧ α 0 = u ∧ α 4 = .int .i64 (m.length : Nat) ∧ α 5 = sv ∧ Low G4.length G4 G5) ?_ ?_
  · by_cases hk : 4 ≤ (nd l m.length).op.kind
    case neg =>
      (refine aw_ops (by kernel_rfl) (fun K hK => ?_); simp (disch := first | omega | (simp only [lnS]; try omega; done)) [-getElem?_pos, -getElem?_neg, q0, q4, -notTuple, v1, v2, m1, m2, nt_intG, nt_ptrG, -xindexAddr, hx, -xload, xl3, hk]; refine hK _ _ ?_; clear hK K)
      exact ⟨by (first | (simp [put_at, put_none, fr0_at]; done) | rfl), by (first | (simp [put_at, put_none, fr0_at, q0]; done) | rfl), by (first | (simp [put_at, put_none, fr0_at, q4]; done) | rfl), by (first | (simp [put_at, put_none, fr0_at, q5]; done) | rfl), Low.refl (Nat.le_refl _)⟩
    refine aw_ops (by kernel_rfl) (fun K hK => ?_)
    simp (disch := first | omega | (simp only [lnS]; try omega; done)) [-getElem?_pos, -getElem?_neg, q0, q3, q4, -notTuple, v1, v2, m1, m2, nt_intG, nt_ptrG, -xindexAddr, hx, -xload, xl3, hk]
    refine ⟨by kernel_rfl, (rosAll_ac (γ := γ) (nro := n) hTm.nda (by omega) (by omega)).mono ?_⟩
    rintro av G5 ⟨lw5, FA, hFA, hFAl⟩
    obtain ⟨a1, a2⟩ := own_nt hFA
    have iA := own_inv hFA
    have hle5 := lw5.2
    simp (disch := first | omega | (simp only [lnS]; try omega; done)) [-getElem?_pos, -getElem?_neg, q5, -notTuple, a1, a2, s1, s2, nt_intG]
    refine ⟨by kernel_rfl, (rosAll_ac (γ := γ) (nro := n) (hT4.nda.lowG lw5) (by simp; omega) (by omega)).mono ?_⟩
    rintro bv2 G6 ⟨lw6, FB, hFB, hFBl⟩
    obtain ⟨b1, b2⟩ := own_nt hFB
    have iB := own_inv hFB
    have hle6 := lw6.2
    have si := sameInts_rc (γ := γ) (iA.lowG lw6) iB (allR_le _)
    rw [decide_eq_true (still hT4.sub.right hT.sub.right hk).symm] at si
    try simp (disch := first | omega | (simp only [lnS]; try omega; done)) [-getElem?_pos, -getElem?_neg, -notTuple, a1, a2, b1, b2, nt_intG]
    refine ⟨by kernel_rfl, ac_of_rc si (by simp [pv_iv, pv_int, pv_bool, pv_string, pv_tup2, pv_tup3, iv_plain, p2_int, p2_bool, p2_string]) ?_⟩
    try simp (disch := first | omega | (simp only [lnS]; try omega; done)) [-getElem?_pos, -getElem?_neg]
    refine hK _ _ ?_; clear hK K
    exact ⟨by (first | (simp [put_at, put_none, fr0_at]; done) | rfl), by (first | (simp [put_at, put_none, fr0_at, q0]; done) | rfl), by (first | (simp [put_at, put_none, fr0_at, q4]; done) | rfl), by (first | (simp [put_at, put_none, fr0_at, q5]; done) | rfl), lw5.both lw6⟩
  clear q0 q3 q4 q5 q6
  rintro α G5 ⟨q59, q0, q4, q5, lw5⟩
  refine aw_f (by (first | (simp [eval_tmp, put_at, q59]; done) | (simp [eval_tmp, put_at, q59]; omega))) (by kernel_rfl) ?_
  refine aw_skip ?_
  (refine aw_ops (by kernel_rfl) (fun K hK => ?_); simp (disch := first | omega | (simp only [lnS]; try omega; done)) [-getElem?_pos, -getElem?_neg, q5, -notTuple, s1, s2]; refine hK _ _ ?_; clear hK K)
  (refine aw_ops (by kernel_rfl) (fun K hK => ?_); simp (disch := first | omega | (simp only [lnS]; try omega; done)) [-getElem?_pos, -getElem?_neg, q4]; refine hK _ _ ?_; clear hK K)
  exact ⟨c - 1, by omega, sv, _, by simp; omega, by (first | (simp [put_at, put_none, fr0_at, q0]; done) | rfl), by (first | (simp [put_at, put_none, fr0_at]; done) | rfl), by (first | (simp [put_at, put_none, fr0_at]; done) | rfl), hT4.keep lw5, fun k hk => by
    rcases Nat.lt_or_ge k m.length with hkl | hkl
    · rw [nd_push hkl]; exact hids k hkl
    · obtain rfl : k = m.length := by simp at hk; omega
      rw [nd_last]
      rfl⟩
end
section
attribute [local simp] wb_bool wb_undef with_lit XL_nil XL_cons XLc_val XLc_call step1_eq stepW_t stepW_f stepC_n stepC_s stepX_s stepX_n stepN_s calleeX oneV xop_eq xopR_s xopR_n wantedA_eq wantedG_n wantedG_s plain1_int plain1_bool plain1_string bits_i64 bits_u64 bits_u32 bits_u16 bits_u8 xeqA xagg xcmp xarr allK_iv num_iv calleeOf xread xeff xbin xint xnil xun xstr xload xconv xpart xfield xfieldAddr xindexAddr xindex bnd asInt? xslice xlen xmin xmax xbuild xfill xappend xapp2 xappstr xappmk xcap xcopy xcells eval_tmp eval_const put_at put_none fr0_at cells_agg cells_int cells_bool cells_string cells_ptr cells_slice notTuple tab iv_all hget_app hget_app0 hget_cons0 hget_cons set_app set_app0 setR setR_one QL_nil QL_cons QLc_val stepQ_t stepQ_f stepQC_n stepQC_s stepQX_s SL_nil SL_cons SLc_val stepS_t stepS_f ltT ltF leT leF eqT eqF ltTn ltFn leTn leFn eqTn eqFn beqT beqF bneT bneF wi64 wu64 wu32 wu16 wu8 tmodP tdivP hgetL hgetNe hgetEq setL nums_def nums_len Nat.succ_le_of_lt List.getElem?_cons_zero List.getElem?_cons_succ Option.getD_some Int.toNat_add Int.toNat_mul agM okM agB agI agS agP agL agA okB okI okS okP okSl okA
theorem rshuffled_law {γ : Nat → Option Nat} {H : AH} {ds dp : List CD} {u pv : Value} (ho : OkL [.sl nodeK] ds) (hv : ValL H ds [u]) (hop : OkL [.sl [.int .u8]] dp) (hvp : ValL H dp [pv]) : AC Try.prog H.length γ 5 #[u, pv] H (fun v' _ => v' = .bool true) := by
  obtain ⟨l, hV, hw, hm⟩ := nodes_in ho hv
  obtain ⟨zs, hP, hz, hzm⟩ := picks_in hop hvp
  have hN := hV.nda hw
  have hN' := hN
  have al := ralive_rc (γ := γ) (H := H)
  have gr := greatG_rc (γ := γ) hN
  have rr := graph_right_rc (γ := γ) hN
  obtain ⟨v1, v2⟩ := val_nt hV
  obtain ⟨w1, w2⟩ := val_nt hP
  have hxl := hN.len
  have hxp := val_len (P := Try.prog) (t := 48) (e := 5) hP (by kernel_rfl)
  rw [List.length_map] at hxp
  refine ac_of_aw Try.func5 rfl Try.ntmps5 Try.results5 (by simp) ?_
  refine aw_seq ?_
  (refine aw_ops (by kernel_rfl) (fun K hK => ?_); simp (disch := first | omega | (simp only [lnS]; try omega; done)) [-getElem?_pos, -getElem?_neg]; refine hK _ _ ?_; clear hK K)
  refine aw_seq ?_
  refine aw_seq ?_
  refine aw_ops (by kernel_rfl) (fun K hK => ?_)
  simp (disch := first | omega | (simp only [lnS]; try omega; done)) [-getElem?_pos, -getElem?_neg]
  refine ⟨by kernel_rfl, ac_of_rc al (by simp [pv_iv, pv_int, pv_bool, pv_string, pv_tup2, pv_tup3, iv_plain, p2_int, p2_bool, p2_string]) ?_⟩
  try simp (disch := first | omega | (simp only [lnS]; try omega; done)) [-getElem?_pos, -getElem?_neg]
  refine hK _ _ ?_; clear hK K
  refine aw_f (by (first | (simp [eval_tmp, put_at]; done) | (simp [eval_tmp, put_at]; omega))) (by kernel_rfl) ?_
  refine aw_skip ?_
  refine aw_seq ?_
  refine aw_seq ?_
  refine aw_cut (fun α G => α 26 = .bool (greatG l || (decide (30 < l.length) || !rightG l)) ∧ α 0 = u ∧ α 1 = pv ∧ G = H) ?_ ?_
  · refine aw_ops (by kernel_rfl) (fun K hK => ?_)
    simp (disch := first | omega | (simp only [lnS]; try omega; done)) [-getElem?_pos, -getElem?_neg, -notTuple, v1, v2, nt_intG]
    refine ⟨by kernel_rfl, ac_of_rc gr (by simp [pv_iv, pv_int, pv_bool, pv_string, pv_tup2, pv_tup3, iv_plain, p2_int, p2_bool, p2_string]) ?_⟩
    cases hg : greatG l with
    | true =>
      try simp (disch := first | omega | (simp only [lnS]; try omega; done)) [-getElem?_pos, -getElem?_neg]
      refine hK _ _ ?_; clear hK K
      exact ⟨by rw [hg]; (first | (simp [put_at, put_none, fr0_at]; done) | rfl), by (first | (simp [put_at, put_none, fr0_at]; done) | rfl), by (first | (simp [put_at, put_none, fr0_at]; done) | rfl), rfl⟩
    | false =>
      by_cases h40 : 30 < l.length
      · try simp (disch := first | omega | (simp only [lnS]; try omega; done)) [-getElem?_pos, -getElem?_neg, -notTuple, v1, v2, nt_intG, -xlen, hxl, h40]
        refine hK _ _ ?_; clear hK K
        exact ⟨by rw [hg]; simp [h40, put_at], by (first | (simp [put_at, put_none, fr0_at]; done) | rfl), by (first | (simp [put_at, put_none, fr0_at]; done) | rfl), rfl⟩
      · try simp (disch := first | omega | (simp only [lnS]; try omega; done)) [-getElem?_pos, -getElem?_neg, -notTuple, v1, v2, nt_intG, -xlen, hxl, h40]
        refine ⟨by kernel_rfl, ac_of_rc rr (by simp [pv_iv, pv_int, pv_bool, pv_string, pv_tup2, pv_tup3, iv_plain, p2_int, p2_bool, p2_string]) ?_⟩
        cases hr : rightG l with
        | true =>
          try simp (disch := first | omega | (simp only [lnS]; try omega; done)) [-getElem?_pos, -getElem?_neg]
          refine hK _ _ ?_; clear hK K
          exact ⟨by rw [hg, hr]; simp [h40, put_at], by (first | (simp [put_at, put_none, fr0_at]; done) | rfl), by (first | (simp [put_at, put_none, fr0_at]; done) | rfl), rfl⟩
        | false =>
          try simp (disch := first | omega | (simp only [lnS]; try omega; done)) [-getElem?_pos, -getElem?_neg]
          refine hK _ _ ?_; clear hK K
          exact ⟨by rw [hg, hr]; simp [h40, put_at], by (first | (simp [put_at, put_none, fr0_at]; done) | rfl), by (first | (simp [put_at, put_none, fr0_at]; done) | rfl), rfl⟩
  rintro α G ⟨q28, q0, q1, rfl⟩
  cases hb : (greatG l || (decide (30 < l.length) || !rightG l)) with
  | true =>
    rw [hb] at q28
    refine aw_t (by (first | (simp [eval_tmp, put_at, q28]; done) | (simp [eval_tmp, put_at, q28]; omega))) (by kernel_rfl) ?_
    refine aw_seq ?_
    refine aw_ops (by kernel_rfl) (fun K hK => ?_)
    simp (disch := first | omega | (simp only [lnS]; try omega; done)) [-getElem?_pos, -getElem?_neg]
    refine ⟨by kernel_rfl, ac_of_rc al (by simp [pv_iv, pv_int, pv_bool, pv_string, pv_tup2, pv_tup3, iv_plain, p2_int, p2_bool, p2_string]) ?_⟩
    try simp (disch := first | omega | (simp only [lnS]; try omega; done)) [-getElem?_pos, -getElem?_neg]
    refine hK _ _ ?_; clear hK K
    (refine aw_ret ?_; simp (disch := first | omega | (simp only [lnS]; try omega; done)) [-getElem?_pos, -getElem?_neg, thenQ_ret, scopeQ_ret, inBlockQ_ret, RQ, resL, resV])
  | false =>
  rw [hb] at q28
  refine aw_f (by (first | (simp [eval_tmp, put_at, q28]; done) | (simp [eval_tmp, put_at, q28]; omega))) (by kernel_rfl) ?_
  refine aw_skip ?_
  simp only [Bool.or_eq_false_iff, decide_eq_false_iff_not, Bool.not_eq_false'] at hb
  obtain ⟨hg, h40, hr⟩ := hb
  have h40 : l.length ≤ 30 := by omega
  obtain ⟨n, hn⟩ : ∃ n, n = G.length := ⟨_, rfl⟩
  rw [← hn]
  refine aw_seq ?_
  (refine aw_ops (by kernel_rfl) (fun K hK => ?_); simp (disch := first | omega | (simp only [lnS]; try omega; done)) [-getElem?_pos, -getElem?_neg]; refine hK _ _ ?_; clear hK K)
  refine aw_seq ?_
  refine aw_seq ?_
  (refine aw_ops (by kernel_rfl) (fun K hK => ?_); simp (disch := first | omega | (simp only [lnS]; try omega; done)) [-getElem?_pos, -getElem?_neg]; refine hK _ _ ?_; clear hK K)
  refine aw_block ?_
  refine aw_loop (fun c α G2 => ∃ (mv : Value) (m : List NodeD), m.length + c = l.length ∧ α 0 = u ∧ α 1 = pv ∧ α 5 = mv ∧ α 6 = .int .i64 (m.length : Nat) ∧ Took n G l G2 mv m) l.length ?_ ?_
  · exact ⟨.slice none 0 0, [], by simp, by (first | (simp [put_at, put_none, fr0_at, q0]; done) | rfl), by (first | (simp [put_at, put_none, fr0_at, q1]; done) | rfl), by (first | (simp [put_at, put_none, fr0_at]; done) | rfl), by (first | (simp [put_at, put_none, fr0_at]; done) | rfl), ⟨by rw [hn]; exact Low.refl (Nat.le_refl _), nil_nda _, Sub.nil hr⟩⟩
  clear q0 q1 q28
  rintro c α G2 ⟨mv, m, hmc, q0, q1, q5, q6, hT⟩
  have m1 := hT.nda.nt
  have m2 := hT.nda.cs
  have hxm := hT.nda.len
  refine aw_seq ?_
  refine aw_seq ?_
  by_cases hml : m.length < l.length
  case neg =>
    have he : m.length = l.length := by omega
    (refine aw_ops (by kernel_rfl) (fun K hK => ?_); simp (disch := first | omega | (simp only [lnS]; try omega; done)) [-getElem?_pos, -getElem?_neg, q0, q5, -notTuple, v1, v2, m1, m2, nt_intG, -xlen, hxl, hxm, hml]; refine hK _ _ ?_; clear hK K)
    refine aw_f (by (first | (simp [eval_tmp, put_at, hml]; done) | (simp [eval_tmp, put_at, hml]; omega))) (by kernel_rfl) ?_
    refine aw_exit ?_
    have hle2 := hT.low.2
    have hNG : NdA G2 u l := hN.lowG (hn ▸ hT.low)
    have al2 := ralive_rc (γ := γ) (H := G2)
    refine aw_seq ?_
    refine aw_ops (by kernel_rfl) (fun K hK => ?_)
    simp (disch := first | omega | (simp only [lnS]; try omega; done)) [-getElem?_pos, -getElem?_neg]
    refine ⟨by kernel_rfl, ac_of_rc al2 (by simp [pv_iv, pv_int, pv_bool, pv_string, pv_tup2, pv_tup3, iv_plain, p2_int, p2_bool, p2_string]) ?_⟩
    try simp (disch := first | omega | (simp only [lnS]; try omega; done)) [-getElem?_pos, -getElem?_neg, q0, q5, -notTuple, v1, v2, m1, m2, nt_intG]
    refine ⟨by kernel_rfl, (rosAll_ac (γ := γ) (nro := n) hNG (by omega) (by omega)).mono ?_⟩
    rintro av G5 ⟨lw5, FA, hFA, hFAl⟩
    obtain ⟨a1, a2⟩ := own_nt hFA
    have iA := own_inv hFA
    have hle5 := lw5.2
    try simp (disch := first | omega | (simp only [lnS]; try omega; done)) [-getElem?_pos, -getElem?_neg, q5, -notTuple, a1, a2, m1, m2, nt_intG]
    refine ⟨by kernel_rfl, (rosAll_ac (γ := γ) (nro := n) (hT.nda.lowG lw5) (by omega) (by omega)).mono ?_⟩
    rintro bv2 G6 ⟨lw6, FB, hFB, hFBl⟩
    obtain ⟨b1, b2⟩ := own_nt hFB
    have iB := own_inv hFB
    have si := sameInts_rc (γ := γ) (iA.lowG lw6) iB (allR_le _)
    rw [decide_eq_true (hT.sub.allR he)] at si
    try simp (disch := first | omega | (simp only [lnS]; try omega; done)) [-getElem?_pos, -getElem?_neg, -notTuple, a1, a2, b1, b2, nt_intG]
    refine ⟨by kernel_rfl, ac_of_rc si (by simp [pv_iv, pv_int, pv_bool, pv_string, pv_tup2, pv_tup3, iv_plain, p2_int, p2_bool, p2_string]) ?_⟩
    try simp (disch := first | omega | (simp only [lnS]; try omega; done)) [-getElem?_pos, -getElem?_neg]
    refine hK _ _ ?_; clear hK K
    (refine aw_ret ?_; simp (disch := first | omega | (simp only [lnS]; try omega; done)) [-getElem?_pos, -getElem?_neg, thenQ_ret, scopeQ_ret, inBlockQ_ret, RQ, resL, resV])
  (refine aw_ops (by kernel_rfl) (fun K hK => ?_); simp (disch := first | omega | (simp only [lnS]; try omega; done)) [-getElem?_pos, -getElem?_neg, q0, q5, -notTuple, v1, v2, m1, m2, nt_intG, -xlen, hxl, hxm, hml]; refine hK _ _ ?_; clear hK K)
  refine aw_t (by (first | (simp [eval_tmp, put_at, hml]; done) | (simp [eval_tmp, put_at, hml]; omega))) (by kernel_rfl) ?_
  refine aw_skip ?_
  refine aw_seq ?_
  refine aw_block ?_
  refine aw_seq ?_
  (refine aw_ops (by kernel_rfl) (fun K hK => ?_); simp (disch := first | omega | (simp only [lnS]; try omega; done)) [-getElem?_pos, -getElem?_neg]; refine hK _ _ ?_; clear hK K)
  refine aw_seq ?_
  refine aw_cut (fun α G3 => ∃ p : Nat, p ≤ 255 ∧ α 7 = .int .i64 (p : Nat) ∧ α 0 = u ∧ α 1 = pv ∧ α 5 = mv ∧ α 6 = .int .i64 (m.length : Nat) ∧ G3 = G2) ?_ ?_
  · refine aw_seq ?_
    by_cases hi : m.length < zs.length
    · obtain ⟨p, p1, p2, p3⟩ := picks_at hP hi
      have hzb := hz (zs.getD m.length 0) (by rw [List.getD_eq_getElem?_getD, List.getElem?_eq_getElem hi]; exact List.getElem_mem hi)
      have p3 := p3 G2 (hn ▸ hT.low)
      generalize zs.getD m.length 0 = z at *
      have hzn : z = ((z.toNat : Nat) : Int) := by omega
      have hzc : IntKind.i64.wrap z = z := wi64 (by omega)
      (refine aw_ops (by kernel_rfl) (fun K hK => ?_); simp (disch := first | omega | (simp only [lnS]; try omega; done)) [-getElem?_pos, -getElem?_neg, q1, q6, -notTuple, w1, w2, nt_intG, -xlen, hxp, hi]; refine hK _ _ ?_; clear hK K)
      refine aw_t (by (first | (simp [eval_tmp, put_at, hi]; done) | (simp [eval_tmp, put_at, hi]; omega))) (by kernel_rfl) ?_
      (refine aw_ops (by kernel_rfl) (fun K hK => ?_); simp (disch := first | omega | (simp only [lnS]; try omega; done)) [-getElem?_pos, -getElem?_neg, q1, q6, -notTuple, w1, w2, p2, nt_intG, -xindexAddr, p1, -xload, p3]; refine hK _ _ ?_; clear hK K)
      exact ⟨z.toNat, by omega, by rw [← hzn]; (first | (simp [put_at, put_none, fr0_at]; done) | rfl), by (first | (simp [put_at, put_none, fr0_at, q0]; done) | rfl), by (first | (simp [put_at, put_none, fr0_at, q1]; done) | rfl), by (first | (simp [put_at, put_none, fr0_at, q5]; done) | rfl), by (first | (simp [put_at, put_none, fr0_at, q6]; done) | rfl), rfl⟩
    · (refine aw_ops (by kernel_rfl) (fun K hK => ?_); simp (disch := first | omega | (simp only [lnS]; try omega; done)) [-getElem?_pos, -getElem?_neg, q1, q6, -notTuple, w1, w2, nt_intG, -xlen, hxp, hi]; refine hK _ _ ?_; clear hK K)
      refine aw_f (by (first | (simp [eval_tmp, put_at, hi]; done) | (simp [eval_tmp, put_at, hi]; omega))) (by kernel_rfl) ?_
      refine aw_skip ?_
      exact ⟨0, by omega, by (first | (simp [put_at, put_none, fr0_at]; done) | rfl), by (first | (simp [put_at, put_none, fr0_at, q0]; done) | rfl), by (first | (simp [put_at, put_none, fr0_at, q1]; done) | rfl), by (first | (simp [put_at, put_none, fr0_at, q5]; done) | rfl), by (first | (simp [put_at, put_none, fr0_at, q6]; done) | rfl), rfl⟩
  clear q0 q1 q5 q6
  rintro α G3 ⟨p, hp, q7, q0, q1, q5, q6, rfl⟩
  refine aw_seq ?_
  (refine aw_ops (by kernel_rfl) (fun K hK => ?_); simp (disch := first | omega | (simp only [lnS]; try omega; done)) [-getElem?_pos, -getElem?_neg]; refine hK _ _ ?_; clear hK K)
  refine aw_seq ?_
  refine aw_seq ?_
  (refine aw_ops (by kernel_rfl) (fun K hK => ?_); simp (disch := first | omega | (simp only [lnS]; try omega; done)) [-getElem?_pos, -getElem?_neg]; refine hK _ _ ?_; clear hK K)
  refine aw_block ?_
  refine aw_loop (fun c2 α G2 => ∃ (k : Nat) (mv' : Value) (m' : List NodeD) (took : Bool), k + c2 = l.length + 1 ∧ k ≤ l.length ∧ α 0 = u ∧ α 1 = pv ∧ α 5 = mv' ∧ α 6 = .int .i64 (m.length : Nat) ∧ α 7 = .int .i64 (p : Nat) ∧ α 8 = .bool took ∧ α 9 = .int .i64 (k : Nat) ∧ Took n G l G2 mv' m' ∧ (took = false → m' = m ∧ ∀ k', k' < k → addE m (nd l ((k' + p) % l.length)).id (nd l ((k' + p) % l.length)).op ≠ 0) ∧ (took = true → m'.length = m.length + 1)) (l.length + 1) ?_ ?_
  · exact ⟨0, mv, m, false, by omega, by omega, by (first | (simp [put_at, put_none, fr0_at, q0]; done) | rfl), by (first | (simp [put_at, put_none, fr0_at, q1]; done) | rfl), by (first | (simp [put_at, put_none, fr0_at, q5]; done) | rfl), by (first | (simp [put_at, put_none, fr0_at, q6]; done) | rfl), by (first | (simp [put_at, put_none, fr0_at, q7]; done) | rfl), by (first | (simp [put_at, put_none, fr0_at]; done) | rfl), by (first | (simp [put_at, put_none, fr0_at]; done) | rfl), hT, fun _ => ⟨rfl, fun k' hk' => by omega⟩, fun h => by cases h⟩
  clear q0 q1 q5 q6 q7 hT m1 m2 hxm
  rintro c2 α G2 ⟨k, mv', m', took, hkc, hkl, q0, q1, q5, q6, q7, q8, q9, hT, hfalse, htrue⟩
  have m1 := hT.nda.nt
  have m2 := hT.nda.cs
  refine aw_seq ?_
  refine aw_seq ?_
  cases took with
  | true =>
    have hlen := htrue rfl
    have hcond : ∃ b : Bool, decide (k < l.length) = b := ⟨_, rfl⟩
    refine aw_cut (fun α2 G3 => α2 51 = .bool false ∧ α2 0 = u ∧ α2 1 = pv ∧ α2 5 = mv' ∧ α2 6 = .int .i64 (m.length : Nat) ∧ α2 8 = .bool true ∧ G3 = G2) ?_ ?_
    · by_cases hk : k < l.length
      · (refine aw_ops (by kernel_rfl) (fun K hK => ?_); simp (disch := first | omega | (simp only [lnS]; try omega; done)) [-getElem?_pos, -getElem?_neg, q0, q8, q9, -notTuple, v1, v2, nt_intG, -xlen, hxl, hk]; refine hK _ _ ?_; clear hK K)
        exact ⟨by (first | (simp [put_at, put_none, fr0_at]; done) | rfl), by (first | (simp [put_at, put_none, fr0_at, q0]; done) | rfl), by (first | (simp [put_at, put_none, fr0_at, q1]; done) | rfl), by (first | (simp [put_at, put_none, fr0_at, q5]; done) | rfl), by (first | (simp [put_at, put_none, fr0_at, q6]; done) | rfl), by (first | (simp [put_at, put_none, fr0_at, q8]; done) | rfl), rfl⟩
      · (refine aw_ops (by kernel_rfl) (fun K hK => ?_); simp (disch := first | omega | (simp only [lnS]; try omega; done)) [-getElem?_pos, -getElem?_neg, q0, q8, q9, -notTuple, v1, v2, nt_intG, -xlen, hxl, hk]; refine hK _ _ ?_; clear hK K)
        exact ⟨by (first | (simp [put_at, put_none, fr0_at]; done) | rfl), by (first | (simp [put_at, put_none, fr0_at, q0]; done) | rfl), by (first | (simp [put_at, put_none, fr0_at, q1]; done) | rfl), by (first | (simp [put_at, put_none, fr0_at, q5]; done) | rfl), by (first | (simp [put_at, put_none, fr0_at, q6]; done) | rfl), by (first | (simp [put_at, put_none, fr0_at, q8]; done) | rfl), rfl⟩
    clear q0 q1 q5 q6 q8
    rintro α G3 ⟨q53, q0, q1, q5, q6, q8, rfl⟩
    refine aw_f (by (first | (simp [eval_tmp, put_at, q53]; done) | (simp [eval_tmp, put_at, q53]; omega))) (by kernel_rfl) ?_
    refine aw_exit ?_
    refine aw_seq ?_
    (refine aw_ops (by kernel_rfl) (fun K hK => ?_); simp (disch := first | omega | (simp only [lnS]; try omega; done)) [-getElem?_pos, -getElem?_neg, q8]; refine hK _ _ ?_; clear hK K)
    refine aw_f (by (first | (simp [eval_tmp, put_at]; done) | (simp [eval_tmp, put_at]; omega))) (by kernel_rfl) ?_
    refine aw_skip ?_
    have hsl := hT.sub.len
    (refine aw_ops (by kernel_rfl) (fun K hK => ?_); simp (disch := first | omega | (simp only [lnS]; try omega; done)) [-getElem?_pos, -getElem?_neg, q6]; refine hK _ _ ?_; clear hK K)
    exact ⟨c - 1, by omega, mv', m', by omega, by (first | (simp [put_at, put_none, fr0_at, q0]; done) | rfl), by (first | (simp [put_at, put_none, fr0_at, q1]; done) | rfl), by (first | (simp [put_at, put_none, fr0_at, q5]; done) | rfl), by rw [hlen]; (first | (simp [put_at, put_none, fr0_at]; done) | rfl), hT⟩
  | false =>
  obtain ⟨rfl, hno⟩ := hfalse rfl
  by_cases hk : k < l.length
  case neg =>
    exfalso
    obtain ⟨i, hi, h0⟩ := hT.sub.more hml (by omega)
    obtain ⟨k', hk', e⟩ := mod_cover (p := p) hi
    have := hno k' (by omega)
    rw [e] at this
    exact this h0
  obtain ⟨r, hr'⟩ : ∃ r, r = (k + p) % l.length := ⟨_, rfl⟩
  have hrl : r < l.length := by rw [hr']; exact Nat.mod_lt _ (by omega)
  have hmod : ((k : Nat) + (p : Nat) : Int) % ((l.length : Nat) : Int) = ((r : Nat) : Int) := by
    rw [hr', Int.natCast_emod, Int.natCast_add]
  obtain ⟨j, q, bb, us, pv', wv', bv', qv', hx, hbb, hq, hcell, hus, hC⟩ := hN.at_ r _ (nd_get hrl)
  have hlow := hT.low
  have hle0 := hlow.2
  have hbG : hget G2 j = some bb := (hlow.1 j (by have := hget_lt hbb; omega)).trans hbb
  have hul := hC.len
  have hid := hC.id
  have hrw := hw _ (List.mem_of_getElem? (nd_get hrl))
  have hivl : (iv .u8 (nd l r).id).length = 32 := by rw [iv_length, hrw.id.1]
  have hopl := hC.op.len
  have hset2 : ∀ Z : List Value, Z.length = 104 → setR Z 0 us = us := fun Z hZ => setR_all _ _ (by omega)
  have hus' := hus.symm
  clear hus
  have hp0 : plain1 (.slice none 0 0) = true := rfl
  have hl0 : ¬ (l.length : Int) = 0 := by omega
  have hl0b : ((l.length : Int) == 0) = false := by rw [beq_eq_false_iff_ne]; omega
  (refine aw_ops (by kernel_rfl) (fun K hK => ?_); simp (disch := first | omega | (simp only [lnS]; try omega; done)) [-getElem?_pos, -getElem?_neg, q0, q8, q9, -notTuple, v1, v2, nt_intG, -xlen, hxl, hk]; refine hK _ _ ?_; clear hK K)
  refine aw_t (by (first | (simp [eval_tmp, put_at, hk]; done) | (simp [eval_tmp, put_at, hk]; omega))) (by kernel_rfl) ?_
  refine aw_skip ?_
  refine aw_seq ?_
  refine aw_block ?_
  refine aw_seq ?_
  refine aw_ops (by kernel_rfl) (fun K hK => ?_)
  simp (disch := first | omega | (simp only [lnS]; try omega; done)) [-getElem?_pos, -getElem?_neg, q0, q7, q9, -notTuple, v1, v2, nt_intG, nt_aggG, -xlen, hxl, hmod, hl0, hl0b, -xindexAddr, hx, hbG, hus', hul, hq, hle0, hp0, all_zl, hset2]
  refine hK _ _ ?_; clear hK K
  obtain ⟨hlow2, hb2⟩ := boxed (H := G2) us 50
  obtain ⟨g, hg⟩ : ∃ g, g = G2.length := ⟨_, rfl⟩
  rw [← hg] at hb2 ⊢
  have hT2 := hT.keep hlow2
  generalize G2 ++ [some ⟨us, 50, none⟩] = G3 at *
  have hC2 : NodeC G3 us (nd l r) pv' wv' bv' qv' := hC.low (fun j hj => hT2.low.1 j (by omega))
  have hadd := (add_rc (γ := γ) hT2.nda hrw.id hC2.op hrw.op).thaw (nro := n) (fun v G' h => ⟨h.1.2, h.1.1⟩)
  refine aw_seq ?_
  refine aw_ops (by kernel_rfl) (fun K hK => ?_)
  simp (disch := first | omega | (simp only [lnS]; try omega; done)) [-getElem?_pos, -getElem?_neg, q5, hb2, hul, hid, hivl, hopl, -notTuple, m1, m2, nt_intG, nt_aggG]
  refine ⟨by kernel_rfl, hadd.mono ?_⟩
  rintro v G4 ⟨low4, sv, rfl, ⟨h0, hnew⟩ | ⟨h0, rfl⟩⟩
  · obtain ⟨s1, s2⟩ := hnew.sh
    rw [h0]
    simp (disch := first | omega | (simp only [lnS]; try omega; done)) [-getElem?_pos, -getElem?_neg, -notTuple, s1, s2, nt_intG]
    refine hK _ _ ?_; clear hK K
    refine aw_seq ?_
    (refine aw_ops (by kernel_rfl) (fun K hK => ?_); simp (disch := first | omega | (simp only [lnS]; try omega; done)) [-getElem?_pos, -getElem?_neg]; refine hK _ _ ?_; clear hK K)
    refine aw_t (by (first | (simp [eval_tmp, put_at]; done) | (simp [eval_tmp, put_at]; omega))) (by kernel_rfl) ?_
    refine aw_seq ?_
    (refine aw_ops (by kernel_rfl) (fun K hK => ?_); simp (disch := first | omega | (simp only [lnS]; try omega; done)) [-getElem?_pos, -getElem?_neg]; refine hK _ _ ?_; clear hK K)
    (refine aw_ops (by kernel_rfl) (fun K hK => ?_); simp (disch := first | omega | (simp only [lnS]; try omega; done)) [-getElem?_pos, -getElem?_neg]; refine hK _ _ ?_; clear hK K)
    have hwm : ∀ x ∈ m' ++ [addD m' (nd l r).id (nd l r).op], x.Wf := fun x hx => by
      rcases List.mem_append.1 hx with hx | hx
      · exact hT.nda.wf x hx
      · rw [List.mem_singleton] at hx
        subst hx
        have hm96 := rightG_len hT.sub.right
        refine ⟨hrw.id, hrw.op, fun z hz => ?_, ?_⟩
        · obtain ⟨k1, rfl, hk1, _⟩ := pastL_bd hz
          unfold I64
          omega
        · have := pastL_length m' m'.length (nd l r).op.parents
          show (pastL m' m'.length (nd l r).op.parents).length ≤ maxLen
          simp only [maxLen]
          omega
    have hT4 : Took n G l G4 sv (m' ++ [addD m' (nd l r).id (nd l r).op]) := ⟨(hT2.keep low4).low, hnew.nda hwm (fun _ _ _ => rfl), hT.sub.push hrl h0⟩
    (refine aw_ops (by kernel_rfl) (fun K hK => ?_); simp (disch := first | omega | (simp only [lnS]; try omega; done)) [-getElem?_pos, -getElem?_neg, q9]; refine hK _ _ ?_; clear hK K)
    exact ⟨c2 - 1, by omega, k + 1, sv, _, true, by omega, by omega, by (first | (simp [put_at, put_none, fr0_at, q0]; done) | rfl), by (first | (simp [put_at, put_none, fr0_at, q1]; done) | rfl), by (first | (simp [put_at, put_none, fr0_at]; done) | rfl), by (first | (simp [put_at, put_none, fr0_at, q6]; done) | rfl), by (first | (simp [put_at, put_none, fr0_at, q7]; done) | rfl), by (first | (simp [put_at, put_none, fr0_at]; done) | rfl), by (first | (simp [put_at, put_none, fr0_at]; done) | rfl), hT4, fun h => (by cases h), fun _ => by simp⟩
  · simp (disch := first | omega | (simp only [lnS]; try omega; done)) [-getElem?_pos, -getElem?_neg, nt_intG]
    refine hK _ _ ?_; clear hK K
    refine aw_seq ?_
    (refine aw_ops (by kernel_rfl) (fun K hK => ?_); simp (disch := first | omega | (simp only [lnS]; try omega; done)) [-getElem?_pos, -getElem?_neg, h0]; refine hK _ _ ?_; clear hK K)
    refine aw_f (by (first | (simp [eval_tmp, put_at, h0]; done) | (simp [eval_tmp, put_at, h0]; omega))) (by kernel_rfl) ?_
    refine aw_skip ?_
    (refine aw_ops (by kernel_rfl) (fun K hK => ?_); simp (disch := first | omega | (simp only [lnS]; try omega; done)) [-getElem?_pos, -getElem?_neg, q9]; refine hK _ _ ?_; clear hK K)
    refine ⟨c2 - 1, by omega, k + 1, mv', m', false, by omega, by omega, by (first | (simp [put_at, put_none, fr0_at, q0]; done) | rfl), by (first | (simp [put_at, put_none, fr0_at, q1]; done) | rfl), by (first | (simp [put_at, put_none, fr0_at, q5]; done) | rfl), by (first | (simp [put_at, put_none, fr0_at, q6]; done) | rfl), by (first | (simp [put_at, put_none, fr0_at, q7]; done) | rfl), by (first | (simp [put_at, put_none, fr0_at, q8]; done) | rfl), by (first | (simp [put_at, put_none, fr0_at]; done) | rfl), hT2.keep low4, fun _ => ⟨rfl, fun k' hk' => ?_⟩, fun h => by cases h⟩
    by_cases e : k' = k
    · subst e
      rw [← hr']
      exact h0
    · exact hno k' (by omega)
end
end Go.Proofs.Ytdeccbjdhcifiaa
