/-
  Some disks side by side; what a crash that keeps all, or nothing, comes to.
-/
import Derived.Test.YtadbgdhbamdiaaaDo
namespace Go.Proofs.Ytadbgdhbamdiaaa
open Go Go.RowKit
set_option linter.unusedVariables false
set_option linter.unusedSimpArgs false

/-- Disks, each by itself, above lo; and blocks S that stay as they are in HL. -/
structure Many (S : Nat → Bool) (HL : AH) (lo : Nat) (G : AH) (l : List (Nat × List Nat × DM)) : Prop where
  dk : ∀ (i : Nat) (x : Nat × List Nat × DM), l[i]? = some x → Dk G x.1 x.2.1 x.2.2
  lo1 : ∀ (i : Nat) (x : Nat × List Nat × DM), l[i]? = some x → ∀ j ∈ x.2.1, lo ≤ j
  dis : ∀ (i i' : Nat) (x y : Nat × List Nat × DM), i ≠ i' → l[i]? = some x → l[i']? = some y → ∀ j ∈ x.2.1, j ∉ y.2.1
  st : ∀ j, S j = true → j < G.length ∧ (∀ (i : Nat) (x : Nat × List Nat × DM), l[i]? = some x → j ∉ x.2.1) ∧ hget G j = hget HL j
  len : lo ≤ G.length
section
variable {S : Nat → Bool} {HL G G' : AH} {lo : Nat} {l : List (Nat × List Nat × DM)}
theorem Many.step (h : Many S HL lo G l) {i : Nat} {x : Nat × List Nat × DM} (hx : l[i]? = some x) {F' : List Nat} {D' : DM} (hf : Fr G G' x.2.1 F') (hd : Dk G' x.1 F' D') : Many S HL lo G' (l.set i (x.1, F', D')) := by
  have hil := (List.getElem?_eq_some_iff.1 hx).1
  have get : ∀ (k : Nat) (y : Nat × List Nat × DM), (l.set i (x.1, F', D'))[k]? = some y → (k = i ∧ y = (x.1, F', D')) ∨ (k ≠ i ∧ l[k]? = some y) := by
    intro k y hy
    by_cases e : i = k
    · subst e
      rw [List.getElem?_set_self hil] at hy
      cases hy; exact .inl ⟨rfl, rfl⟩
    · rw [List.getElem?_set_ne e] at hy; exact .inr ⟨fun h => e h.symm, hy⟩
  have hlt : ∀ (k : Nat) (y : Nat × List Nat × DM), l[k]? = some y → ∀ j ∈ y.2.1, j < G.length := fun k y hy => (h.dk k y hy).lt
  refine ⟨fun k y hy => ?_, fun k y hy j hj => ?_, fun k k' y z hne hy hz j hj hj2 => ?_, fun j hs => ?_, Nat.le_trans h.len hf.len⟩
  · rcases get k y hy with ⟨rfl, rfl⟩ | ⟨hne, hy⟩
    · exact hd
    · exact (h.dk k y hy).low (fun j hj => hf.out j (hlt k y hy j hj) (fun hm => h.dis i k x y (Ne.symm hne) hx hy j hm hj))
  · rcases get k y hy with ⟨rfl, rfl⟩ | ⟨hne, hy⟩
    · rcases hf.new j hj with h1 | h1
      · exact h.lo1 _ x hx j h1
      · have := h.len; omega
    · exact h.lo1 k y hy j hj
  · rcases get k y hy with ⟨rfl, rfl⟩ | ⟨h1, hy'⟩
    · rcases get k' z hz with ⟨rfl, rfl⟩ | ⟨h2, hz'⟩
      · exact hne rfl
      · rcases hf.new j hj with h3 | h3
        · exact h.dis _ k' x z hne hx hz' j h3 hj2
        · have := hlt k' z hz' j hj2; omega
    · rcases get k' z hz with ⟨rfl, rfl⟩ | ⟨h2, hz'⟩
      · rcases hf.new j hj2 with h3 | h3
        · exact h.dis k _ y x hne hy' hx j hj h3
        · have := hlt k y hy' j hj; omega
      · exact h.dis k k' y z hne hy' hz' j hj hj2
  · obtain ⟨h1, h2, h3⟩ := h.st j hs
    refine ⟨Nat.lt_of_lt_of_le h1 hf.len, fun k y hy hm => ?_, by rw [hf.out j h1 (h2 i x hx)]; exact h3⟩
    rcases get k y hy with ⟨rfl, rfl⟩ | ⟨hne, hy⟩
    · rcases hf.new j hm with h4 | h4
      · exact h2 _ x hx h4
      · omega
    · exact h2 k y hy hm
/-- Nothing of the disks or of what stays is turned: another set of blocks that stay. -/
theorem Many.keep (h : Many S HL lo G l) (hlen : G.length ≤ G'.length) (hg : ∀ (i : Nat) (x : Nat × List Nat × DM), l[i]? = some x → ∀ j ∈ x.2.1, hget G' j = hget G j) {S' : Nat → Bool} {HL' : AH}
    (hs : ∀ j, S' j = true → j < G'.length ∧ (∀ (i : Nat) (x : Nat × List Nat × DM), l[i]? = some x → j ∉ x.2.1) ∧ hget G' j = hget HL' j) : Many S' HL' lo G' l :=
  ⟨fun i x hx => (h.dk i x hx).low (hg i x hx), h.lo1, h.dis, hs, Nat.le_trans h.len hlen⟩
theorem Many.push (h : Many S HL lo G l) (L : AH) : Many S HL lo (G ++ L) l :=
  h.keep (by simp) (fun i x hx j hj => hget_left ((h.dk i x hx).lt j hj)) (fun j hs => by
    obtain ⟨h1, h2, h3⟩ := h.st j hs
    exact ⟨by simp; omega, h2, by rw [hget_left h1]; exact h3⟩)
theorem Many.more (h : Many S HL lo G l) (X : Option Blk) : Many (fun j => S j || j == G.length) (G ++ [X]) lo (G ++ [X]) l :=
  h.keep (by simp) (fun i x hx j hj => hget_left ((h.dk i x hx).lt j hj)) (fun j hs => by
    simp only [Bool.or_eq_true, beq_iff_eq] at hs
    rcases hs with hs | rfl
    · obtain ⟨h1, h2, h3⟩ := h.st j hs
      exact ⟨by simp; omega, h2, rfl⟩
    · exact ⟨by simp, fun i x hx hm => by have := (h.dk i x hx).lt _ hm; omega, rfl⟩)
theorem Many.less (h : Many S HL lo G l) {S' : Nat → Bool} {HL' : AH} (hs : ∀ j, S' j = true → S j = true ∧ hget HL j = hget HL' j) : Many S' HL' lo G l :=
  h.keep (Nat.le_refl _) (fun i x hx j hj => rfl) (fun j hj => by
    obtain ⟨h1, h2, h3⟩ := h.st j (hs j hj).1
    exact ⟨h1, h2, h3.trans (hs j hj).2⟩)
/-- One disk more. -/
theorem Many.new (h : Many S HL lo G l) {L : AH} {p : Nat} {F : List Nat} {D : DM} (hd : Dk (G ++ L) p F D) (hn : ∀ j ∈ F, G.length ≤ j) : Many S HL lo (G ++ L) (l ++ [(p, F, D)]) := by
  have hp := h.push L
  have hlt : ∀ (k : Nat) (y : Nat × List Nat × DM), l[k]? = some y → ∀ j ∈ y.2.1, j < G.length := fun k y hy => (h.dk k y hy).lt
  have get : ∀ (k : Nat) (y : Nat × List Nat × DM), (l ++ [(p, F, D)])[k]? = some y → (k < l.length ∧ l[k]? = some y) ∨ (k = l.length ∧ y = (p, F, D)) := by
    intro k y hy
    rcases app_one hy with h1 | ⟨h1, h2⟩
    · exact .inl h1
    · exact .inr ⟨h1, h2⟩
  refine ⟨fun k y hy => ?_, fun k y hy j hj => ?_, fun k k' y z hne hy hz j hj hj2 => ?_, fun j hs => ?_, hp.len⟩
  · rcases get k y hy with ⟨_, hy⟩ | ⟨_, rfl⟩
    · exact hp.dk k y hy
    · exact hd
  · rcases get k y hy with ⟨_, hy⟩ | ⟨_, rfl⟩
    · exact h.lo1 k y hy j hj
    · have := hn j hj; have := h.len; omega
  · rcases get k y hy with ⟨_, hy⟩ | ⟨rfl, rfl⟩
    · rcases get k' z hz with ⟨_, hz⟩ | ⟨_, rfl⟩
      · exact h.dis k k' y z hne hy hz j hj hj2
      · have h1 := hlt k y hy j hj; have h2 := hn j hj2; omega
    · rcases get k' z hz with ⟨_, hz⟩ | ⟨rfl, _⟩
      · have h1 := hlt k' z hz j hj2; have h2 := hn j hj; omega
      · exact hne rfl
  · obtain ⟨h1, h2, h3⟩ := hp.st j hs
    refine ⟨h1, fun k y hy hm => ?_, h3⟩
    rcases get k y hy with ⟨_, hy⟩ | ⟨_, rfl⟩
    · exact h2 k y hy hm
    · have h4 := hn j hm; have h5 := (h.st j hs).1; omega
end

/-- A disk that lives, without a fuse. -/
def DM.Fine (D : DM) : Prop := D.fuse = -1 ∧ D.dead = false
theorem fine_burn {D : DM} (h : D.Fine) : D.burn = D ∧ D.burnV = 0 := by
  unfold DM.burn DM.burnV
  rw [h.1]
  simp
theorem fine_write {D : DM} (h : D.Fine) {at_ : Int} {t : ByteArray} (hok : okW D at_ t = true) : D.write at_ t = D.put at_ t ∧ D.writeV at_ t = 0 ∧ (D.put at_ t).Fine := by
  have hp : (D.put at_ t).Fine := h
  have hb := fine_burn hp
  refine ⟨?_, ?_, hp⟩
  · unfold DM.write; rw [if_pos ⟨hok, h.2⟩, hb.1]
  · unfold DM.writeV; rw [if_pos hok, if_neg (by rw [h.2]; simp), hb.2]
theorem fine_sync {D : DM} (h : D.Fine) : D.sync = { D with firm := D.late, uns := [] } ∧ D.syncV = 0 := by
  have hb := fine_burn h
  unfold DM.sync DM.syncV
  rw [if_neg (by rw [h.2]; simp), if_pos hb.2, hb.1, if_neg (by rw [h.2]; simp)]
  exact ⟨rfl, hb.2⟩
theorem newD_fine (b : Int) : (newD b).Fine := ⟨rfl, rfl⟩
/-- A crash that keeps all. -/
theorem crF_all {firm : List ByteArray} {uns : List (Nat × ByteArray)} {ks : List Int} (hf : ∀ r ∈ firm, r.size = 256) (hu : ∀ w ∈ uns, w.1 < firm.length ∧ w.2.size = 256) (hk : ∀ i, i < uns.length → keptN ks i = 256) : ∀ i, i ≤ uns.length → crF firm uns ks i = lateOf firm (uns.take i) := by
  intro i
  induction i with
  | zero => intro _; rfl
  | succ i ih =>
    intro hi
    obtain ⟨w, hw⟩ : ∃ w, uns[i]? = some w := ⟨_, List.getElem?_eq_getElem (by omega)⟩
    obtain ⟨h1, h2⟩ := crF_ok (ks := ks) hf hu i
    have hwm := hu w (List.mem_of_getElem? hw)
    rw [crF, hw]
    simp only
    rw [hk i (by omega), ext_all hwm.2 (getD_size h2 (by rw [h1]; exact hwm.1)), late_take hw, ih (by omega)]
/-- A crash that keeps nothing. -/
theorem crF_nil {firm : List ByteArray} {uns : List (Nat × ByteArray)} (hf : ∀ r ∈ firm, r.size = 256) (hu : ∀ w ∈ uns, w.1 < firm.length ∧ w.2.size = 256) : ∀ i, crF firm uns [] i = firm := by
  intro i
  induction i with
  | zero => rfl
  | succ i ih =>
    rw [crF]
    cases hw : uns[i]? with
    | none => exact ih
    | some w =>
      have hwm := hu w (List.mem_of_getElem? hw)
      have hk0 : keptN [] i = 0 := rfl
      simp only
      rw [ih, hk0, ext_none (getD_size hf hwm.1), set_same hwm.1]
end Go.Proofs.Ytadbgdhbamdiaaa
