/-
  A relay and a table of eight own lists of texts.
-/
import Derived.Test.YteldoimjachbbaaRi
import Derived.Test.YteldoimjachbbaaXof
namespace Go.Proofs.Yteldoimjachbbaa
open Go Go.RowKit
set_option linter.unusedVariables false
set_option linter.unusedSimpArgs false
set_option maxRecDepth 100000

structure HadR (G : AH) (mb : Nat) (hd : Nat → List ByteArray) (Ms : Nat → Value) (Fs : Nat → List Nat) : Prop where
  cells : hget G mb = some ⟨(List.range 8).map Ms, 26, none⟩
  own : ∀ k, k < 8 → OwnF G (Ms k) 9 1 (ss (hd k)) (Fs k)
  dis : ∀ k k', k < 8 → k' < 8 → k ≠ k' → ∀ j ∈ Fs k, j ∉ Fs k'
  mb : ∀ k, k < 8 → mb ∉ Fs k
structure KpR (S : Nat → Prop) (HL : AH) (lo p mb : Nat) (T : TypeId) (X : List Nat) (G : AH) (L hd : Nat → List ByteArray) (Ms : Nat → Value) (Fs : Nat → List Nat) : Prop where
  r : Rl T X G p L
  m : HadR G mb hd Ms Fs
  xm : mb ∈ X
  xf : ∀ k, k < 8 → ∀ j ∈ Fs k, j ∈ X
  pm : p ≠ mb
  pf : ∀ k, k < 8 → p ∉ Fs k
  hX : ∀ j ∈ X, j < G.length ∧ lo ≤ j
  st : ∀ j, S j → j < G.length ∧ j ∉ X ∧ hget G j = hget HL j
  len : lo ≤ G.length
def Kp (S : Nat → Prop) (HL : AH) (lo p mb : Nat) (T : TypeId) (G : AH) (L hd : Nat → List ByteArray) : Prop := ∃ X Ms Fs, KpR S HL lo p mb T X G L hd Ms Fs
section
variable {S : Nat → Prop} {HL G G' : AH} {lo p mb : Nat} {T : TypeId} {X : List Nat} {L L' hd : Nat → List ByteArray} {Ms : Nat → Value} {Fs : Nat → List Nat}
theorem HadR.low (h : HadR G mb hd Ms Fs) (hm : hget G' mb = hget G mb) (hf : ∀ k, k < 8 → ∀ j ∈ Fs k, hget G' j = hget G j) : HadR G' mb hd Ms Fs := ⟨by rw [hm]; exact h.cells, fun k hk => (h.own k hk).low (hf k hk), h.dis, h.mb⟩
theorem KpR.px (h : KpR S HL lo p mb T X G L hd Ms Fs) : p ∈ X := by
  obtain ⟨M, h⟩ := h.r
  exact h.px
theorem KpR.step (h : KpR S HL lo p mb T X G L hd Ms Fs) (hr : Rl T X G' p L') (hf : Fr G G' [p] [p]) : KpR S HL lo p mb T X G' L' hd Ms Fs :=
  ⟨hr, h.m.low (hf.out mb (h.hX mb h.xm).1 (by simp [Ne.symm h.pm])) (fun k hk j hj => hf.out j (h.hX j (h.xf k hk j hj)).1 (fun hm => by rw [List.mem_singleton] at hm; exact h.pf k hk (hm ▸ hj))), h.xm, h.xf, h.pm, h.pf, fun j hj => ⟨Nat.lt_of_lt_of_le (h.hX j hj).1 hf.len, (h.hX j hj).2⟩, fun j hj => by
    obtain ⟨h1, h2, h3⟩ := h.st j hj
    exact ⟨Nat.lt_of_lt_of_le h1 hf.len, h2, (hf.out j h1 (fun hm => by rw [List.mem_singleton] at hm; exact h2 (hm ▸ h.px))).trans h3⟩, Nat.le_trans h.len hf.len⟩
theorem KpR.ext (h : KpR S HL lo p mb T X G L hd Ms Fs) (hl : G.length ≤ G'.length) (hk : ∀ j, j < G.length → hget G' j = hget G j) : KpR S HL lo p mb T X G' L hd Ms Fs :=
  have hf : Fr G G' [] [] := ⟨hl, fun j hj _ => hk j hj, fun j hj => .inl hj⟩
  have hf' : Fr G G' [p] [p] := ⟨hl, fun j hj _ => hk j hj, fun j hj => .inl hj⟩
  h.step (h.r.fr hf (by simp) (by simp)) hf'
theorem KpR.more (h : KpR S HL lo p mb T X G L hd Ms Fs) (B : Option Blk) : KpR (fun j => S j ∨ j = G.length) (G ++ [B]) lo p mb T X (G ++ [B]) L hd Ms Fs := by
  have h' := h.ext (G' := G ++ [B]) (by simp) (fun j hj => hget_left hj)
  refine ⟨h'.r, h'.m, h'.xm, h'.xf, h'.pm, h'.pf, h'.hX, fun j hj => ?_, h'.len⟩
  rcases hj with hj | rfl
  · obtain ⟨h3, h4, _⟩ := h'.st j hj
    exact ⟨h3, h4, rfl⟩
  · exact ⟨by simp, fun hm => by have := (h.hX _ hm).1; omega, rfl⟩
theorem KpR.less (h : KpR S HL lo p mb T X G L hd Ms Fs) {S' : Nat → Prop} {HL' : AH} (hs : ∀ j, S' j → S j ∧ hget HL j = hget HL' j) : KpR S' HL' lo p mb T X G L hd Ms Fs :=
  ⟨h.r, h.m, h.xm, h.xf, h.pm, h.pf, h.hX, fun j hj => by
    obtain ⟨h1, h2, h3⟩ := h.st j (hs j hj).1
    exact ⟨h1, h2, h3.trans (hs j hj).2⟩, h.len⟩
theorem KpR.put (h : KpR S HL lo p mb T X G L hd Ms Fs) {k : Nat} (hk : k < 8) {v : Value} {l : List ByteArray} {b : Nat} (hlen : G.length ≤ G'.length) (hl : ∀ j, j < G.length → j ∉ Fs k → hget G' j = hget G j) (hb : G.length ≤ b) (hb2 : b < G'.length) (hown : OwnF G' v 9 1 (ss l) [b]) :
    KpR S HL lo p mb T (b :: X) (G'.set mb (some ⟨(List.range 8).map (upd Ms k v), 26, none⟩)) L (upd hd k l) (upd Ms k v) (upd Fs k [b]) := by
  have hmb := (h.hX mb h.xm).1
  have hpx := h.px
  have hpl := (h.hX p hpx).1
  have out : ∀ j, j < G.length → j ∉ Fs k → j ≠ mb → hget (G'.set mb (some ⟨(List.range 8).map (upd Ms k v), 26, none⟩)) j = hget G j := fun j h1 h2 h3 => by rw [hget_set_ne (fun e => h3 e.symm), hl j h1 h2]
  refine ⟨?_, ⟨hget_set_eq (by omega), fun k' hk' => ?_, fun k1 k2 h1 h2 hne j hj => ?_, fun k' hk' => ?_⟩, by simp [h.xm], fun k' hk' j hj => ?_, h.pm, fun k' hk' => ?_, fun j hj => ?_, fun j hj => ?_, by simpa using Nat.le_trans h.len hlen⟩
  · obtain ⟨M0, h0⟩ := h.r
    refine ⟨M0, ⟨(out p hpl (h.pf k hk) h.pm).trans h0.cells, fun k' hk' => ?_, by simp [h0.px]⟩⟩
    rcases h0.sl k' hk' with h1 | ⟨j, off, cs, h1, h2, h3, h4, h5⟩
    · exact .inl h1
    · have hj := hget_lt h3
      exact .inr ⟨j, off, cs, h1, by simp only [List.mem_cons, not_or]; exact ⟨by omega, h2⟩, (out j hj (fun hm => h2 (h.xf k hk j hm)) (fun e => h2 (e ▸ h.xm))).trans h3, h4, h5⟩
  · by_cases e : k' = k
    · subst e
      rw [upd_self, upd_self, upd_self]
      exact hown.low (fun j hj => hget_set_ne (by rw [List.mem_singleton] at hj; omega))
    · rw [upd_ne _ _ e, upd_ne _ _ e, upd_ne _ _ e]
      refine (h.m.own k' hk').low (fun j hj => ?_)
      exact out j ((h.m.own k' hk').lt j hj) (fun hm => h.m.dis k' k hk' hk e j hj hm) (fun e2 => h.m.mb k' hk' (e2 ▸ hj))
  · by_cases e1 : k1 = k
    · subst e1
      rw [upd_self, List.mem_singleton] at hj
      rw [upd_ne _ _ (fun e => hne e.symm)]
      intro hm
      have := (h.m.own k2 h2).lt j hm
      omega
    · rw [upd_ne _ _ e1] at hj
      by_cases e2 : k2 = k
      · subst e2
        rw [upd_self, List.mem_singleton]
        have := (h.m.own k1 h1).lt j hj
        omega
      · rw [upd_ne _ _ e2]
        exact h.m.dis k1 k2 h1 h2 hne j hj
  · by_cases e : k' = k
    · subst e; rw [upd_self, List.mem_singleton]; omega
    · rw [upd_ne _ _ e]; exact h.m.mb k' hk'
  · by_cases e : k' = k
    · subst e; rw [upd_self, List.mem_singleton] at hj; simp [hj]
    · rw [upd_ne _ _ e] at hj; exact List.mem_cons_of_mem _ (h.xf k' hk' j hj)
  · by_cases e : k' = k
    · subst e; rw [upd_self, List.mem_singleton]; omega
    · rw [upd_ne _ _ e]; exact h.pf k' hk'
  · rw [List.length_set]
    rcases List.mem_cons.1 hj with rfl | hj
    · exact ⟨hb2, Nat.le_trans h.len hb⟩
    · have := h.hX j hj; exact ⟨by omega, this.2⟩
  · obtain ⟨h1, h2, h3⟩ := h.st j hj
    refine ⟨by rw [List.length_set]; omega, by simp only [List.mem_cons, not_or]; exact ⟨by omega, h2⟩, (out j h1 (fun hm => h2 (h.xf k hk j hm)) (fun e => h2 (e ▸ h.xm))).trans h3⟩
theorem KpR.start {cs1 cs2 : List Value} {H : AH} (h1 : cs1 = (List.range 8).map fun _ => Value.slice none 0 0) (h2 : cs2 = (List.range 8).map fun _ => Value.slice none 0 0) :
    Kp (fun j => j < H.length) H H.length H.length (H.length + 1) T (H ++ [some ⟨cs1, T, none⟩, some ⟨cs2, 26, none⟩]) eL eL := by
  have hp := Pr.start (T1 := T) (T2 := 26) (H := H) h1 h2
  subst h2
  refine ⟨[H.length, H.length + 1], fun _ => .slice none 0 0, fun _ => [], ⟨hp.a, ⟨?_, fun k _ => .inl ⟨rfl, rfl, rfl⟩, fun _ _ _ _ _ j hj => (by cases hj), fun _ _ h => (by cases h)⟩, by simp, fun _ _ j hj => (by cases hj), by omega, fun _ _ h => (by cases h), fun j hj => ⟨hp.hX j hj, ?_⟩, fun j hj => ?_, hp.len⟩⟩
  · rw [hget_app]; rfl
  · simp only [List.mem_cons, List.not_mem_nil, or_false] at hj; omega
  · obtain ⟨h3, h4, h5, h6⟩ := hp.st j hj
    exact ⟨h3, by simp [h4, h5], h6⟩
end

/-- Where texts come from. -/
theorem tkS_in {L : Nat → List ByteArray} {to i : Int} (h : hasB L to i = true) : tkS L to i ∈ L to.toNat := by
  obtain ⟨k, n, s, hk, rfl, rfl, hn, hs⟩ := has_nat h
  simp only [tkS, h, if_true, Int.toNat_natCast, hs, Option.getD_some]
  exact List.mem_of_getElem? hs
theorem post_in {L : Nat → List ByteArray} {to : Int} {s x : ByteArray} {j : Nat} (h : x ∈ postL L to s j) : x ∈ L j ∨ (memB to = true ∧ j = to.toNat ∧ x = s) := by
  unfold postL at h
  split at h
  · rename_i hm
    by_cases e : j = to.toNat
    · subst e
      rw [upd_self] at h
      rcases List.mem_append.1 (List.mem_of_mem_drop h) with h | h
      · exact .inl h
      · exact .inr ⟨hm, rfl, by simpa using h⟩
    · rw [upd_ne _ _ e] at h; exact .inl h
  · exact .inl h
theorem cut_in {L : Nat → List ByteArray} {k n j : Nat} {x : ByteArray} (h : x ∈ cutL L k n j) : x ∈ L j := by
  unfold cutL at h
  by_cases e : j = k
  · subst e
    rw [upd_self] at h
    rcases List.mem_append.1 h with h | h
    · exact List.mem_of_mem_take h
    · exact List.mem_of_mem_drop h
  · rw [upd_ne _ _ e] at h; exact h
theorem do_in {L : Nat → List ByteArray} {kd to i k : Int} {s x : ByteArray} {j : Nat} (h : x ∈ doL L kd to i k s j) : x ∈ L j ∨ (kd = 0 ∧ memB to = true ∧ j = to.toNat ∧ x = s) := by
  unfold doL at h
  split at h
  · rename_i h0
    rcases post_in h with h | h
    · exact .inl h
    · exact .inr ⟨h0, h⟩
  have tk : x ∈ tkL L to i j → x ∈ L j := fun h => by
    unfold tkL at h
    split at h
    · exact cut_in h
    · exact h
  split at h
  · exact .inl (tk h)
  split at h
  · exact .inl (tk h)
  split at h
  · left
    unfold dbL at h
    split at h
    · rename_i hh
      rcases post_in h with h | ⟨_, rfl, rfl⟩
      · exact h
      · exact tkS_in hh
    · exact h
  split at h
  · left
    unfold mvL at h
    split at h
    · rename_i hh
      simp only [Bool.and_eq_true] at hh
      by_cases e : j = to.toNat
      · subst e
        rw [upd_self] at h
        rcases List.mem_append.1 h with h | h
        · rcases List.mem_append.1 h with h | h
          · exact cut_in (List.mem_of_mem_take h)
          · rw [List.mem_singleton] at h; subst h; exact tkS_in hh.1
        · exact cut_in (List.mem_of_mem_drop h)
      · rw [upd_ne _ _ e] at h; exact h
    · exact h
  · exact .inl h
/-- The last of the posted. -/
theorem post_last {L : Nat → List ByteArray} {k : Nat} {s : ByteArray} (hk : k < 8) (hb : LB L) : 0 < (postL L (k : Nat) s k).length ∧ (postL L (k : Nat) s k)[(postL L (k : Nat) s k).length - 1]? = some s := by
  have hl := hb k hk
  have e : postL L (k : Nat) s k = (L k ++ [s]).drop ((L k).length - 39) := by
    simp only [postL, memB_nat hk, if_true, Int.toNat_natCast, upd_self]
  rw [e]
  have hlen : ((L k ++ [s]).drop ((L k).length - 39)).length = (L k).length + 1 - ((L k).length - 39) := by simp
  refine ⟨by omega, ?_⟩
  rw [hlen, List.getElem?_drop, List.getElem?_append_right (by omega)]
  have : (L k).length - 39 + ((L k).length + 1 - ((L k).length - 39) - 1) - (L k).length = 0 := by omega
  rw [this]; rfl
end Go.Proofs.Yteldoimjachbbaa
