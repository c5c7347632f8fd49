/-
  A relay: a list for each member; and where it lies. Splicing.
-/
import Derived.Test.YteldoimjachbbaaRa
namespace Go.Proofs.Yteldoimjachbbaa
open Go Go.RowKit
set_option linter.unusedVariables false
set_option linter.unusedSimpArgs false
set_option maxRecDepth 100000
set_option maxHeartbeats 4000000

def upd {β : Type} (f : Nat → β) (k : Nat) (v : β) : Nat → β := fun j => if j = k then v else f j
theorem upd_self {β : Type} (f : Nat → β) (k : Nat) (v : β) : upd f k v k = v := by simp [upd]
theorem upd_ne {β : Type} (f : Nat → β) {k j : Nat} (v : β) (h : j ≠ k) : upd f k v j = f j := by simp [upd, h]
theorem range8_set (Ms : Nat → Value) (k : Nat) (v : Value) : ((List.range 8).map Ms).set k v = (List.range 8).map (upd Ms k v) := by
  apply List.ext_getElem?
  intro j
  by_cases e : k = j
  · subst e
    rcases Nat.lt_or_ge k 8 with h | h
    · rw [List.getElem?_set_self (by simpa using h), List.getElem?_map, List.getElem?_range h]; simp [upd_self]
    · rw [List.getElem?_eq_none (by simpa using h), List.getElem?_eq_none (by simpa using h)]
  · rw [List.getElem?_set_ne e, List.getElem?_map, List.getElem?_map]
    cases hr : (List.range 8)[j]? with
    | none => rfl
    | some x =>
      have : x = j := by
        have := (List.getElem?_eq_some_iff.1 hr).2
        simpa using this.symm
      subst this
      simp [upd_ne Ms v (fun h => e h.symm)]
def ss (l : List ByteArray) : List Value := l.map .string
@[simp] theorem ss_len (l : List ByteArray) : (ss l).length = l.length := by simp [ss]
/-- A list of texts, shown by a slice whose block is none of X. -/
def MlV (X : List Nat) (H : AH) (v : Value) (l : List ByteArray) : Prop :=
  (v = .slice none 0 0 ∧ l = []) ∨ ∃ j off cs, v = .slice (some ⟨j, off, none⟩) l.length l.length ∧ j ∉ X ∧ hget H j = some cs ∧ (cs.cells.drop off).take l.length = ss l ∧ off + l.length ≤ cs.cells.length
theorem MlV.low {X : List Nat} {H H' : AH} {v : Value} {l : List ByteArray} (h : MlV X H v l) (hl : ∀ j, j < H.length → j ∉ X → hget H' j = hget H j) : MlV X H' v l := by
  rcases h with h | ⟨j, off, cs, h1, h2, h3, h4⟩
  · exact .inl h
  · exact .inr ⟨j, off, cs, h1, h2, by rw [hl j (hget_lt h3) h2]; exact h3, h4⟩
theorem MlV.nt {X : List Nat} {H : AH} {v : Value} {l : List ByteArray} (h : MlV X H v l) : notTuple v = true := by
  rcases h with ⟨rfl, _⟩ | ⟨j, off, cs, rfl, _⟩ <;> rfl
theorem MlV.len {P : Program} {X : List Nat} {H : AH} {v : Value} {l : List ByteArray} {t e : TypeId} (h : MlV X H v l) (ht : und P t = .slice e) : xlen P t v = some (.int .i64 l.length) := by
  rcases h with ⟨rfl, rfl⟩ | ⟨j, off, cs, rfl, _⟩ <;> simp [xlen, ht]
theorem MlV.part {X : List Nat} {H : AH} {v : Value} {l : List ByteArray} (h : MlV X H v l) : Part H H.length v (ss l) := by
  rcases h with ⟨rfl, rfl⟩ | ⟨j, off, cs, rfl, h2, h3, h4, h5⟩
  · exact ⟨⟨none, 0, rfl⟩, fun G _ => rfl⟩
  · refine ⟨⟨_, _, by rw [ss_len]⟩, fun G hG => ?_⟩
    have hg : hget G j = _ := (hG j (hget_lt h3)).trans h3
    simp [xcells, hg, h5, h4]
theorem MlV.front {P : Program} {X : List Nat} {H : AH} {v : Value} {l : List ByteArray} {t e : TypeId} (h : MlV X H v l) (ht : und P t = .slice e) (hs : 0 < szt P e) (h1 : szt P e = 1) {i : Nat} (hi : i ≤ l.length) :
    ∃ x, (∀ G : AH, xslice P t v none (some (.int .i64 (i : Nat))) G = some x) ∧ Part H H.length x (ss (l.take i)) := by
  rcases h with ⟨rfl, rfl⟩ | ⟨j, off, cs, rfl, h2, h3, h4, h5⟩
  · have : i = 0 := by simpa using hi
    subst this
    refine ⟨.slice none 0 0, fun G => ?_, ⟨⟨none, 0, rfl⟩, fun G _ => rfl⟩⟩
    simp [xslice, ht, bnd, asInt?, hs]
  · refine ⟨.slice (some ⟨j, off, none⟩) i i, fun G => ?_, ⟨⟨_, _, by rw [ss_len, List.length_take, Nat.min_eq_left hi]⟩, fun G hG => ?_⟩⟩
    · have : (i : Int) ≤ l.length := by omega
      simp [xslice, ht, bnd, asInt?, hs, this]
    · have hg : hget G j = _ := (hG j (hget_lt h3)).trans h3
      have h6 : (cs.cells.drop off).take i = ss (l.take i) := by
        have := congrArg (List.take i) h4
        rw [List.take_take, Nat.min_eq_left hi] at this
        rw [this]; simp [ss, List.map_take]
      have h7 : off + i ≤ cs.cells.length := by omega
      simp [xcells, hg, h6, h7]
theorem MlV.back {P : Program} {X : List Nat} {H : AH} {v : Value} {l : List ByteArray} {t e : TypeId} (h : MlV X H v l) (ht : und P t = .slice e) (hs : 0 < szt P e) (h1 : szt P e = 1) {i : Nat} (hi : i ≤ l.length) :
    ∃ x, (∀ G : AH, xslice P t v (some (.int .i64 (i : Nat))) none G = some x) ∧ Part H H.length x (ss (l.drop i)) := by
  rcases h with ⟨rfl, rfl⟩ | ⟨j, off, cs, rfl, h2, h3, h4, h5⟩
  · have : i = 0 := by simpa using hi
    subst this
    refine ⟨.slice none 0 0, fun G => ?_, ⟨⟨none, 0, rfl⟩, fun G _ => rfl⟩⟩
    simp [xslice, ht, bnd, asInt?, hs]
  · by_cases h0 : i ≠ 0 ∧ l.length = i
    · refine ⟨.slice (some ⟨j, off, some 0⟩) 0 0, fun G => ?_, ⟨⟨_, _, by rw [ss_len, List.length_drop, h0.2, Nat.sub_self]⟩, fun G hG => ?_⟩⟩
      · have h8 : (l.length : Int) = (i : Int) := by omega
        have h9 : ¬ (i : Int) = 0 := by omega
        have h10 := h0.1
        simp [xslice, ht, bnd, asInt?, hs, h8, h9, h10]
      · have : l.drop i = [] := List.drop_of_length_le (by omega)
        rw [this]; rfl
    · refine ⟨.slice (some ⟨j, off + i, none⟩) (l.length - i) (l.length - i), fun G => ?_, ⟨⟨_, _, by rw [ss_len, List.length_drop]⟩, fun G hG => ?_⟩⟩
      · have h8 : (i : Int) ≤ l.length := by omega
        have h9 : ¬ (¬ (i : Int) = 0 ∧ (l.length : Int) = (i : Int)) := by omega
        simp only [xslice, ht, bnd, asInt?]
        rw [if_pos ⟨by omega, h8, by omega, hs⟩, if_neg h9, h1]
        simp
      · have hg : hget G j = _ := (hG j (hget_lt h3)).trans h3
        have h6 : (cs.cells.drop (off + i)).take (l.length - i) = ss (l.drop i) := by
          have := congrArg (List.drop i) h4
          rw [List.drop_take, List.drop_drop] at this
          rw [this]; simp [ss, List.map_drop]
        have h7 : off + i + (l.length - i) ≤ cs.cells.length := by omega
        simp [xcells, hg, h6, h7]
/-- One text, by its address. -/
theorem MlV.at {P : Program} {X : List Nat} {H : AH} {v : Value} {l : List ByteArray} {t e : TypeId} (h : MlV X H v l) (ht : und P t = .slice e) (h1 : szt P e = 1) (hd : isAggD (und P e) = false) (ho : okD (und P e) = true) {i : Nat} {s : ByteArray} (hi : l[i]? = some s) :
    ∃ p, xindexAddr P t v (.int .i64 (i : Nat)) = some p ∧ xload P e p H = some (.string s) ∧ notTuple p = true ∧ ∃ j off, p = .pointer (some ⟨j, off, none⟩) ∧ j < H.length ∧ j ∉ X := by
  have hil := (List.getElem?_eq_some_iff.1 hi).1
  rcases h with ⟨rfl, rfl⟩ | ⟨j, off, cs, rfl, h2, h3, h4, h5⟩
  · simp at hi
  · refine ⟨.pointer (some ⟨j, off + i, none⟩), ?_, ?_, rfl, j, off + i, rfl, hget_lt h3, h2⟩
    · unfold xindexAddr
      simp only [ht, h1]
      rw [if_pos ⟨by omega, by omega, by omega⟩]
      simp
    · unfold xload
      simp only [h3, hd, ho]
      have h6 : (ss l)[i]? = some (.string s) := by simp [ss, hi]
      rw [← h4, List.getElem?_take_of_lt hil, List.getElem?_drop] at h6
      simpa using h6
theorem OwnL.ml {X : List Nat} {lo : Nat} {H : AH} {v : Value} {l : List ByteArray} (h : OwnL lo H v (ss l)) (hX : ∀ j ∈ X, j < lo) : MlV X H v l := by
  rcases h with ⟨rfl, h0⟩ | ⟨j, cs, h1, rfl, h3, h4⟩
  · exact .inl ⟨rfl, by simpa [ss] using h0⟩
  · have hpl := h4.length_le
    rw [ss_len] at hpl
    refine .inr ⟨j, 0, _, by rw [ss_len], fun hm => by have := hX j hm; omega, h3, ?_, by simpa using hpl⟩
    obtain ⟨r, hr⟩ := h4
    simp only [List.drop_zero]
    rw [← hr, ← ss_len l, List.take_left]
/-- A relay, of whatever type. -/
structure RlR (T : TypeId) (X : List Nat) (H : AH) (p : Nat) (L : Nat → List ByteArray) (Ms : Nat → Value) : Prop where
  cells : hget H p = some ⟨(List.range 8).map Ms, T, none⟩
  sl : ∀ k, k < 8 → MlV X H (Ms k) (L k)
  px : p ∈ X
def Rl (T : TypeId) (X : List Nat) (H : AH) (p : Nat) (L : Nat → List ByteArray) : Prop := ∃ Ms, RlR T X H p L Ms
theorem Rl.fr {T : TypeId} {X F F' : List Nat} {H H' : AH} {p : Nat} {L : Nat → List ByteArray} (h : Rl T X H p L) (hf : Fr H H' F F') (hp : p ∉ F) (hF : ∀ j ∈ F, j ∈ X) : Rl T X H' p L := by
  obtain ⟨Ms, h⟩ := h
  exact ⟨Ms, ⟨by rw [hf.out p (hget_lt h.cells) hp]; exact h.cells, fun k hk => (h.sl k hk).low (fun j hj hn => hf.out j hj (fun hm => hn (hF j hm))), h.px⟩⟩
theorem Rl.congr {T : TypeId} {X : List Nat} {H : AH} {p : Nat} {L L' : Nat → List ByteArray} (h : Rl T X H p L) (he : ∀ k, k < 8 → L k = L' k) : Rl T X H p L' := by
  obtain ⟨Ms, h⟩ := h
  exact ⟨Ms, ⟨h.cells, fun k hk => by rw [← he k hk]; exact h.sl k hk, h.px⟩⟩
/-- One list anew. -/
theorem RlR.put {T : TypeId} {X : List Nat} {H G : AH} {p : Nat} {L : Nat → List ByteArray} {Ms : Nat → Value} (h : RlR T X H p L Ms) (hlen : H.length ≤ G.length) (hg : ∀ j, j < H.length → hget G j = hget H j) {k : Nat} (hk : k < 8) {v : Value} {l : List ByteArray} (hv : MlV X G v l) :
    Rl T X (G.set p (some ⟨(List.range 8).map (upd Ms k v), T, none⟩)) p (upd L k l) ∧ Fr H (G.set p (some ⟨(List.range 8).map (upd Ms k v), T, none⟩)) [p] [p] := by
  have hp := hget_lt h.cells
  have hset : ∀ j, j ∉ X → hget (G.set p (some ⟨(List.range 8).map (upd Ms k v), T, none⟩)) j = hget G j := fun j hj => hget_set_ne (fun e => hj (e ▸ h.px))
  refine ⟨⟨upd Ms k v, ⟨hget_set_eq (by omega), fun k' hk' => ?_, h.px⟩⟩, ⟨by simpa using hlen, fun j hj hn => ?_, fun j hj => .inl hj⟩⟩
  · by_cases e : k' = k
    · subst e
      rw [upd_self, upd_self]
      exact hv.low (fun j _ hj => hset j hj)
    · rw [upd_ne _ _ e, upd_ne _ _ e]
      exact (h.sl k' hk').low (fun j hj hn => (hset j hn).trans (hg j hj))
  · rw [hget_set_ne (fun e => hn (by simp [e])), hg j hj]
end Go.Proofs.Yteldoimjachbbaa
