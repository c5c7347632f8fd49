/-
  Slices as arguments: what is found in them, whatever was added since; what is answered, as a new row. Over any program.
-/
import Derived.Test.YthkcbhealphpmaaDm
import Derived.Test.YthkcbhealphpmaaXop
import Derived.Test.YthkcbhealphpmaaTab
namespace Go.Proofs.Ythkcbhealphpmaa
open Go Go.RowKit
set_option linter.unusedVariables false
set_option linter.unusedSimpArgs false

theorem SlV.at {P : Program} {H : AH} {v : Value} {k : IntKind} {l : List Int} {t e : TypeId} (h : SlV H v (iv k l)) (ht : und P t = .slice e) (hs : szt P e = 1) (hd : isAggD (und P e) = false) (ho : okD (und P e) = true) {i : Nat} (hi : i < l.length) :
    ∃ p, xindexAddr P t v (.int .i64 (i : Nat)) = some p ∧ ∀ H' : AH, (∀ j, j < H.length → hget H' j = hget H j) → xload P e p H' = some (.int k (l.getD i 0)) := by
  rcases h with ⟨a, rfl, h0⟩ | ⟨j, off, b, rfl, hb, hc⟩
  · have : l = [] := by simpa [iv] using h0
    subst this
    simp at hi
  · refine ⟨.pointer (some ⟨j, off + i, none⟩), ?_, fun H' hl => ?_⟩
    · unfold xindexAddr
      simp only [ht, hs]
      rw [if_pos ⟨by omega, by rw [iv_length]; omega, by omega⟩]
      simp
    · unfold xload
      simp only [hl j (hget_lt hb), hb, hd, ho]
      simpa using hc i _ (iv_getN k l i hi)
theorem OwnC.fresh {lo : Nat} {H : AH} {v : Value} {e : TypeId} {sz : Nat} {cells : List Value} (h : OwnC lo H v e sz cells) {len : Nat} (hn : cells ≠ []) (hl : cells.length = len * sz) (h0 : 0 < sz) : Fresh lo ⟨cells, e, some sz⟩ len v H := by
  rcases h with ⟨_, h⟩ | ⟨j, n, h1, h2, h3, h4⟩
  · exact absurd h hn
  · have : n = len := Nat.eq_of_mul_eq_mul_right h0 (h4.symm.trans hl)
    subst this
    exact ⟨j, h1, h2, h3⟩
theorem SlV.new {H : AH} {cells : List Value} {t : TypeId} {es : Option Nat} {n : Nat} (hn : cells.length = n) : SlV (H ++ [some ⟨cells, t, es⟩]) (.slice (some ⟨H.length, 0, none⟩) n n) cells :=
  .inr ⟨H.length, 0, ⟨cells, t, es⟩, by rw [hn], by rw [hget_app0]; rfl, fun i x hx => by rw [Nat.zero_add]; exact hx⟩
theorem SlV.of {H : AH} {cells : List Value} {t : TypeId} {es : Option Nat} {n j : Nat} (hj : hget H j = some ⟨cells, t, es⟩) (hn : cells.length = n) : SlV H (.slice (some ⟨j, 0, none⟩) n n) cells :=
  .inr ⟨j, 0, ⟨cells, t, es⟩, by rw [hn], hj, fun i x hx => by rw [Nat.zero_add]; exact hx⟩
theorem iv_ne {k : IntKind} {l : List Int} (h : l ≠ []) : iv k l ≠ [] := by
  intro e
  exact h (List.eq_nil_of_length_eq_zero (by simpa using congrArg List.length e))
end Go.Proofs.Ythkcbhealphpmaa
