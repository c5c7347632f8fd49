/-
  A slice's cell, by its address. Over any program.
-/
import Derived.Test.YtcdkpeepboofhaaXop
import Derived.Test.YtcdkpeepboofhaaXfp
namespace Go.Proofs.Ytcdkpeepboofhaa
open Go Go.RowKit
set_option linter.unusedVariables false

theorem SlV.cell {P : Program} {H : AH} {v : Value} {cells : List Value} {t e : TypeId} (h : SlV H v cells) (ht : und P t = .slice e) (hs : szt P e = 1) (hd : isAggD (und P e) = false) (ho : okD (und P e) = true) {i : Nat} {x : Value} (hi : cells[i]? = some x) :
    ∃ p, xindexAddr P t v (.int .i64 (i : Nat)) = some p ∧ xload P e p H = some x := by
  rcases h with ⟨a, rfl, rfl⟩ | ⟨j, off, b, rfl, hb, hc⟩
  · simp at hi
  · have hl := (List.getElem?_eq_some_iff.1 hi).1
    refine ⟨.pointer (some ⟨j, off + i, none⟩), ?_, ?_⟩
    · unfold xindexAddr
      simp only [ht, hs]
      rw [if_pos ⟨by omega, by omega, by omega⟩]
      simp
    · unfold xload
      simp only [hb, hd, ho]
      simpa using hc i _ hi
/-- A slice that shows these cells as long as nothing but F is turned. -/
def SlS (H : AH) (F : List Nat) (v : Value) (cells : List Value) : Prop := ∀ G : AH, (∀ j, j < H.length → j ∉ F → hget G j = hget H j) → SlV G v cells
theorem SlS.now {H : AH} {F : List Nat} {v : Value} {cells : List Value} (h : SlS H F v cells) : SlV H v cells := h H (fun _ _ _ => rfl)
theorem SlS.fr {H H' : AH} {F F' : List Nat} {v : Value} {cells : List Value} (h : SlS H F v cells) (hf : Fr H H' F F') : SlS H' F' v cells := fun G hg => h G (fun j hj hn => by
  rw [hg j (Nat.lt_of_lt_of_le hj hf.len) (fun hm => ?_), hf.out j hj hn]
  rcases hf.new j hm with h1 | h1
  · exact hn h1
  · omega)
/-- One that lies among blocks below lo. -/
theorem SlV.stable {H : AH} {F : List Nat} {v : Value} {cells : List Value} (h : SlV H v cells) (hv : ∀ j off k, v = .slice (some ⟨j, off, none⟩) cells.length k → j ∉ F) : SlS H F v cells := by
  intro G hg
  rcases h with h | ⟨j, off, b, rfl, hb, hc⟩
  · exact .inl h
  · exact .inr ⟨j, off, b, rfl, by rw [hg j (hget_lt hb) (hv j off _ rfl)]; exact hb, hc⟩
end Go.Proofs.Ytcdkpeepboofhaa
