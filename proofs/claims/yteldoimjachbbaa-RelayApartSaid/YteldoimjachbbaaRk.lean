/-
  What is done to one member's mail leaves another's.
-/
import Derived.Test.YteldoimjachbbaaRi
namespace Go.Proofs.Yteldoimjachbbaa
open Go Go.RowKit
set_option linter.unusedVariables false
set_option linter.unusedSimpArgs false

section
variable {L M : Nat → List ByteArray} {kd t to i k : Int} {s : ByteArray}
theorem far_upd {v : List ByteArray} (ht : memB t = true) (hm : memB to = true) (hne : t ≠ to) : upd L t.toNat v to.toNat = L to.toNat := by
  have h1 := memB_iff.1 ht
  have h2 := memB_iff.1 hm
  exact upd_ne _ _ (by omega)
theorem has_mem (h : hasB L t i = true) : memB t = true := by
  simp only [hasB, Bool.and_eq_true] at h
  exact h.1
theorem post_far (hm : memB to = true) (hne : t ≠ to) : postL L t s to.toNat = L to.toNat := by
  unfold postL
  split
  · rename_i h; exact far_upd h hm hne
  · rfl
theorem take_far (hm : memB to = true) (hne : t ≠ to) : tkL L t i to.toNat = L to.toNat := by
  unfold tkL
  split
  · rename_i h; exact far_upd (has_mem h) hm hne
  · rfl
theorem do_far (hm : memB to = true) (hne : t ≠ to) : doL L kd t i k s to.toNat = L to.toNat := by
  unfold doL
  split
  · exact post_far hm hne
  split
  · exact take_far hm hne
  split
  · exact take_far hm hne
  split
  · unfold dbL
    split
    · exact post_far hm hne
    · rfl
  split
  · unfold mvL
    split
    · rename_i h
      simp only [Bool.and_eq_true] at h
      exact far_upd (has_mem h.1) hm hne
    · rfl
  · rfl
def Near (L M : Nat → List ByteArray) (to : Int) : Prop := memB to = true → L to.toNat = M to.toNat
theorem has_near (h : Near L M to) : hasB L to i = hasB M to i := by
  unfold hasB
  cases hm : memB to with
  | false => rfl
  | true => rw [h hm]
theorem tkS_near (h : Near L M to) : tkS L to i = tkS M to i := by
  unfold tkS
  rw [has_near h]
  split
  · rename_i hh; rw [h (has_mem hh)]
  · rfl
theorem tkE_near (h : Near L M to) : tkE L to i = tkE M to i := by
  unfold tkE
  rw [has_near h]
theorem post_near (h : Near L M to) : Near (postL L to s) (postL M to s) to := fun hm => by
  simp only [postL, hm, if_true, upd_self, h hm]
theorem cut_near (hm : memB to = true) (h : Near L M to) {n : Nat} : cutL L to.toNat n to.toNat = cutL M to.toNat n to.toNat := by
  simp only [cutL, upd_self, h hm]
theorem take_near (h : Near L M to) : Near (tkL L to i) (tkL M to i) to := fun hm => by
  unfold tkL
  rw [has_near h]
  split
  · exact cut_near hm h
  · exact h hm
theorem do_near (h : Near L M to) : doS L kd to i = doS M kd to i ∧ doE L kd to i k = doE M kd to i k ∧ Near (doL L kd to i k s) (doL M kd to i k s) to := by
  refine ⟨?_, ?_, fun hm => ?_⟩
  · unfold doS
    rw [tkS_near h]
  · unfold doE mvE
    rw [tkE_near h, has_near h, has_near h]
  · unfold doL
    split
    · exact post_near h hm
    split
    · exact take_near h hm
    split
    · exact take_near h hm
    split
    · unfold dbL
      rw [has_near h]
      split
      · rw [tkS_near h]; exact post_near h hm
      · exact h hm
    split
    · unfold mvL
      rw [has_near h, has_near h]
      split
      · rw [upd_self, upd_self, tkS_near h, cut_near hm h]
      · exact h hm
    · exact h hm
theorem mail_near (h : Near L M to) : mailL L to = mailL M to := by
  unfold mailL
  split
  · rename_i hm; exact h hm
  · rfl
end
end Go.Proofs.Yteldoimjachbbaa
