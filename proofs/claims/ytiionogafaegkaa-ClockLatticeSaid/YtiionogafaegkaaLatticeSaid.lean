/-
  ClockLattice: for every three clocks the statement's function answers true, and turns nothing of its arguments. No condition.
-/
import Derived.Test.YtiionogafaegkaaRows
import Derived.Test.YtiionogafaegkaaLaw
import Derived.Test.YtiionogafaegkaaLattice
namespace Go.Proofs.Ytiionogafaegkaa.lattice
open Go.ChangeShapes Go.WideShapes Go.ChangeAt Go.RowKit

theorem own : ownKnob Try.prog.godebug = none := by kernel_rfl
theorem fl_getD (l : List Int) (h : l.length = 8) : fl (fun i => l.getD i 0) = l := by
  apply List.ext_getElem?
  intro i
  unfold fl
  by_cases hi : i < 8
  · simp [hi, List.getElem?_eq_getElem (show i < l.length by omega)]
  · simp [List.getElem?_eq_none (show l.length ≤ i by omega), List.getElem?_eq_none (show (List.range 8).length ≤ i by simpa using hi)]
theorem open_clock {H : Type} {enc : TypeId × Value → H} {W : World} {b0 : Nat} {r : Reach} {v : Value} {d : DataW H} {p : List MemPlace} (hv : Value.okWide Try.prog W r b0 27 v) (h : DataW.Trod enc Try.prog W 0 (fun _ => true) true 27 v d p) :
    ∃ f : Nat → Int, v = .agg (cl f) ∧ U32 f := by
  obtain ⟨l, rfl, hl, hw⟩ := open_array Try.underlying27 Try.underlying25 (by kernel_rfl) (by kernel_rfl) hv h
  refine ⟨fun i => l.getD i 0, by rw [cl_fl, fl_getD l hl], fun j => ?_⟩
  by_cases hj : j < 8
  · have := hw j hj
    simpa [Lit.wf, IntKind.min, IntKind.max, IntKind.signed, IntKind.bits] using this
  · simp [List.getElem?_eq_none (show l.length ≤ j by omega)]

theorem reads : ∀ t ∈ Try.f6.params.toList, Try.prog.readableRec t = true ∧ t < Try.prog.types.size := by
  rw [Try.params6]
  intro t ht
  have : t = 27 := by simpa using ht
  subst this
  exact ⟨by kernel_rfl, of_decide_eq_true (by kernel_rfl)⟩

set_option maxRecDepth 100000 in
theorem lifted (os : Os) (started : os.Started) (H : Type) (enc : TypeId × Value → H) :
    ReturnsInHanded {} Try.checked os 6 .any (Rows.clockLatticeSpec.pre6 enc Try.prog Try.f6 Rows.clockLatticeRow.domain false) (Rows.clockLatticeSpec.post enc Try.prog Try.f6 false true false false) := by
  refine returnsInHanded_of_change (C := Try.checked) own started (by kernel_rfl) Try.func6
    (ChangeSpec.witness6 (enc := enc) (C := Try.checked) false ⟨#[], #[.agg (cl fun _ => 0), .agg (cl fun _ => 0), .agg (cl fun _ => 0)], []⟩ 8 (by kernel_rfl) (by kernel_rfl) (by kernel_rfl) (by kernel_rfl)) ?_
  intro W base args ds gs before hval0 hW _ _
  have hval : ∀ (j : Nat) t v, Try.f6.params[j]? = some t → args[j]? = some v → Value.okWide Try.prog W .any base t v := hval0
  have hW' := hW
  obtain ⟨p, q, hA0, hV, rfl, hfz, hnd⟩ := hW
  have hA : DataW.TrodAll enc Try.prog W 0 (fun _ => true) true Try.f6.params.toList args.toList ds p := hA0
  rw [Try.params6] at hA hval
  obtain ⟨v0, v1, v2, d0, d1, d2, p0, p1, p2, rfl, rfl, rfl, h0, h1, h2⟩ := trodAll_three hA
  obtain ⟨a, rfl, ha⟩ := open_clock (hval 0 27 v0 rfl rfl) h0
  obtain ⟨b, rfl, hb⟩ := open_clock (hval 1 27 v1 rfl rfl) h1
  obtain ⟨c, rfl, _⟩ := open_clock (hval 2 27 v2 rfl rfl) h2
  refine (lattice_walk a b c (fun j => (ha j).1) (fun j => (hb j).1) W).mono fun e W' ⟨he, hg⟩ => ?_
  subst he
  exact ⟨_, rfl, law_post (tb := 4) hW' rfl (by kernel_rfl) reads rfl rfl rfl (by kernel_rfl) Try.underlying4 hg⟩

theorem proved : Rows.ClockLatticeSaid :=
  OpenClaim.holds_of_wide 6 Try.f6 rfl rfl rfl rfl rfl rfl rfl ⟨rfl, rfl, rfl, rfl, rfl⟩ rfl rfl rfl rfl rfl (by kernel_rfl) Try.func6 (by kernel_rfl)
    (of_decide_eq_true (by kernel_rfl)) (by unfold Func.isWrapper; first | (rw [if_pos (by decide +kernel)]; kernel_rfl) | (rw [if_neg (by decide +kernel)]; exact ⟨rfl, rfl⟩))
    (fun os started H enc _ => lifted os started H enc)
end Go.Proofs.Ytiionogafaegkaa.lattice
