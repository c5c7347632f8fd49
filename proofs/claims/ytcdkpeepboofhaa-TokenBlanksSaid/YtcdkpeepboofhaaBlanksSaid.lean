/-
  TokenBlanks: more blanks between tokens, and remarks at lines' ends, change nothing but where they begin. No condition.
-/
import Derived.Test.YtcdkpeepboofhaaRows
import Derived.Test.YtcdkpeepboofhaaXl
import Derived.Test.YtcdkpeepboofhaaXop
import Derived.Test.YtcdkpeepboofhaaTk
namespace Go.Proofs.Ytcdkpeepboofhaa.tokenBlanks
open Go.ChangeShapes Go.WideShapes Go.ChangeAt Go.RowKit
open Go.ChangeMaps (open_string)
set_option linter.unusedVariables false
set_option linter.unusedSimpArgs false
set_option maxRecDepth 100000

theorem by_of {l : List Int} {n : Nat} (h : l.length = n) (b : ∀ i, i < n → (Lit.int .u8 (l.getD i 0)).wf = true) : By l := fun x hx => by
  obtain ⟨i, hi, rfl⟩ := List.mem_iff_getElem.1 hx
  have := byte_of h b i
  rwa [List.getD_eq_getElem?_getD, List.getElem?_eq_getElem hi] at this
theorem own : ownKnob Try.prog.godebug = none := by kernel_rfl
theorem reads : ∀ t ∈ Try.f3.params.toList, Try.prog.readableRec t = true ∧ t < Try.prog.types.size := by
  rw [Try.params3]
  intro t ht
  have h : t = 9 ∨ t = 22 := by have h0 := ht; simp at h0; first | exact h0 | (rcases h0 with h0 | h0 | h0 <;> simp [h0]) | (rcases h0 with h0 | h0 | h0 | h0 <;> simp [h0])
  rcases h with rfl | rfl
  · exact ⟨by kernel_rfl, of_decide_eq_true (by kernel_rfl)⟩
  · exact ⟨by kernel_rfl, of_decide_eq_true (by kernel_rfl)⟩
theorem lifted (os : Os) (started : os.Started) (H : Type) (enc : TypeId × Value → H) :
    ReturnsInHanded {} Try.checked os 3 .any (Rows.tokenBlanksSpec.pre6 enc Try.prog Try.f3 Rows.tokenBlanksRow.domain false) (Rows.tokenBlanksSpec.post enc Try.prog Try.f3 false true false false) := by
  refine returnsInHanded_of_change (C := Try.checked) own started (by kernel_rfl) Try.func3
    (ChangeSpec.witness6 (enc := enc) (C := Try.checked) false ⟨#[], #[.string ⟨#[]⟩, .slice none 0 0, .string ⟨#[]⟩], []⟩ 8 (by kernel_rfl) (by kernel_rfl) (by kernel_rfl) (by kernel_rfl)) ?_
  intro W base args ds gs before hval0 hW _ _
  have hval : ∀ (j : Nat) t v, Try.f3.params[j]? = some t → args[j]? = some v → Value.okWide Try.prog W .any base t v := hval0
  have hW' := hW
  obtain ⟨p, q, hA0, hV, rfl, hfz, hnd⟩ := hW
  have hA : DataW.TrodAll enc Try.prog W 0 (fun _ => true) true Try.f3.params.toList args.toList ds p := hA0
  rw [Try.params3] at hA hval
  obtain ⟨v0, vs0, d0, ds0, p0, q0, hargs, rfl, rfl, h0, r0⟩ := trodAll_cons hA
  obtain ⟨v1, vs1, d1, ds1, p1, q1, rfl, rfl, rfl, h1, r1⟩ := trodAll_cons r0
  obtain ⟨v2, vs2, d2, ds2, p2, q2, rfl, rfl, rfl, h2, r2⟩ := trodAll_cons r1
  obtain ⟨rfl, rfl, rfl⟩ := trodAll_nil r2
  obtain rfl : args = #[v0, v1, v2] := by cases args; simp_all
  obtain ⟨s, rfl, rfl, rfl, ws⟩ := open_string Try.underlying9 (hval 0 9 v0 rfl rfl) h0
  obtain ⟨Emore, vtmore, more, Tmore, wmore, mmore⟩ := open_islice Try.underlying22 Try.underlying5 (by kernel_rfl) (hval 1 22 v1 rfl rfl) h1
  obtain ⟨r, rfl, rfl, rfl, wr⟩ := open_string Try.underlying9 (hval 2 9 v2 rfl rfl) h2
  clear hA0 hval0
  have relmore : V (((Emore)).map (·.1)) (vtmore (([] : List (Ent × Blk))).length) v1 := by
    have := Tmore.rel (([] : List (Ent × Blk))) (([] : List (Ent × Blk)))
    simpa only [List.append_assoc, List.nil_append, List.append_nil] using this
  have slmore := Tmore.sl (([] : List (Ent × Blk))) (([] : List (Ent × Blk)))
  simp only [List.append_assoc, List.nil_append, List.append_nil] at slmore
  have romore : ∀ x ∈ Emore, x.1.b < W.heap.size ∧ x.1.es = x.2.es ∧ ∃ cs fr, W.heap[x.1.b]? = some (.cells cs x.2.ty fr) ∧ ∀ (j : Nat) (u : Value), x.2.cells[j]? = some u → ∃ y, cs[x.1.o + j]? = some y ∧ V1 (((Emore)).map (·.1)) u y := fun x hx => (Tmore.ro x hx).ro _
  have hR := rel_ro (W := W) ((Emore)) (fun _ => none) (fun x hx => by
    exact romore x hx) (fun g i hg => by cases hg)
  rw [← List.length_map (f := fun x : Ent × Blk => some x.2)] at hR
  have walk := calls_of_ac hR (by rfl) (args := #[.string s, vtmore (([] : List (Ent × Blk))).length, .string r]) (args' := #[.string s, v1, .string r]) (v := .bool true) rfl (fun i x hx => by
    match i, hx with
    | 0, hx => obtain rfl := Option.some.inj hx; exact ⟨_, rfl, .one (.plain rfl)⟩
    | 1, hx => obtain rfl := Option.some.inj hx; exact ⟨_, rfl, relmore⟩
    | 2, hx => obtain rfl := Option.some.inj hx; exact ⟨_, rfl, .one (.plain rfl)⟩
    | i + 3, hx => simp at hx) (blanks_law s r ws wr slmore (fun x hx => by have := wmore x hx; simpa [Lit.wf, IntKind.min, IntKind.max, IntKind.bits, IntKind.signed] using this) mmore)
  refine walk.mono fun e W' ⟨he, hg⟩ => ?_
  subst he
  exact ⟨_, rfl, law_post (tb := 4) hW' rfl (by kernel_rfl) reads rfl rfl rfl (by kernel_rfl) Try.underlying4 hg⟩

theorem proved : Rows.TokenBlanksSaid :=
  OpenClaim.holds_of_wide 3 Try.f3 rfl rfl rfl rfl rfl rfl rfl ⟨rfl, rfl, rfl, rfl, rfl⟩ rfl rfl rfl rfl rfl (by kernel_rfl) Try.func3 (by kernel_rfl)
    (of_decide_eq_true (by kernel_rfl)) (by unfold Func.isWrapper; first | (rw [if_pos (by decide +kernel)]; kernel_rfl) | (rw [if_neg (by decide +kernel)]; exact ⟨rfl, rfl⟩))
    (fun os started H enc _ => lifted os started H enc)
end Go.Proofs.Ytcdkpeepboofhaa.tokenBlanks
