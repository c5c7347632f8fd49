/-
  AeadTurned: for every key, nonce, text and by: a box whose tag was turned anywhere is refused, and one that wasn't is opened. No condition.
-/
import Derived.Test.YtjfjakighnibpaaRows
import Derived.Test.YtjfjakighnibpaaLibB
import Derived.Test.YtjfjakighnibpaaLibC
import Derived.Test.YtjfjakighnibpaaAeD
namespace Go.Proofs.Ytjfjakighnibpaa.aeadTurned
open Go.ChangeShapes Go.WideShapes Go.ChangeAt Go.RowKit
open Go.ChangeMaps (open_string)
set_option linter.unusedVariables false
set_option linter.unusedSimpArgs false
set_option maxRecDepth 100000

theorem by_of {l : List Int} {n : Nat} (h : l.length = n) (b : ∀ i, i < n → (Lit.int .u8 (l.getD i 0)).wf = true) : By l := fun x hx => by
  obtain ⟨i, hi, rfl⟩ := List.mem_iff_getElem.1 hx
  have := byte_of h b i
  rwa [List.getD_eq_getElem?_getD, List.getElem?_eq_getElem hi] at this
theorem own : ownKnob Try.prog.godebug = none := by kernel_rfl
theorem reads : ∀ t ∈ Try.f7.params.toList, Try.prog.readableRec t = true ∧ t < Try.prog.types.size := by
  rw [Try.params7]
  intro t ht
  have h : t = 23 ∨ t = 9 ∨ t = 9 ∨ t = 9 ∨ t = 5 ∨ t = 5 := by simpa using ht
  rcases h with rfl | rfl | rfl | rfl | rfl | rfl
  · exact ⟨by kernel_rfl, of_decide_eq_true (by kernel_rfl)⟩
  · exact ⟨by kernel_rfl, of_decide_eq_true (by kernel_rfl)⟩
  · exact ⟨by kernel_rfl, of_decide_eq_true (by kernel_rfl)⟩
  · exact ⟨by kernel_rfl, of_decide_eq_true (by kernel_rfl)⟩
  · exact ⟨by kernel_rfl, of_decide_eq_true (by kernel_rfl)⟩
  · exact ⟨by kernel_rfl, of_decide_eq_true (by kernel_rfl)⟩
theorem lifted (os : Os) (started : os.Started) (H : Type) (enc : TypeId × Value → H) :
    ReturnsInHanded {} Try.checked os 7 .any (Rows.aeadTurnedSpec.pre6 enc Try.prog Try.f7 Rows.aeadTurnedRow.domain false) (Rows.aeadTurnedSpec.post enc Try.prog Try.f7 false true false false) := by
  refine returnsInHanded_of_change (C := Try.checked) own started (by kernel_rfl) Try.func7
    (ChangeSpec.witness6 (enc := enc) (C := Try.checked) false ⟨#[], #[.agg (iv .u8 (List.replicate 32 0)).toArray, .string ⟨#[]⟩, .string ⟨#[]⟩, .string ⟨#[]⟩, .int .u8 0, .int .u8 0], []⟩ 8 (by kernel_rfl) (by kernel_rfl) (by kernel_rfl) (by kernel_rfl)) ?_
  intro W base args ds gs before hval0 hW _ _
  have hval : ∀ (j : Nat) t v, Try.f7.params[j]? = some t → args[j]? = some v → Value.okWide Try.prog W .any base t v := hval0
  have hW' := hW
  obtain ⟨p, q, hA0, hV, rfl, hfz, hnd⟩ := hW
  have hA : DataW.TrodAll enc Try.prog W 0 (fun _ => true) true Try.f7.params.toList args.toList ds p := hA0
  rw [Try.params7] at hA hval
  obtain ⟨v0, vs0, d0, ds0, p0, q0, hargs, rfl, rfl, h0, r0⟩ := trodAll_cons hA
  obtain ⟨v1, vs1, d1, ds1, p1, q1, rfl, rfl, rfl, h1, r1⟩ := trodAll_cons r0
  obtain ⟨v2, vs2, d2, ds2, p2, q2, rfl, rfl, rfl, h2, r2⟩ := trodAll_cons r1
  obtain ⟨v3, vs3, d3, ds3, p3, q3, rfl, rfl, rfl, h3, r3⟩ := trodAll_cons r2
  obtain ⟨v4, vs4, d4, ds4, p4, q4, rfl, rfl, rfl, h4, r4⟩ := trodAll_cons r3
  obtain ⟨v5, vs5, d5, ds5, p5, q5, rfl, rfl, rfl, h5, r5⟩ := trodAll_cons r4
  obtain ⟨rfl, rfl, rfl⟩ := trodAll_nil r5
  obtain rfl : args = #[v0, v1, v2, v3, v4, v5] := by cases args; simp_all
  obtain ⟨kb, rfl, hkb, bkb⟩ := open_array Try.underlying23 Try.underlying5 (by kernel_rfl) (by kernel_rfl) (hval 0 23 v0 rfl rfl) h0
  obtain ⟨s, rfl, rfl, rfl, ws⟩ := open_string Try.underlying9 (hval 1 9 v1 rfl rfl) h1
  obtain ⟨t, rfl, rfl, rfl, wt⟩ := open_string Try.underlying9 (hval 2 9 v2 rfl rfl) h2
  obtain ⟨b, rfl, rfl, rfl, wb⟩ := open_string Try.underlying9 (hval 3 9 v3 rfl rfl) h3
  obtain ⟨a, rfl, rfl, rfl, wa⟩ := open_int Try.underlying5 (hval 4 5 v4 rfl rfl) h4
  obtain ⟨x, rfl, rfl, rfl, wx⟩ := open_int Try.underlying5 (hval 5 5 v5 rfl rfl) h5
  clear hA0 hval0
  have hR := rel_ro (W := W) ([] ++ ([] ++ [])) (fun _ => none) (fun x hx => by
    simp only [List.nil_append, List.append_nil] at hx
    cases hx) (fun g i hg => by cases hg)
  rw [← List.length_map (f := fun x : Ent × Blk => some x.2)] at hR
  have walk := calls_of_ac hR (by rfl) (args := #[.agg (iv .u8 kb).toArray, .string s, .string t, .string b, .int .u8 a, .int .u8 x]) (args' := #[.agg (iv .u8 kb).toArray, .string s, .string t, .string b, .int .u8 a, .int .u8 x]) (v := .bool true) rfl (fun i x hx => by
    match i, hx with
    | 0, hx => obtain rfl := Option.some.inj hx; exact ⟨_, rfl, plainV_mk (pv_iv _ _)⟩
    | 1, hx => obtain rfl := Option.some.inj hx; exact ⟨_, rfl, .one (.plain rfl)⟩
    | 2, hx => obtain rfl := Option.some.inj hx; exact ⟨_, rfl, .one (.plain rfl)⟩
    | 3, hx => obtain rfl := Option.some.inj hx; exact ⟨_, rfl, .one (.plain rfl)⟩
    | 4, hx => obtain rfl := Option.some.inj hx; exact ⟨_, rfl, .one (.plain rfl)⟩
    | 5, hx => obtain rfl := Option.some.inj hx; exact ⟨_, rfl, .one (.plain rfl)⟩
    | i + 6, hx => simp at hx) (turned_law (by_of hkb bkb) hkb s t b a x (u8_of wa) (u8_of wx) ws)
  refine walk.mono fun e W' ⟨he, hg⟩ => ?_
  subst he
  exact ⟨_, rfl, law_post (tb := 4) hW' rfl (by kernel_rfl) reads rfl rfl rfl (by kernel_rfl) Try.underlying4 hg⟩

theorem proved : Rows.AeadTurnedSaid :=
  OpenClaim.holds_of_wide 7 Try.f7 rfl rfl rfl rfl rfl rfl rfl ⟨rfl, rfl, rfl, rfl, rfl⟩ rfl rfl rfl rfl rfl (by kernel_rfl) Try.func7 (by kernel_rfl)
    (of_decide_eq_true (by kernel_rfl)) (by unfold Func.isWrapper; first | (rw [if_pos (by decide +kernel)]; kernel_rfl) | (rw [if_neg (by decide +kernel)]; exact ⟨rfl, rfl⟩))
    (fun os started H enc _ => lifted os started H enc)
end Go.Proofs.Ytjfjakighnibpaa.aeadTurned
