/-
  WireCut: what is cut off anywhere lacks bytes. No condition.
-/
import Derived.Test.YtpdijcaikjobiaaRows
import Derived.Test.YtpdijcaikjobiaaLibB
import Derived.Test.YtpdijcaikjobiaaLibC
import Derived.Test.YtpdijcaikjobiaaLibD
import Derived.Test.YtpdijcaikjobiaaWz
namespace Go.Proofs.Ytpdijcaikjobiaa.wireCut
open Go.ChangeShapes Go.WideShapes Go.ChangeAt Go.RowKit
open Go.ChangeMaps (open_string)
set_option linter.unusedVariables false
set_option linter.unusedSimpArgs false
set_option maxRecDepth 100000

theorem by_of {l : List Int} {n : Nat} (h : l.length = n) (b : ∀ i, i < n → (Lit.int .u8 (l.getD i 0)).wf = true) : By l := fun x hx => by
  obtain ⟨i, hi, rfl⟩ := List.mem_iff_getElem.1 hx
  have := byte_of h b i
  rwa [List.getD_eq_getElem?_getD, List.getElem?_eq_getElem hi] at this
theorem own : ownKnob Try.prog.godebug = none := by kernel_rfl
theorem reads : ∀ t ∈ Try.f6.params.toList, Try.prog.readableRec t = true ∧ t < Try.prog.types.size := by
  rw [Try.params6]
  intro t ht
  have h : t = 33 ∨ t = 3 := by simpa using ht
  rcases h with rfl | rfl
  · exact ⟨by kernel_rfl, of_decide_eq_true (by kernel_rfl)⟩
  · exact ⟨by kernel_rfl, of_decide_eq_true (by kernel_rfl)⟩
theorem lifted (os : Os) (started : os.Started) (H : Type) (enc : TypeId × Value → H) :
    ReturnsInHanded {} Try.checked os 6 .any (Rows.wireCutSpec.pre6 enc Try.prog Try.f6 Rows.wireCutRow.domain false) (Rows.wireCutSpec.post enc Try.prog Try.f6 false true false false) := by
  refine returnsInHanded_of_change (C := Try.checked) own started (by kernel_rfl) Try.func6
    (ChangeSpec.witness6 (enc := enc) (C := Try.checked) false ⟨#[], #[.agg #[.int .i64 0, .int .i64 0, .slice none 0 0, .string ⟨#[]⟩, .slice none 0 0], .int .i64 0], []⟩ 8 (by kernel_rfl) (by kernel_rfl) (by kernel_rfl) (by kernel_rfl)) ?_
  intro W base args ds gs before hval0 hW _ _
  have hval : ∀ (j : Nat) t v, Try.f6.params[j]? = some t → args[j]? = some v → Value.okWide Try.prog W .any base t v := hval0
  have hW' := hW
  obtain ⟨p, q, hA0, hV, rfl, hfz, hnd⟩ := hW
  have hA : DataW.TrodAll enc Try.prog W 0 (fun _ => true) true Try.f6.params.toList args.toList ds p := hA0
  rw [Try.params6] at hA hval
  obtain ⟨v0, vs0, d0, ds0, p0, q0, hargs, rfl, rfl, h0, r0⟩ := trodAll_cons hA
  obtain ⟨v1, vs1, d1, ds1, p1, q1, rfl, rfl, rfl, h1, r1⟩ := trodAll_cons r0
  obtain ⟨rfl, rfl, rfl⟩ := trodAll_nil r1
  obtain rfl : args = #[v0, v1] := by cases args; simp_all
  obtain ⟨dsx, okx, cex⟩ := open_deep 12 (ks := itK) (by kernel_rfl) h0
  obtain ⟨csx, rfl⟩ := agg_of (by kernel_rfl) (hval 0 33 v0 rfl rfl)
  have cex : CellL W dsx csx.toList := cex
  obtain ⟨a, rfl, rfl, rfl, wa⟩ := open_int Try.underlying3 (hval 1 3 v1 rfl rfl) h1
  clear hA0 hval0
  obtain ⟨Ex, usx, Tx⟩ := tell_cells cex (([] : List (Ent × Blk))).length
  have vlx : ValL (((Ex ++ ([] : List (Ent × Blk)))).map fun x => some x.2) dsx usx := by
    have := Tx.valL cex (A := ([] : List (Ent × Blk))) (B := ([] : List (Ent × Blk))) rfl
    simpa only [List.append_assoc, List.nil_append, List.append_nil] using this
  have rox : ∀ x ∈ Ex, x.1.b < W.heap.size ∧ x.1.es = x.2.es ∧ ∃ cs fr, W.heap[x.1.b]? = some (.cells cs x.2.ty fr) ∧ ∀ (j : Nat) (u : Value), x.2.cells[j]? = some u → ∃ y, cs[x.1.o + j]? = some y ∧ V1 (((Ex ++ ([] : List (Ent × Blk)))).map (·.1)) u y := by
    have := Tx.ro ([] : List (Ent × Blk)) ([] : List (Ent × Blk)) rfl
    simpa only [List.append_assoc, List.nil_append, List.append_nil] using this
  have relx : V (((Ex ++ ([] : List (Ent × Blk)))).map (·.1)) (.agg usx.toArray) (.agg csx) := by
    have := Tx.vAgg cex (A := ([] : List (Ent × Blk))) (B := ([] : List (Ent × Blk))) rfl
    simpa only [List.append_assoc, List.nil_append, List.append_nil] using this
  have hR := rel_ro (W := W) ((Ex ++ ([] : List (Ent × Blk)))) (fun _ => none) (fun x hx => by
    simp only [List.mem_append, List.not_mem_nil, or_false] at hx
    exact rox x hx) (fun g i hg => by cases hg)
  rw [← List.length_map (f := fun x : Ent × Blk => some x.2)] at hR
  have walk := calls_of_ac hR (by rfl) (args := #[.agg usx.toArray, .int .i64 a]) (args' := #[.agg csx, .int .i64 a]) (v := .bool true) rfl (fun i x hx => by
    match i, hx with
    | 0, hx => obtain rfl := Option.some.inj hx; exact ⟨_, rfl, relx⟩
    | 1, hx => obtain rfl := Option.some.inj hx; exact ⟨_, rfl, .one (.plain rfl)⟩
    | i + 2, hx => simp at hx) (cut_law a okx vlx (by simpa [Lit.wf, IntKind.min, IntKind.max, IntKind.bits, IntKind.signed] using wa) (Nat.le_refl _))
  refine walk.mono fun e W' ⟨he, hg⟩ => ?_
  subst he
  exact ⟨_, rfl, law_post (tb := 4) hW' rfl (by kernel_rfl) reads rfl rfl rfl (by kernel_rfl) Try.underlying4 hg⟩

theorem proved : Rows.WireCutSaid :=
  OpenClaim.holds_of_wide 6 Try.f6 rfl rfl rfl rfl rfl rfl rfl ⟨rfl, rfl, rfl, rfl, rfl⟩ rfl rfl rfl rfl rfl (by kernel_rfl) Try.func6 (by kernel_rfl)
    (of_decide_eq_true (by kernel_rfl)) (by unfold Func.isWrapper; first | (rw [if_pos (by decide +kernel)]; kernel_rfl) | (rw [if_neg (by decide +kernel)]; exact ⟨rfl, rfl⟩))
    (fun os started H enc _ => lifted os started H enc)
end Go.Proofs.Ytpdijcaikjobiaa.wireCut
