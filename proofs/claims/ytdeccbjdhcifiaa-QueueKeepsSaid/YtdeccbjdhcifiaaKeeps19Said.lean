/-
  QueueKeeps: what is handed in is neither changed nor kept, and answers are new memory. No condition.
-/
import Derived.Test.YtdeccbjdhcifiaaRows
import Derived.Test.YtdeccbjdhcifiaaKB
import Derived.Test.YtdeccbjdhcifiaaKC
import Derived.Test.YtdeccbjdhcifiaaKH
namespace Go.Proofs.Ytdeccbjdhcifiaa.queueKeeps
open Go.ChangeShapes Go.WideShapes Go.ChangeAt Go.RowKit
open Go.ChangeMaps (open_string)
set_option linter.unusedVariables false
set_option linter.unusedSimpArgs false
set_option maxRecDepth 100000

theorem by_of {l : List Int} {n : Nat} (h : l.length = n) (b : ∀ i, i < n → (Lit.int .u8 (l.getD i 0)).wf = true) : By l := fun x hx => by
  obtain ⟨i, hi, rfl⟩ := List.mem_iff_getElem.1 hx
  have := byte_of h b i
  rwa [List.getD_eq_getElem?_getD, List.getElem?_eq_getElem hi] at this
theorem own : ownKnob Try.prog.godebug = none := by kernel_rfl
theorem reads : ∀ t ∈ Try.f12.params.toList, Try.prog.readableRec t = true ∧ t < Try.prog.types.size := by
  rw [Try.params12]
  intro t ht
  have h : t = 58 ∨ t = 60 := by have h0 := ht; simp at h0; first | exact h0 | (rcases h0 with h0 | h0 | h0 <;> simp [h0]) | (rcases h0 with h0 | h0 | h0 | h0 <;> simp [h0])
  rcases h with rfl | rfl
  · exact ⟨by kernel_rfl, of_decide_eq_true (by kernel_rfl)⟩
  · exact ⟨by kernel_rfl, of_decide_eq_true (by kernel_rfl)⟩
theorem lifted (os : Os) (started : os.Started) (H : Type) (enc : TypeId × Value → H) :
    ReturnsInHanded {} Try.checked os 12 .any (Rows.queueKeepsSpec.pre6 enc Try.prog Try.f12 Rows.queueKeepsRow.domain false) (Rows.queueKeepsSpec.post enc Try.prog Try.f12 false true false false) := by
  refine returnsInHanded_of_change (C := Try.checked) own started (by kernel_rfl) Try.func12
    (ChangeSpec.witness6 (enc := enc) (C := Try.checked) false ⟨#[], #[.slice none 0 0, (.agg (iv .u8 (List.replicate 32 0) ++ [Value.int .i64 0, .int .u32 0, .slice none 0 0, .int .i64 0, .slice none 0 0] ++ iv .u8 (List.replicate 64 0) ++ [Value.string ⟨#[]⟩, Value.slice none 0 0, Value.slice none 0 0]).toArray)], []⟩ 8 (by kernel_rfl) (by kernel_rfl) (by kernel_rfl) (by kernel_rfl)) ?_
  intro W base args ds gs before hval0 hW _ _
  have hval : ∀ (j : Nat) t v, Try.f12.params[j]? = some t → args[j]? = some v → Value.okWide Try.prog W .any base t v := hval0
  have hW' := hW
  obtain ⟨p, q, hA0, hV, rfl, hfz, hnd⟩ := hW
  have hA : DataW.TrodAll enc Try.prog W 0 (fun _ => true) true Try.f12.params.toList args.toList ds p := hA0
  rw [Try.params12] at hA hval
  obtain ⟨v0, vs0, d0, ds0, p0, q0, hargs, rfl, rfl, h0, r0⟩ := trodAll_cons hA
  obtain ⟨v1, vs1, d1, ds1, p1, q1, rfl, rfl, rfl, h1, r1⟩ := trodAll_cons r0
  obtain ⟨rfl, rfl, rfl⟩ := trodAll_nil r1
  obtain rfl : args = #[v0, v1] := by cases args; simp_all
  obtain ⟨dsq, okq, ceq⟩ := open_deep 12 (ks := [CK.sl heldK]) (by kernel_rfl) h0
  rw [slice_of Try.underlying58 (hval 0 58 v0 rfl rfl)] at ceq
  obtain ⟨dsh, okh, ceh⟩ := open_deep 12 (ks := heldK) (by kernel_rfl) h1
  obtain ⟨csh, rfl⟩ := agg_of (by kernel_rfl) (hval 1 60 v1 rfl rfl)
  have ceh : CellL W dsh csh.toList := ceh
  clear hA0 hval0
  obtain ⟨Eq, usq, Tq⟩ := tell_cells ceq (([] : List (Ent × Blk))).length
  obtain ⟨Eh, ush, Th⟩ := tell_cells ceh ((Eq ++ ([] : List (Ent × Blk)))).length
  have vlq : ValL (((Eq ++ (Eh ++ ([] : List (Ent × Blk))))).map fun x => some x.2) dsq usq := by
    have := Tq.valL ceq (A := ([] : List (Ent × Blk))) (B := (Eh ++ ([] : List (Ent × Blk)))) rfl
    simpa only [List.append_assoc, List.nil_append, List.append_nil] using this
  have roq : ∀ x ∈ Eq, x.1.b < W.heap.size ∧ x.2 = ⟨x.2.cells, x.2.ty, x.1.es⟩ ∧ ∃ cs fr, W.heap[x.1.b]? = some (.cells cs x.2.ty fr) ∧ ∀ (j : Nat) (u : Value), x.2.cells[j]? = some u → ∃ y, cs[x.1.o + j]? = some y ∧ V1 (((Eq ++ (Eh ++ ([] : List (Ent × Blk))))).map (·.1)) u y := by
    have := Tq.ro ([] : List (Ent × Blk)) (Eh ++ ([] : List (Ent × Blk))) rfl
    simpa only [List.append_assoc, List.nil_append, List.append_nil] using this
  obtain ⟨uq, rfl, relq⟩ : ∃ u, usq = [u] ∧ V (((Eq ++ (Eh ++ ([] : List (Ent × Blk))))).map (·.1)) u v0 := by
    have := Tq.vOne ceq (A := ([] : List (Ent × Blk))) (B := (Eh ++ ([] : List (Ent × Blk)))) rfl
    simpa only [List.append_assoc, List.nil_append, List.append_nil] using this
  have vlh : ValL (((Eq ++ (Eh ++ ([] : List (Ent × Blk))))).map fun x => some x.2) dsh ush := by
    have := Th.valL ceh (A := (Eq ++ ([] : List (Ent × Blk)))) (B := ([] : List (Ent × Blk))) rfl
    simpa only [List.append_assoc, List.nil_append, List.append_nil] using this
  have roh : ∀ x ∈ Eh, x.1.b < W.heap.size ∧ x.2 = ⟨x.2.cells, x.2.ty, x.1.es⟩ ∧ ∃ cs fr, W.heap[x.1.b]? = some (.cells cs x.2.ty fr) ∧ ∀ (j : Nat) (u : Value), x.2.cells[j]? = some u → ∃ y, cs[x.1.o + j]? = some y ∧ V1 (((Eq ++ (Eh ++ ([] : List (Ent × Blk))))).map (·.1)) u y := by
    have := Th.ro (Eq ++ ([] : List (Ent × Blk))) ([] : List (Ent × Blk)) rfl
    simpa only [List.append_assoc, List.nil_append, List.append_nil] using this
  have relh : V (((Eq ++ (Eh ++ ([] : List (Ent × Blk))))).map (·.1)) (.agg ush.toArray) (.agg csh) := by
    have := Th.vAgg ceh (A := (Eq ++ ([] : List (Ent × Blk)))) (B := ([] : List (Ent × Blk))) rfl
    simpa only [List.append_assoc, List.nil_append, List.append_nil] using this
  have hR := rel_ro (W := W) ((Eq ++ (Eh ++ ([] : List (Ent × Blk))))) (fun _ => none) (fun x hx => by
    simp only [List.mem_append, List.not_mem_nil, or_false] at hx
    rcases hx with hx | hx
    · exact roq x hx
    · exact roh x hx) (fun g i hg => by cases hg)
  rw [← List.length_map (f := fun x : Ent × Blk => some x.2)] at hR
  have walk := calls_of_ac hR (by rfl) (args := #[uq, .agg ush.toArray]) (args' := #[v0, .agg csh]) (v := .bool true) rfl (fun i x hx => by
    match i, hx with
    | 0, hx => obtain rfl := Option.some.inj hx; exact ⟨_, rfl, relq⟩
    | 1, hx => obtain rfl := Option.some.inj hx; exact ⟨_, rfl, relh⟩
    | i + 2, hx => simp at hx) (qkeeps_law okq vlq okh vlh)
  refine walk.mono fun e W' ⟨he, hg⟩ => ?_
  subst he
  exact ⟨_, rfl, law_post (tb := 4) hW' rfl (by kernel_rfl) reads rfl rfl rfl (by kernel_rfl) Try.underlying4 hg⟩

theorem proved : Rows.QueueKeepsSaid :=
  OpenClaim.holds_of_wide 12 Try.f12 rfl rfl rfl rfl rfl rfl rfl ⟨rfl, rfl, rfl, rfl, rfl⟩ rfl rfl rfl rfl rfl (by kernel_rfl) Try.func12 (by kernel_rfl)
    (of_decide_eq_true (by kernel_rfl)) (by unfold Func.isWrapper; first | (rw [if_pos (by decide +kernel)]; kernel_rfl) | (rw [if_neg (by decide +kernel)]; exact ⟨rfl, rfl⟩))
    (fun os started H enc _ => lifted os started H enc)
end Go.Proofs.Ytdeccbjdhcifiaa.queueKeeps
