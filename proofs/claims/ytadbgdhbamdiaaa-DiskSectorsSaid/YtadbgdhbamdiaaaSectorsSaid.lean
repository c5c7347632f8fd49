/-
  DiskSectors: behind a crash each sector is one that was settled, or one that was written to it since. No condition.
-/
import Derived.Test.YtadbgdhbamdiaaaRows
import Derived.Test.YtadbgdhbamdiaaaXl
import Derived.Test.YtadbgdhbamdiaaaXop
import Derived.Test.YtadbgdhbamdiaaaXrw
import Derived.Test.YtadbgdhbamdiaaaDk
namespace Go.Proofs.Ytadbgdhbamdiaaa.diskSectors
open Go.ChangeShapes Go.WideShapes Go.ChangeAt Go.RowKit
open Go.ChangeMaps (open_string)
set_option linter.unusedVariables false
set_option linter.unusedSimpArgs false
set_option maxRecDepth 100000

theorem by_of {l : List Int} {n : Nat} (h : l.length = n) (b : ∀ i, i < n → (Lit.int .u8 (l.getD i 0)).wf = true) : By l := fun x hx => by
  obtain ⟨i, hi, rfl⟩ := List.mem_iff_getElem.1 hx
  have := byte_of h b i
  rwa [List.getD_eq_getElem?_getD, List.getElem?_eq_getElem hi] at this
theorem own : ownKnob Try.prog.godebug = none := by kernel_rfl
theorem reads : ∀ t ∈ Try.f5.params.toList, Try.prog.readableRec t = true ∧ t < Try.prog.types.size := by
  rw [Try.params5]
  intro t ht
  have h : t = 22 ∨ t = 29 := by simpa using ht
  rcases h with rfl | rfl
  · exact ⟨by kernel_rfl, of_decide_eq_true (by kernel_rfl)⟩
  · exact ⟨by kernel_rfl, of_decide_eq_true (by kernel_rfl)⟩
theorem lifted (os : Os) (started : os.Started) (H : Type) (enc : TypeId × Value → H) :
    ReturnsInHanded {} Try.checked os 5 .any (Rows.diskSectorsSpec.pre6 enc Try.prog Try.f5 Rows.diskSectorsRow.domain false) (Rows.diskSectorsSpec.post enc Try.prog Try.f5 false true false false) := by
  refine returnsInHanded_of_change (C := Try.checked) own started (by kernel_rfl) Try.func5
    (ChangeSpec.witness6 (enc := enc) (C := Try.checked) false ⟨#[], #[.slice none 0 0, .slice none 0 0], []⟩ 8 (by kernel_rfl) (by kernel_rfl) (by kernel_rfl) (by kernel_rfl)) ?_
  intro W base args ds gs before hval0 hW _ _
  have hval : ∀ (j : Nat) t v, Try.f5.params[j]? = some t → args[j]? = some v → Value.okWide Try.prog W .any base t v := hval0
  have hW' := hW
  obtain ⟨p, q, hA0, hV, rfl, hfz, hnd⟩ := hW
  have hA : DataW.TrodAll enc Try.prog W 0 (fun _ => true) true Try.f5.params.toList args.toList ds p := hA0
  rw [Try.params5] at hA hval
  obtain ⟨v0, vs0, d0, ds0, p0, q0, hargs, rfl, rfl, h0, r0⟩ := trodAll_cons hA
  obtain ⟨v1, vs1, d1, ds1, p1, q1, rfl, rfl, rfl, h1, r1⟩ := trodAll_cons r0
  obtain ⟨rfl, rfl, rfl⟩ := trodAll_nil r1
  obtain rfl : args = #[v0, v1] := by cases args; simp_all
  obtain ⟨El, vtl, l, Tl, wl, ml⟩ := open_rows (ks := actK) Try.underlying22 Try.underlying31 (by kernel_rfl) (by decide) (by kernel_rfl) (hval 0 22 v0 rfl rfl) h0
  obtain ⟨Ek, vtk, k, Tk, wk, mk⟩ := open_islice Try.underlying29 Try.underlying5 (by kernel_rfl) (hval 1 29 v1 rfl rfl) h1
  clear hA0 hval0
  have rell : V (((El (([] : List (Ent × Blk))).length) ++ (Ek)).map (·.1)) (vtl (([] : List (Ent × Blk))).length) v0 := by
    have := Tl.rel (([] : List (Ent × Blk))) ((Ek))
    simpa only [List.append_assoc, List.nil_append, List.append_nil] using this
  have sll := Tl.sl (([] : List (Ent × Blk))) ((Ek))
  simp only [List.append_assoc, List.nil_append, List.append_nil] at sll
  have rol : ∀ x ∈ El (([] : List (Ent × Blk))).length, x.1.b < W.heap.size ∧ x.1.es = x.2.es ∧ ∃ cs fr, W.heap[x.1.b]? = some (.cells cs x.2.ty fr) ∧ ∀ (j : Nat) (u : Value), x.2.cells[j]? = some u → ∃ y, cs[x.1.o + j]? = some y ∧ V1 (((El (([] : List (Ent × Blk))).length) ++ (Ek)).map (·.1)) u y := by
    have := Tl.ro (([] : List (Ent × Blk))) ((Ek))
    simpa only [List.append_assoc, List.nil_append, List.append_nil] using this
  have relk : V (((El (([] : List (Ent × Blk))).length) ++ (Ek)).map (·.1)) (vtk ((El (([] : List (Ent × Blk))).length)).length) v1 := by
    have := Tk.rel ((El (([] : List (Ent × Blk))).length)) (([] : List (Ent × Blk)))
    simpa only [List.append_assoc, List.nil_append, List.append_nil] using this
  have slk := Tk.sl ((El (([] : List (Ent × Blk))).length)) (([] : List (Ent × Blk)))
  simp only [List.append_assoc, List.nil_append, List.append_nil] at slk
  have rok : ∀ x ∈ Ek, x.1.b < W.heap.size ∧ x.1.es = x.2.es ∧ ∃ cs fr, W.heap[x.1.b]? = some (.cells cs x.2.ty fr) ∧ ∀ (j : Nat) (u : Value), x.2.cells[j]? = some u → ∃ y, cs[x.1.o + j]? = some y ∧ V1 (((El (([] : List (Ent × Blk))).length) ++ (Ek)).map (·.1)) u y := fun x hx => (Tk.ro x hx).ro _
  have hR := rel_ro (W := W) ((El (([] : List (Ent × Blk))).length) ++ (Ek)) (fun _ => none) (fun x hx => by
    simp only [List.mem_append] at hx
    rcases hx with hx | hx
    · exact rol x hx
    · exact rok x hx) (fun g i hg => by cases hg)
  rw [← List.length_map (f := fun x : Ent × Blk => some x.2)] at hR
  have walk := calls_of_ac hR (by rfl) (args := #[vtl (([] : List (Ent × Blk))).length, vtk ((El (([] : List (Ent × Blk))).length)).length]) (args' := #[v0, v1]) (v := .bool true) rfl (fun i x hx => by
    match i, hx with
    | 0, hx => obtain rfl := Option.some.inj hx; exact ⟨_, rfl, rell⟩
    | 1, hx => obtain rfl := Option.some.inj hx; exact ⟨_, rfl, relk⟩
    | i + 2, hx => simp at hx) (sectors_law sll wl ml slk (fun x hx => u8_of (wk x hx)))
  refine walk.mono fun e W' ⟨he, hg⟩ => ?_
  subst he
  exact ⟨_, rfl, law_post (tb := 4) hW' rfl (by kernel_rfl) reads rfl rfl rfl (by kernel_rfl) Try.underlying4 hg⟩

theorem proved : Rows.DiskSectorsSaid :=
  OpenClaim.holds_of_wide 5 Try.f5 rfl rfl rfl rfl rfl rfl rfl ⟨rfl, rfl, rfl, rfl, rfl⟩ rfl rfl rfl rfl rfl (by kernel_rfl) Try.func5 (by kernel_rfl)
    (of_decide_eq_true (by kernel_rfl)) (by unfold Func.isWrapper; first | (rw [if_pos (by decide +kernel)]; kernel_rfl) | (rw [if_neg (by decide +kernel)]; exact ⟨rfl, rfl⟩))
    (fun os started H enc _ => lifted os started H enc)
end Go.Proofs.Ytadbgdhbamdiaaa.diskSectors
