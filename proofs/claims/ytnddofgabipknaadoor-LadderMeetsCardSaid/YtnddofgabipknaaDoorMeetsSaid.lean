/-
  LadderMeets: for every two secrets: each, with the other's public key, agrees on something, and on the same. The package variables are as the program's text lays them. No other condition.
-/
import Derived.Test.YtnddofgabipknaaDoorCards
import Derived.Test.YtnddofgabipknaaDoorTie
import Derived.WalkKit
import Derived.ProofKit
import Derived.OpenShut
import Derived.Deep.DeepHandedRow
import Derived.Lib.LaidTab
import Derived.Stop.LaidErr
import Derived.Test.YtnddofgabipknaaDoorLibB
import Derived.Test.YtnddofgabipknaaDoorLibC
import Derived.Test.YtnddofgabipknaaDoorLdG
namespace Go.Proofs.YtnddofgabipknaaDoor.ladderMeets
open Go.ChangeShapes Go.WideShapes Go.ChangeAt Go.RowKit
open Go.ChangeMaps (open_string)
set_option linter.unusedVariables false
set_option maxRecDepth 100000

theorem own : ownKnob Tryd.prog.godebug = none := by kernel_rfl
theorem reads : ∀ t ∈ Tryd.f7.params.toList, Tryd.prog.readableRec t = true ∧ t < Tryd.prog.types.size := by
  rw [Tryd.params7]
  intro t ht
  have h : t = 23 ∨ t = 23 := by simpa using ht
  rcases h with rfl | rfl
  · exact ⟨by kernel_rfl, of_decide_eq_true (by kernel_rfl)⟩
  · exact ⟨by kernel_rfl, of_decide_eq_true (by kernel_rfl)⟩
theorem tab0 {W : World} (h : laidMetH Tryd.prog Rows.ladderMeetsRow.laid W) : Lib.TabIs Tryd.prog W "cabal/field.prime" .u64 primeL :=
  Lib.tabIs_of_head (rest := _) (zs := primeL) (show Tryd.prog.globalNamed "cabal/field.prime" = some 0 by kernel_rfl) (show (Tryd.prog.globals[0]?).map (·.type) = some 34 by kernel_rfl) Tryd.underlying34 Tryd.underlying32 (by kernel_rfl) (by kernel_rfl) h

theorem contract (H : Type) (enc : TypeId × Value → H) (W : World) (base : Nat) (args : Array Value) (ds gs : List (DataW H)) (before : List MemPlace)
    (hval0 : ∀ (j : Nat) t v, Tryd.f7.params[j]? = some t → args[j]? = some v → Value.okWide Tryd.prog W .any base t v)
    (hW : DataW.Whole enc Tryd.prog Tryd.f7.params.toList Rows.ladderMeetsSpec.vars false W args.toList ds gs before) (hL : laidMetH Tryd.prog Rows.ladderMeetsRow.laid W) :
    Calls Tryd.prog 7 args W fun e W' => ∃ v, e = .returned v ∧ Rows.ladderMeetsSpec.post enc Tryd.prog Tryd.f7 false true false false W args v W' := by
  have hval : ∀ (j : Nat) t v, Tryd.f7.params[j]? = some t → args[j]? = some v → Value.okWide Tryd.prog W .any base t v := hval0
  have hW' := hW
  obtain ⟨p, q, hA0, hV, rfl, hfz, hnd⟩ := hW
  have hA : DataW.TrodAll enc Tryd.prog W 0 (fun _ => true) true Tryd.f7.params.toList args.toList ds p := hA0
  rw [Tryd.params7] at hA hval
  obtain ⟨v0, vs0, d0, ds0, p0, q0, hargs, rfl, rfl, h0, r0⟩ := trodAll_cons hA
  obtain ⟨v1, vs1, d1, ds1, p1, q1, rfl, rfl, rfl, h1, r1⟩ := trodAll_cons r0
  obtain ⟨rfl, rfl, rfl⟩ := trodAll_nil r1
  obtain rfl : args = #[v0, v1] := by cases args; simp_all
  obtain ⟨a, rfl, ha, ba⟩ := open_array Tryd.underlying23 Tryd.underlying5 (by kernel_rfl) (by kernel_rfl) (hval 0 23 v0 rfl rfl) h0
  obtain ⟨b, rfl, hb, bb⟩ := open_array Tryd.underlying23 Tryd.underlying5 (by kernel_rfl) (by kernel_rfl) (hval 1 23 v1 rfl rfl) h1
  clear hA0 hval0
  obtain ⟨tt0, fr0, hb0⟩ := tab_block (tab0 hL) (show Tryd.prog.globalNamed "cabal/field.prime" = some 0 by kernel_rfl)
  have hR := rel_ro (W := W) ([(⟨0, 0, 0, none⟩, ⟨iv .u64 primeL, tt0, none⟩)] ++ ([] ++ [])) (gam [0]) (fun x hx => by
    simp only [List.mem_append, List.mem_cons, List.not_mem_nil, or_false] at hx
    rcases hx with rfl
    · exact ⟨(Array.getElem?_eq_some_iff.1 hb0).1, rfl, _, _, hb0, fun j v hv => iv_v1 j v hv⟩
    ) (fun g i hg => by
    simp only [gam, List.findIdx?_cons, List.findIdx?_nil] at hg
    by_cases e0 : 0 = g
    · subst e0
      simp at hg
      subst hg
      exact ⟨_, rfl, rfl, rfl⟩
    simp_all)
  rw [← List.length_map (f := fun x : Ent × Blk => some x.2)] at hR
  have walk := calls_of_ac hR (by rfl) (args := #[.agg (iv .u8 a).toArray, .agg (iv .u8 b).toArray]) (args' := #[.agg (iv .u8 a).toArray, .agg (iv .u8 b).toArray]) (v := .bool true) rfl (fun i x hx => by
    match i, hx with
    | 0, hx => obtain rfl := Option.some.inj hx; exact ⟨_, rfl, plainV_mk (pv_iv _ _)⟩
    | 1, hx => obtain rfl := Option.some.inj hx; exact ⟨_, rfl, plainV_mk (pv_iv _ _)⟩
    | i + 2, hx => simp at hx) (meets_law ⟨_, rfl⟩ ha (by_of ha ba) hb (by_of hb bb))
  refine walk.mono fun e W' ⟨he, hg⟩ => ?_
  subst he
  exact ⟨_, rfl, law_post (tb := 4) hW' rfl (by kernel_rfl) reads rfl rfl rfl (by kernel_rfl) Tryd.underlying4 hg⟩

/-- A world for the witness: the tables' blocks hold what their initialisers lay. -/
noncomputable def laidWorld (os : Os) : World :=
  { World.holding Tryd.prog os ⟨#[], #[], []⟩ with heap := ((World.holding Tryd.prog os ⟨#[], #[], []⟩).heap.modify 0 fun
      | .cells _ t frozen => .cells (iv .u64 primeL).toArray t frozen
      | o => o) }
theorem laid_met (os : Os) : laidMet Tryd.prog Rows.ladderMeetsRow.laid ((laidWorld os).forCall (fun _ _ => 0) ⟨#[], #[.agg (iv .u8 (List.replicate 32 0)).toArray, .agg (iv .u8 (List.replicate 32 0)).toArray], []⟩).memory :=
  laidMet_of_run' 8 (by kernel_rfl) (by kernel_rfl)
theorem wreads (os : Os) {H : Type} (enc : TypeId × Value → H) : ∃ places, DataW.whole enc Tryd.prog ((laidWorld os).forCall (fun _ _ => 0) ⟨#[], #[.agg (iv .u8 (List.replicate 32 0)).toArray, .agg (iv .u8 (List.replicate 32 0)).toArray], []⟩).memory Tryd.f7.params.toList Rows.ladderMeetsSpec.vars false #[Value.agg (iv .u8 (List.replicate 32 0)).toArray, .agg (iv .u8 (List.replicate 32 0)).toArray].toList 8 = some ([.agg (List.replicate 32 (.lit (.int .u8 0))), .agg (List.replicate 32 (.lit (.int .u8 0)))], [], places) :=
  ⟨[], by kernel_rfl⟩

theorem lifted (os : Os) (started : os.Started) (H : Type) (enc : TypeId × Value → H) (F : Stop.Interp) :
    ReturnsInHanded {} Tryd.checked os 7 .any ((OpenSpec.ofChange Rows.ladderMeetsSpec).preRow enc Tryd.prog Tryd.f7 Rows.ladderMeetsRow.domain false Rows.ladderMeetsRow.laid) (((OpenSpec.ofChange Rows.ladderMeetsSpec).at F).post enc Tryd.prog Tryd.f7 false true false false) := by
  obtain ⟨places, hx⟩ := wreads os enc
  refine returnsInHanded_of_row (C := Tryd.checked) (s := OpenSpec.ofChange Rows.ladderMeetsSpec) own started (by kernel_rfl) Tryd.func7
    (witness_row_at (enc := enc) (C := Tryd.checked) false (laidWorld os) #[.agg (iv .u8 (List.replicate 32 0)).toArray, .agg (iv .u8 (List.replicate 32 0)).toArray] rfl (by kernel_rfl) (by kernel_rfl) (by kernel_rfl)
      (OpenSpec.preRow_of_cond 8 hx (by kernel_rfl) (fun k hk => by cases hk) (by kernel_rfl) (laid_met os))) ?_
  intro W base args ds gs before hval hW _ _ _ hL _ _
  exact contract H enc W base args ds gs before hval hW hL
theorem said : Rows.LadderMeetsSaid :=
  OpenClaim.holds_of_cond 7 Tryd.f7 rfl rfl rfl rfl rfl rfl rfl ⟨rfl, rfl, rfl, rfl, rfl⟩ rfl rfl rfl rfl rfl (by kernel_rfl) Tryd.func7 (by kernel_rfl)
    (of_decide_eq_true (by kernel_rfl)) (by unfold Func.isWrapper; first | (rw [if_pos (by decide +kernel)]; kernel_rfl) | (rw [if_neg (by decide +kernel)]; exact ⟨rfl, rfl⟩))
    (fun os started H enc _ F => by rw [OpenClaim.pre_eq_preRow]; exact lifted os started H enc F)
theorem plain (f : FuncId) (fn : Func) (hf : Tryd.pinned.checked.prog.funcNamed "cabal/caballaw07.LadderMeets" = some f) (hfn : Tryd.pinned.checked.prog.funcs[f]? = some fn) :
    false = Tryd.pinned.checked.prog.looks [] ∧ ∀ (j : Nat) t, fn.params[j]? = some t → Tryd.pinned.checked.prog.wantsStandIn t = false := by
  obtain rfl : f = 7 := Option.some.inj ((show Tryd.prog.funcNamed "cabal/caballaw07.LadderMeets" = some 7 by kernel_rfl).symm.trans hf) |>.symm
  obtain rfl : fn = Tryd.f7 := (Option.some.inj (Tryd.func7.symm.trans hfn)).symm
  refine ⟨by kernel_rfl, fun j t ht => ?_⟩
  rw [Tryd.params7] at ht
  have h : t = 23 ∨ t = 23 := by simpa using Array.mem_of_getElem? ht
  rcases h with rfl | rfl
  · exact (show Tryd.prog.wantsStandIn 23 = false by kernel_rfl)
  · exact (show Tryd.prog.wantsStandIn 23 = false by kernel_rfl)
/-- The card. -/
theorem proved : Rows.LadderMeetsCardSaid :=
  Claim7.holds_tied_plain_at .later [] _ _ _ _ said (fun _ h => by cases h) (by kernel_rfl) (fun _ h => by cases h) ladderMeets_row_tie rfl ⟨rfl, rfl⟩ (by kernel_rfl) rfl plain (by kernel_rfl)
end Go.Proofs.YtnddofgabipknaaDoor.ladderMeets
