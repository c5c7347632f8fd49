/-
  JournalPlays: whatever is done to a journal, wherever the disk dies, whatever a crash keeps: each answer, the records, and each block of the disk, are the document's. The package variables are as the program's text lays them. No other condition.
-/
import Derived.Test.YtgamobjfeaeddaaGreatDoorCards
import Derived.Test.YtgamobjfeaeddaaGreatDoorTie
import Derived.WalkKit
import Derived.ProofKit
import Derived.OpenShut
import Derived.Deep.DeepHandedRow
import Derived.Lib.LaidTab
import Derived.Stop.LaidErr
import Derived.Test.YtgamobjfeaeddaaGreatDoorMpB
import Derived.Test.YtgamobjfeaeddaaGreatDoorMpH
namespace Go.Proofs.YtgamobjfeaeddaaGreatDoor.journalPlays
open Go.ChangeShapes Go.WideShapes Go.ChangeAt Go.RowKit
open Go.ChangeMaps (open_string)
set_option linter.unusedVariables false
set_option maxRecDepth 100000

theorem own : ownKnob Tryz.prog.godebug = none := by kernel_rfl
theorem reads : ∀ t ∈ Tryz.f3.params.toList, Tryz.prog.readableRec t = true ∧ t < Tryz.prog.types.size := by
  rw [Tryz.params3]
  intro t ht
  have h : t = 3 ∨ t = 22 := by simpa using ht
  rcases h with rfl | rfl
  · exact ⟨by kernel_rfl, of_decide_eq_true (by kernel_rfl)⟩
  · exact ⟨by kernel_rfl, of_decide_eq_true (by kernel_rfl)⟩
theorem tab0 {W : World} (h : laidMetH Tryz.prog Rows.journalPlaysRow.laid W) : Lib.TabIs Tryz.prog W "cabal/digest.start" .u32 startL :=
  Lib.tabIs_of_head (rest := _) (zs := startL) (show Tryz.prog.globalNamed "cabal/digest.start" = some 1 by kernel_rfl) (show (Tryz.prog.globals[1]?).map (·.type) = some 132 by kernel_rfl) Tryz.underlying132 Tryz.underlying92 (by kernel_rfl) (by kernel_rfl) h
theorem tab1 {W : World} (h : laidMetH Tryz.prog Rows.journalPlaysRow.laid W) : Lib.TabIs Tryz.prog W "cabal/digest.roundWords" .u32 roundL :=
  Lib.tabIs_of_head (rest := _) (zs := roundL) (show Tryz.prog.globalNamed "cabal/digest.roundWords" = some 2 by kernel_rfl) (show (Tryz.prog.globals[2]?).map (·.type) = some 149 by kernel_rfl) Tryz.underlying149 Tryz.underlying92 (by kernel_rfl) (by kernel_rfl) (laidMet.tail h)

theorem contract (H : Type) (enc : TypeId × Value → H) (W : World) (base : Nat) (args : Array Value) (ds gs : List (DataW H)) (before : List MemPlace)
    (hval0 : ∀ (j : Nat) t v, Tryz.f3.params[j]? = some t → args[j]? = some v → Value.okWide Tryz.prog W .any base t v)
    (hW : DataW.Whole enc Tryz.prog Tryz.f3.params.toList Rows.journalPlaysSpec.vars false W args.toList ds gs before) (hL : laidMetH Tryz.prog Rows.journalPlaysRow.laid W) :
    Calls Tryz.prog 3 args W fun e W' => ∃ v, e = .returned v ∧ Rows.journalPlaysSpec.post enc Tryz.prog Tryz.f3 false true false false W args v W' := by
  have hval : ∀ (j : Nat) t v, Tryz.f3.params[j]? = some t → args[j]? = some v → Value.okWide Tryz.prog W .any base t v := hval0
  have hW' := hW
  obtain ⟨p, q, hA0, hV, rfl, hfz, hnd⟩ := hW
  have hA : DataW.TrodAll enc Tryz.prog W 0 (fun _ => true) true Tryz.f3.params.toList args.toList ds p := hA0
  rw [Tryz.params3] at hA hval
  obtain ⟨v0, vs0, d0, ds0, p0, q0, hargs, rfl, rfl, h0, r0⟩ := trodAll_cons hA
  obtain ⟨v1, vs1, d1, ds1, p1, q1, rfl, rfl, rfl, h1, r1⟩ := trodAll_cons r0
  obtain ⟨rfl, rfl, rfl⟩ := trodAll_nil r1
  obtain rfl : args = #[v0, v1] := by cases args; simp_all
  obtain ⟨blocks, rfl, rfl, rfl, wblocks⟩ := open_int Tryz.underlying3 (hval 0 3 v0 rfl rfl) h0
  obtain ⟨dsl, okl, cel⟩ := open_deep 12 (ks := [CK.sl acK]) (by kernel_rfl) h1
  rw [slice_of Tryz.underlying22 (hval 1 22 v1 rfl rfl)] at cel
  clear hA0 hval0
  obtain ⟨tt0, fr0, hb0⟩ := tab_block (tab0 hL) (show Tryz.prog.globalNamed "cabal/digest.start" = some 1 by kernel_rfl)
  obtain ⟨tt1, fr1, hb1⟩ := tab_block (tab1 hL) (show Tryz.prog.globalNamed "cabal/digest.roundWords" = some 2 by kernel_rfl)
  obtain ⟨El, usl, Tl⟩ := tell_cells cel ((([(⟨1, 0, 0, none⟩, ⟨iv .u32 startL, tt0, none⟩), (⟨2, 0, 0, none⟩, ⟨iv .u32 roundL, tt1, none⟩)] : List (Ent × Blk)) ++ ([] : List (Ent × Blk)))).length
  have vll : ValL (((([(⟨1, 0, 0, none⟩, ⟨iv .u32 startL, tt0, none⟩), (⟨2, 0, 0, none⟩, ⟨iv .u32 roundL, tt1, none⟩)] : List (Ent × Blk)) ++ (El ++ ([] : List (Ent × Blk))))).map fun x => some x.2) dsl usl := by
    have := Tl.valL cel (A := (([(⟨1, 0, 0, none⟩, ⟨iv .u32 startL, tt0, none⟩), (⟨2, 0, 0, none⟩, ⟨iv .u32 roundL, tt1, none⟩)] : List (Ent × Blk)) ++ ([] : List (Ent × Blk)))) (B := ([] : List (Ent × Blk))) rfl
    simpa only [List.append_assoc, List.nil_append, List.append_nil] using this
  have rol : ∀ x ∈ El, x.1.b < W.heap.size ∧ x.1.es = x.2.es ∧ ∃ cs fr, W.heap[x.1.b]? = some (.cells cs x.2.ty fr) ∧ ∀ (j : Nat) (u : Value), x.2.cells[j]? = some u → ∃ y, cs[x.1.o + j]? = some y ∧ V1 (((([(⟨1, 0, 0, none⟩, ⟨iv .u32 startL, tt0, none⟩), (⟨2, 0, 0, none⟩, ⟨iv .u32 roundL, tt1, none⟩)] : List (Ent × Blk)) ++ (El ++ ([] : List (Ent × Blk))))).map (·.1)) u y := by
    have := Tl.ro (([(⟨1, 0, 0, none⟩, ⟨iv .u32 startL, tt0, none⟩), (⟨2, 0, 0, none⟩, ⟨iv .u32 roundL, tt1, none⟩)] : List (Ent × Blk)) ++ ([] : List (Ent × Blk))) ([] : List (Ent × Blk)) rfl
    simpa only [List.append_assoc, List.nil_append, List.append_nil] using this
  obtain ⟨ul, rfl, rell⟩ : ∃ u, usl = [u] ∧ V (((([(⟨1, 0, 0, none⟩, ⟨iv .u32 startL, tt0, none⟩), (⟨2, 0, 0, none⟩, ⟨iv .u32 roundL, tt1, none⟩)] : List (Ent × Blk)) ++ (El ++ ([] : List (Ent × Blk))))).map (·.1)) u v1 := by
    have := Tl.vOne cel (A := (([(⟨1, 0, 0, none⟩, ⟨iv .u32 startL, tt0, none⟩), (⟨2, 0, 0, none⟩, ⟨iv .u32 roundL, tt1, none⟩)] : List (Ent × Blk)) ++ ([] : List (Ent × Blk)))) (B := ([] : List (Ent × Blk))) rfl
    simpa only [List.append_assoc, List.nil_append, List.append_nil] using this
  have hR := rel_ro (W := W) ((([(⟨1, 0, 0, none⟩, ⟨iv .u32 startL, tt0, none⟩), (⟨2, 0, 0, none⟩, ⟨iv .u32 roundL, tt1, none⟩)] : List (Ent × Blk)) ++ (El ++ ([] : List (Ent × Blk))))) (gam [1, 2]) (fun x hx => by
    simp only [List.mem_append, List.mem_cons, List.not_mem_nil, or_false] at hx
    rcases hx with (rfl | rfl) | hx
    · exact ⟨(Array.getElem?_eq_some_iff.1 hb0).1, rfl, _, _, hb0, fun j v hv => iv_v1 j v hv⟩
    · exact ⟨(Array.getElem?_eq_some_iff.1 hb1).1, rfl, _, _, hb1, fun j v hv => iv_v1 j v hv⟩
    · exact rol x hx
    ) (fun g i hg => by
    simp only [gam, List.findIdx?_cons, List.findIdx?_nil] at hg
    by_cases e0 : 1 = g
    · subst e0
      simp at hg
      subst hg
      exact ⟨_, rfl, rfl, rfl⟩
    by_cases e1 : 2 = g
    · subst e1
      simp at hg
      subst hg
      exact ⟨_, rfl, rfl, rfl⟩
    simp_all)
  rw [← List.length_map (f := fun x : Ent × Blk => some x.2)] at hR
  have walk := calls_of_ac hR (by rfl) (args := #[.int .i64 blocks, ul]) (args' := #[.int .i64 blocks, v1]) (v := .bool true) rfl (fun i x hx => by
    match i, hx with
    | 0, hx => obtain rfl := Option.some.inj hx; exact ⟨_, rfl, .one (.plain rfl)⟩
    | 1, hx => obtain rfl := Option.some.inj hx; exact ⟨_, rfl, rell⟩
    | i + 2, hx => simp at hx) (plays_law ⟨⟨_, rfl⟩, ⟨_, rfl⟩⟩ (by simp) blocks okl vll)
  refine walk.mono fun e W' ⟨he, hg⟩ => ?_
  subst he
  exact ⟨_, rfl, law_post (tb := 4) hW' rfl (by kernel_rfl) reads rfl rfl rfl (by kernel_rfl) Tryz.underlying4 hg⟩

/-- A world for the witness: the tables' blocks hold what their initialisers lay. -/
noncomputable def laidWorld (os : Os) : World :=
  { World.holding Tryz.prog os ⟨#[], #[], []⟩ with heap := (((World.holding Tryz.prog os ⟨#[], #[], []⟩).heap.modify 1 fun
      | .cells _ t frozen => .cells (iv .u32 startL).toArray t frozen
      | o => o).modify 2 fun
      | .cells _ t frozen => .cells (iv .u32 roundL).toArray t frozen
      | o => o) }
theorem laid_met (os : Os) : laidMet Tryz.prog Rows.journalPlaysRow.laid ((laidWorld os).forCall (fun _ _ => 0) ⟨#[], #[.int .i64 0, .slice none 0 0], []⟩).memory :=
  laidMet_of_run' 8 (by kernel_rfl) (by kernel_rfl)
theorem wreads (os : Os) {H : Type} (enc : TypeId × Value → H) : ∃ places, DataW.whole enc Tryz.prog ((laidWorld os).forCall (fun _ _ => 0) ⟨#[], #[.int .i64 0, .slice none 0 0], []⟩).memory Tryz.f3.params.toList Rows.journalPlaysSpec.vars false #[Value.int .i64 0, .slice none 0 0].toList 8 = some ([.lit (.int .i64 0), .nil], [], places) :=
  ⟨[], by kernel_rfl⟩

theorem lifted (os : Os) (started : os.Started) (H : Type) (enc : TypeId × Value → H) (F : Stop.Interp) :
    ReturnsInHanded {} Tryz.checked os 3 .any ((OpenSpec.ofChange Rows.journalPlaysSpec).preRow enc Tryz.prog Tryz.f3 Rows.journalPlaysRow.domain false Rows.journalPlaysRow.laid) (((OpenSpec.ofChange Rows.journalPlaysSpec).at F).post enc Tryz.prog Tryz.f3 false true false false) := by
  obtain ⟨places, hx⟩ := wreads os enc
  refine returnsInHanded_of_row (C := Tryz.checked) (s := OpenSpec.ofChange Rows.journalPlaysSpec) own started (by kernel_rfl) Tryz.func3
    (witness_row_at (enc := enc) (C := Tryz.checked) false (laidWorld os) #[.int .i64 0, .slice none 0 0] rfl (by kernel_rfl) (by kernel_rfl) (by kernel_rfl)
      (OpenSpec.preRow_of_cond 8 hx (by kernel_rfl) (fun k hk => by cases hk) (by kernel_rfl) (laid_met os))) ?_
  intro W base args ds gs before hval hW _ _ _ hL _ _
  exact contract H enc W base args ds gs before hval hW hL
theorem said : Rows.JournalPlaysSaid :=
  OpenClaim.holds_of_cond 3 Tryz.f3 rfl rfl rfl rfl rfl rfl rfl ⟨rfl, rfl, rfl, rfl, rfl⟩ rfl rfl rfl rfl rfl (by kernel_rfl) Tryz.func3 (by kernel_rfl)
    (of_decide_eq_true (by kernel_rfl)) (by unfold Func.isWrapper; first | (rw [if_pos (by decide +kernel)]; kernel_rfl) | (rw [if_neg (by decide +kernel)]; exact ⟨rfl, rfl⟩))
    (fun os started H enc _ F => by rw [OpenClaim.pre_eq_preRow]; exact lifted os started H enc F)
theorem plain (f : FuncId) (fn : Func) (hf : Tryz.pinned.checked.prog.funcNamed "cabal/caballaw13.JournalPlays" = some f) (hfn : Tryz.pinned.checked.prog.funcs[f]? = some fn) :
    false = Tryz.pinned.checked.prog.looks [] ∧ ∀ (j : Nat) t, fn.params[j]? = some t → Tryz.pinned.checked.prog.wantsStandIn t = false := by
  obtain rfl : f = 3 := Option.some.inj ((show Tryz.prog.funcNamed "cabal/caballaw13.JournalPlays" = some 3 by kernel_rfl).symm.trans hf) |>.symm
  obtain rfl : fn = Tryz.f3 := (Option.some.inj (Tryz.func3.symm.trans hfn)).symm
  refine ⟨by kernel_rfl, fun j t ht => ?_⟩
  rw [Tryz.params3] at ht
  have h : t = 3 ∨ t = 22 := by simpa using Array.mem_of_getElem? ht
  rcases h with rfl | rfl
  · exact (show Tryz.prog.wantsStandIn 3 = false by kernel_rfl)
  · exact (show Tryz.prog.wantsStandIn 22 = false by kernel_rfl)
/-- The card. -/
theorem proved : Rows.JournalPlaysCardSaid :=
  Claim7.holds_tied_plain_at .later [] _ _ _ _ said (fun _ h => by cases h) (by kernel_rfl) (fun _ h => by cases h) journalPlays_row_tie rfl ⟨rfl, rfl⟩ (by kernel_rfl) rfl plain (by kernel_rfl)
end Go.Proofs.YtgamobjfeaeddaaGreatDoor.journalPlays
