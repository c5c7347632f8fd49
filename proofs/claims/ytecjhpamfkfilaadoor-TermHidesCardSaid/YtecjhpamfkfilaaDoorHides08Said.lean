/-
  TermHides: of a hash alone nothing follows of what it is made, and of a box without its key none of what is sealed in. The package variables are as the program's text lays them. No other condition.
-/
import Derived.Test.YtecjhpamfkfilaaDoorCards
import Derived.Test.YtecjhpamfkfilaaDoorTie
import Derived.WalkKit
import Derived.ProofKit
import Derived.OpenShut
import Derived.Deep.DeepHandedRow
import Derived.Lib.LaidTab
import Derived.Stop.LaidErr
import Derived.Test.YtecjhpamfkfilaaDoorH8B
import Derived.Test.YtecjhpamfkfilaaDoorH8F
namespace Go.Proofs.YtecjhpamfkfilaaDoor.termHides
open Go.ChangeShapes Go.WideShapes Go.ChangeAt Go.RowKit
open Go.ChangeMaps (open_string)
set_option linter.unusedVariables false
set_option maxRecDepth 100000

theorem own : ownKnob Tryd.prog.godebug = none := by kernel_rfl
theorem reads : ∀ t ∈ Tryd.f5.params.toList, Tryd.prog.readableRec t = true ∧ t < Tryd.prog.types.size := by
  rw [Tryd.params5]
  intro t ht
  have h : t = 9 ∨ t = 9 ∨ t = 9 := by simpa using ht
  rcases h with rfl | rfl | rfl
  · exact ⟨by kernel_rfl, of_decide_eq_true (by kernel_rfl)⟩
  · exact ⟨by kernel_rfl, of_decide_eq_true (by kernel_rfl)⟩
  · exact ⟨by kernel_rfl, of_decide_eq_true (by kernel_rfl)⟩
theorem tab0 {W : World} (h : laidMetH Tryd.prog Rows.termHidesRow.laid W) : Lib.TabIs Tryd.prog W "math/bits.deBruijn32tab" .u8 db32L :=
  Lib.tabIs_of_head (rest := _) (zs := db32L) (show Tryd.prog.globalNamed "math/bits.deBruijn32tab" = some 2 by kernel_rfl) (show (Tryd.prog.globals[2]?).map (·.type) = some 27 by kernel_rfl) Tryd.underlying27 Tryd.underlying5 (by kernel_rfl) (by kernel_rfl) h
theorem tab1 {W : World} (h : laidMetH Tryd.prog Rows.termHidesRow.laid W) : Lib.TabIs Tryd.prog W "math/bits.deBruijn64tab" .u8 db64L :=
  Lib.tabIs_of_head (rest := _) (zs := db64L) (show Tryd.prog.globalNamed "math/bits.deBruijn64tab" = some 3 by kernel_rfl) (show (Tryd.prog.globals[3]?).map (·.type) = some 128 by kernel_rfl) Tryd.underlying128 Tryd.underlying5 (by kernel_rfl) (by kernel_rfl) (laidMet.tail h)
theorem tab2 {W : World} (h : laidMetH Tryd.prog Rows.termHidesRow.laid W) : Lib.TabIs Tryd.prog W "internal/strconv.uint64pow10" .u64 Lib.pow10Tab :=
  Lib.tabIs_of_head (rest := _) (zs := Lib.pow10Tab) (show Tryd.prog.globalNamed "internal/strconv.uint64pow10" = some 1 by kernel_rfl) (show (Tryd.prog.globals[1]?).map (·.type) = some 123 by kernel_rfl) Tryd.underlying123 Tryd.underlying116 (by kernel_rfl) (by kernel_rfl) (laidMet.tail (laidMet.tail h))

theorem contract (H : Type) (enc : TypeId × Value → H) (W : World) (base : Nat) (args : Array Value) (ds gs : List (DataW H)) (before : List MemPlace)
    (hval0 : ∀ (j : Nat) t v, Tryd.f5.params[j]? = some t → args[j]? = some v → Value.okWide Tryd.prog W .any base t v)
    (hW : DataW.Whole enc Tryd.prog Tryd.f5.params.toList Rows.termHidesSpec.vars false W args.toList ds gs before) (hL : laidMetH Tryd.prog Rows.termHidesRow.laid W) :
    Calls Tryd.prog 5 args W fun e W' => ∃ v, e = .returned v ∧ Rows.termHidesSpec.post enc Tryd.prog Tryd.f5 false true false false W args v W' := by
  have hval : ∀ (j : Nat) t v, Tryd.f5.params[j]? = some t → args[j]? = some v → Value.okWide Tryd.prog W .any base t v := hval0
  have hW' := hW
  obtain ⟨p, q, hA0, hV, rfl, hfz, hnd⟩ := hW
  have hA : DataW.TrodAll enc Tryd.prog W 0 (fun _ => true) true Tryd.f5.params.toList args.toList ds p := hA0
  rw [Tryd.params5] at hA hval
  obtain ⟨v0, vs0, d0, ds0, p0, q0, hargs, rfl, rfl, h0, r0⟩ := trodAll_cons hA
  obtain ⟨v1, vs1, d1, ds1, p1, q1, rfl, rfl, rfl, h1, r1⟩ := trodAll_cons r0
  obtain ⟨v2, vs2, d2, ds2, p2, q2, rfl, rfl, rfl, h2, r2⟩ := trodAll_cons r1
  obtain ⟨rfl, rfl, rfl⟩ := trodAll_nil r2
  obtain rfl : args = #[v0, v1, v2] := by cases args; simp_all
  obtain ⟨a, rfl, rfl, rfl, wa⟩ := open_string Tryd.underlying9 (hval 0 9 v0 rfl rfl) h0
  obtain ⟨b, rfl, rfl, rfl, wb⟩ := open_string Tryd.underlying9 (hval 1 9 v1 rfl rfl) h1
  obtain ⟨x, rfl, rfl, rfl, wx⟩ := open_string Tryd.underlying9 (hval 2 9 v2 rfl rfl) h2
  clear hA0 hval0
  obtain ⟨tt0, fr0, hb0⟩ := tab_block (tab0 hL) (show Tryd.prog.globalNamed "math/bits.deBruijn32tab" = some 2 by kernel_rfl)
  obtain ⟨tt1, fr1, hb1⟩ := tab_block (tab1 hL) (show Tryd.prog.globalNamed "math/bits.deBruijn64tab" = some 3 by kernel_rfl)
  obtain ⟨tt2, fr2, hb2⟩ := tab_block (tab2 hL) (show Tryd.prog.globalNamed "internal/strconv.uint64pow10" = some 1 by kernel_rfl)
  have hR := rel_ro (W := W) ([(⟨2, 0, 0, none⟩, ⟨iv .u8 db32L, tt0, none⟩), (⟨3, 0, 0, none⟩, ⟨iv .u8 db64L, tt1, none⟩), (⟨1, 0, 0, none⟩, ⟨iv .u64 Lib.pow10Tab, tt2, none⟩)] ++ ([] ++ [])) (gam [2, 3, 1]) (fun x hx => by
    simp only [List.mem_append, List.mem_cons, List.not_mem_nil, or_false] at hx
    rcases hx with rfl | rfl | rfl
    · exact ⟨(Array.getElem?_eq_some_iff.1 hb0).1, rfl, _, _, hb0, fun j v hv => iv_v1 j v hv⟩
    · exact ⟨(Array.getElem?_eq_some_iff.1 hb1).1, rfl, _, _, hb1, fun j v hv => iv_v1 j v hv⟩
    · exact ⟨(Array.getElem?_eq_some_iff.1 hb2).1, rfl, _, _, hb2, fun j v hv => iv_v1 j v hv⟩
    ) (fun g i hg => by
    simp only [gam, List.findIdx?_cons, List.findIdx?_nil] at hg
    by_cases e0 : 2 = g
    · subst e0
      simp at hg
      subst hg
      exact ⟨_, rfl, rfl, rfl⟩
    by_cases e1 : 3 = g
    · subst e1
      simp at hg
      subst hg
      exact ⟨_, rfl, rfl, rfl⟩
    by_cases e2 : 1 = g
    · subst e2
      simp at hg
      subst hg
      exact ⟨_, rfl, rfl, rfl⟩
    simp_all)
    (fun g i x hg hx cs ty fr hbb => by
    simp only [gam, List.findIdx?_cons, List.findIdx?_nil] at hg
    by_cases e0 : 2 = g
    · subst e0
      simp at hg
      subst hg
      cases hx
      have hs := hb0.symm.trans hbb
      cases hs
      rfl
    by_cases e1 : 3 = g
    · subst e1
      simp at hg
      subst hg
      cases hx
      have hs := hb1.symm.trans hbb
      cases hs
      rfl
    by_cases e2 : 1 = g
    · subst e2
      simp at hg
      subst hg
      cases hx
      have hs := hb2.symm.trans hbb
      cases hs
      rfl
    simp_all)
  rw [← List.length_map (f := fun x : Ent × Blk => some x.2)] at hR
  have walk := calls_of_ac hR (by rfl) (args := #[.string a, .string b, .string x]) (args' := #[.string a, .string b, .string x]) (v := .bool true) rfl (fun i x hx => by
    match i, hx with
    | 0, hx => obtain rfl := Option.some.inj hx; exact ⟨_, rfl, .one (.plain rfl)⟩
    | 1, hx => obtain rfl := Option.some.inj hx; exact ⟨_, rfl, .one (.plain rfl)⟩
    | 2, hx => obtain rfl := Option.some.inj hx; exact ⟨_, rfl, .one (.plain rfl)⟩
    | i + 3, hx => simp at hx) (hides_law ⟨2, _, rfl, rfl⟩ a b x wa wb wx)
  refine walk.mono fun e W' ⟨he, hg⟩ => ?_
  subst he
  exact ⟨_, rfl, law_post (tb := 4) hW' rfl (by kernel_rfl) reads rfl rfl rfl (by kernel_rfl) Tryd.underlying4 hg⟩

/-- A world for the witness: the tables' blocks hold what their initialisers lay. -/
noncomputable def laidWorld (os : Os) : World :=
  { World.holding Tryd.prog os ⟨#[], #[], []⟩ with heap := ((((World.holding Tryd.prog os ⟨#[], #[], []⟩).heap.modify 2 fun
      | .cells _ t frozen => .cells (iv .u8 db32L).toArray t frozen
      | o => o).modify 3 fun
      | .cells _ t frozen => .cells (iv .u8 db64L).toArray t frozen
      | o => o).modify 1 fun
      | .cells _ t frozen => .cells (iv .u64 Lib.pow10Tab).toArray t frozen
      | o => o) }
theorem laid_met (os : Os) : laidMet Tryd.prog Rows.termHidesRow.laid ((laidWorld os).forCall (fun _ _ => 0) ⟨#[], #[.string ⟨#[]⟩, .string ⟨#[]⟩, .string ⟨#[]⟩], []⟩).memory :=
  laidMet_of_run' 8 (by kernel_rfl) (by kernel_rfl)
theorem wreads (os : Os) {H : Type} (enc : TypeId × Value → H) : ∃ places, DataW.whole enc Tryd.prog ((laidWorld os).forCall (fun _ _ => 0) ⟨#[], #[.string ⟨#[]⟩, .string ⟨#[]⟩, .string ⟨#[]⟩], []⟩).memory Tryd.f5.params.toList Rows.termHidesSpec.vars false #[Value.string ⟨#[]⟩, .string ⟨#[]⟩, .string ⟨#[]⟩].toList 8 = some ([.lit (.string []), .lit (.string []), .lit (.string [])], [], places) :=
  ⟨[], by kernel_rfl⟩

theorem lifted (os : Os) (started : os.Started) (H : Type) (enc : TypeId × Value → H) (F : Stop.Interp) :
    ReturnsInHanded {} Tryd.checked os 5 .any ((OpenSpec.ofChange Rows.termHidesSpec).preRow enc Tryd.prog Tryd.f5 Rows.termHidesRow.domain false Rows.termHidesRow.laid) (((OpenSpec.ofChange Rows.termHidesSpec).at F).post enc Tryd.prog Tryd.f5 false true false false) := by
  obtain ⟨places, hx⟩ := wreads os enc
  refine returnsInHanded_of_row (C := Tryd.checked) (s := OpenSpec.ofChange Rows.termHidesSpec) own started (by kernel_rfl) Tryd.func5
    (witness_row_at (enc := enc) (C := Tryd.checked) false (laidWorld os) #[.string ⟨#[]⟩, .string ⟨#[]⟩, .string ⟨#[]⟩] rfl (by kernel_rfl) (by kernel_rfl) (by kernel_rfl)
      (OpenSpec.preRow_of_cond 8 hx (by kernel_rfl) (fun k hk => by cases hk) (by kernel_rfl) (laid_met os))) ?_
  intro W base args ds gs before hval hW _ _ _ hL _ _
  exact contract H enc W base args ds gs before hval hW hL
theorem said : Rows.TermHidesSaid :=
  OpenClaim.holds_of_cond 5 Tryd.f5 rfl rfl rfl rfl rfl rfl rfl ⟨rfl, rfl, rfl, rfl, rfl⟩ rfl rfl rfl rfl rfl (by kernel_rfl) Tryd.func5 (by kernel_rfl)
    (of_decide_eq_true (by kernel_rfl)) (by unfold Func.isWrapper; first | (rw [if_pos (by decide +kernel)]; kernel_rfl) | (rw [if_neg (by decide +kernel)]; exact ⟨rfl, rfl⟩))
    (fun os started H enc _ F => by rw [OpenClaim.pre_eq_preRow]; exact lifted os started H enc F)
theorem plain (f : FuncId) (fn : Func) (hf : Tryd.pinned.checked.prog.funcNamed "cabal/caballaw08.TermHides" = some f) (hfn : Tryd.pinned.checked.prog.funcs[f]? = some fn) :
    false = Tryd.pinned.checked.prog.looks [] ∧ ∀ (j : Nat) t, fn.params[j]? = some t → Tryd.pinned.checked.prog.wantsStandIn t = false := by
  obtain rfl : f = 5 := Option.some.inj ((show Tryd.prog.funcNamed "cabal/caballaw08.TermHides" = some 5 by kernel_rfl).symm.trans hf) |>.symm
  obtain rfl : fn = Tryd.f5 := (Option.some.inj (Tryd.func5.symm.trans hfn)).symm
  refine ⟨by kernel_rfl, fun j t ht => ?_⟩
  rw [Tryd.params5] at ht
  have h : t = 9 ∨ t = 9 ∨ t = 9 := by simpa using Array.mem_of_getElem? ht
  rcases h with rfl | rfl | rfl
  · exact (show Tryd.prog.wantsStandIn 9 = false by kernel_rfl)
  · exact (show Tryd.prog.wantsStandIn 9 = false by kernel_rfl)
  · exact (show Tryd.prog.wantsStandIn 9 = false by kernel_rfl)
/-- The card. -/
theorem proved : Rows.TermHidesCardSaid :=
  Claim7.holds_tied_plain_at .later [] _ _ _ _ said (fun _ h => by cases h) (by kernel_rfl) (fun _ h => by cases h) termHides_row_tie rfl ⟨rfl, rfl⟩ (by kernel_rfl) rfl plain (by kernel_rfl)
end Go.Proofs.YtecjhpamfkfilaaDoor.termHides
