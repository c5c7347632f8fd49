/-
  BundleMeets: who greets and whom it greets come to the same secret, and one that is used once isn't answered again. The package variables are as the program's text lays them. No other condition.
-/
import Derived.Test.YtcidhpandnjmoaaDoorCards
import Derived.Test.YtcidhpandnjmoaaDoorTie
import Derived.WalkKit
import Derived.ProofKit
import Derived.OpenShut
import Derived.Deep.DeepHandedRow
import Derived.Lib.LaidTab
import Derived.Stop.LaidErr
import Derived.Test.YtcidhpandnjmoaaDoorMqA
import Derived.Test.YtcidhpandnjmoaaDoorMqB
import Derived.Test.YtcidhpandnjmoaaDoorMqE
namespace Go.Proofs.YtcidhpandnjmoaaDoor.bundleMeets
open Go.ChangeShapes Go.WideShapes Go.ChangeAt Go.RowKit
open Go.ChangeMaps (open_string)
set_option linter.unusedVariables false
set_option maxRecDepth 100000

theorem own:ownKnob Tryd.prog.godebug=none:=by kernel_rfl
theorem reads:∀t∈Tryd.f10.params.toList,Tryd.prog.readableRec t=true∧t<Tryd.prog.types.size:=by
  rw [Tryd.params10]
  intro t ht
  have h:t = 5 ∨ t = 5 := by simpa using ht
  rcases h with rfl | rfl
  · exact⟨by kernel_rfl,of_decide_eq_true (by kernel_rfl)⟩
  · exact⟨by kernel_rfl,of_decide_eq_true (by kernel_rfl)⟩
theorem tab0{W:World}(h:laidMetH Tryd.prog Rows.bundleMeetsRow.laid W):Lib.TabIs Tryd.prog W "math/bits.deBruijn32tab" .u8 db32L:=
  Lib.tabIs_of_head (rest:=_) (zs:=db32L) (show Tryd.prog.globalNamed "math/bits.deBruijn32tab" = some 2 by kernel_rfl) (show (Tryd.prog.globals[2]?).map (·.type)=some 25 by kernel_rfl) Tryd.underlying25 Tryd.underlying5 (by kernel_rfl) (by kernel_rfl) h
theorem tab1{W:World}(h:laidMetH Tryd.prog Rows.bundleMeetsRow.laid W):Lib.TabIs Tryd.prog W "math/bits.deBruijn64tab" .u8 db64L:=
  Lib.tabIs_of_head (rest:=_) (zs:=db64L) (show Tryd.prog.globalNamed "math/bits.deBruijn64tab" = some 3 by kernel_rfl) (show (Tryd.prog.globals[3]?).map (·.type)=some 274 by kernel_rfl) Tryd.underlying274 Tryd.underlying5 (by kernel_rfl) (by kernel_rfl) (laidMet.tail h)
theorem tab2{W:World}(h:laidMetH Tryd.prog Rows.bundleMeetsRow.laid W):Lib.TabIs Tryd.prog W "internal/strconv.uint64pow10" .u64 Lib.pow10Tab:=
  Lib.tabIs_of_head (rest:=_) (zs:=Lib.pow10Tab) (show Tryd.prog.globalNamed "internal/strconv.uint64pow10" = some 1 by kernel_rfl) (show (Tryd.prog.globals[1]?).map (·.type)=some 269 by kernel_rfl) Tryd.underlying269 Tryd.underlying65 (by kernel_rfl) (by kernel_rfl) (laidMet.tail (laidMet.tail h))

theorem contract(H:Type)(enc:TypeId×Value→H)(W:World)(base:Nat)(args:Array Value)(ds gs:List (DataW H))(before:List MemPlace)
    (hval0:∀ (j:Nat) t v,Tryd.f10.params[j]?=some t→args[j]?=some v→Value.okWide Tryd.prog W .any base t v)
    (hW:DataW.Whole enc Tryd.prog Tryd.f10.params.toList Rows.bundleMeetsSpec.vars false W args.toList ds gs before) (hL:laidMetH Tryd.prog Rows.bundleMeetsRow.laid W) :
    Calls Tryd.prog 10 args W fun e W'=>∃v,e=.returned v∧Rows.bundleMeetsSpec.post enc Tryd.prog Tryd.f10 false true false false W args v W':=by
  have hval:∀ (j:Nat) t v,Tryd.f10.params[j]?=some t→args[j]?=some v→Value.okWide Tryd.prog W .any base t v:=hval0
  have hW':=hW
  obtain⟨p,q,hA0,hV,rfl,hfz,hnd⟩:=hW
  have hA:DataW.TrodAll enc Tryd.prog W 0 (fun _=>true) true Tryd.f10.params.toList args.toList ds p:=hA0
  rw [Tryd.params10]at hA hval
  obtain⟨v0,vs0,d0,ds0,p0,q0,hargs,rfl,rfl,h0,r0⟩:=trodAll_cons hA
  obtain⟨v1,vs1,d1,ds1,p1,q1,rfl,rfl,rfl,h1,r1⟩:=trodAll_cons r0
  obtain⟨rfl,rfl,rfl⟩:=trodAll_nil r1
  obtain rfl:args=#[v0,v1]:=by cases args;simp_all
  obtain⟨a,rfl,rfl,rfl,wa⟩:=open_int Tryd.underlying5 (hval 0 5 v0 rfl rfl) h0
  obtain⟨c,rfl,rfl,rfl,wc⟩:=open_int Tryd.underlying5 (hval 1 5 v1 rfl rfl) h1
  clear hA0 hval0
  obtain⟨tt0,fr0,hb0⟩:=tab_block (tab0 hL) (show Tryd.prog.globalNamed "math/bits.deBruijn32tab" = some 2 by kernel_rfl)
  obtain⟨tt1,fr1,hb1⟩:=tab_block (tab1 hL) (show Tryd.prog.globalNamed "math/bits.deBruijn64tab" = some 3 by kernel_rfl)
  obtain⟨tt2,fr2,hb2⟩:=tab_block (tab2 hL) (show Tryd.prog.globalNamed "internal/strconv.uint64pow10" = some 1 by kernel_rfl)
  have hR:=rel_ro (W:=W) ([(⟨2,0,0,none⟩,⟨iv .u8 db32L,tt0,none⟩),(⟨3,0,0,none⟩,⟨iv .u8 db64L,tt1,none⟩),(⟨1,0,0,none⟩,⟨iv .u64 Lib.pow10Tab,tt2,none⟩)]++([]++[])) (gam [2, 3, 1]) (fun x hx=>by
    simp only [maP,mcN]at hx
    rcases hx with rfl | rfl | rfl
    · exact⟨(asI.1 hb0).1,rfl,_,_,hb0,fun j v hv=>iv_v1 j v hv⟩
    · exact⟨(asI.1 hb1).1,rfl,_,_,hb1,fun j v hv=>iv_v1 j v hv⟩
    · exact⟨(asI.1 hb2).1,rfl,_,_,hb2,fun j v hv=>iv_v1 j v hv⟩
    ) (fun g i hg=>by
    simp only [gam,List.findIdx?_cons,List.findIdx?_nil]at hg
    by_cases e0 : 2 = g
    · subst e0
      simp at hg
      subst hg
      exact⟨_,rfl,rfl,rfl⟩
    by_cases e1 : 3 = g
    · subst e1
      simp at hg
      subst hg
      exact⟨_,rfl,rfl,rfl⟩
    by_cases e2 : 1 = g
    · subst e2
      simp at hg
      subst hg
      exact⟨_,rfl,rfl,rfl⟩
    simp_all)
    (fun g i x hg hx cs ty fr hbb=>by
    simp only [gam,List.findIdx?_cons,List.findIdx?_nil]at hg
    by_cases e0 : 2 = g
    · subst e0
      simp at hg
      subst hg
      cases hx
      have hs:=hb0.symm.trans hbb
      cases hs
      rfl
    by_cases e1 : 3 = g
    · subst e1
      simp at hg
      subst hg
      cases hx
      have hs:=hb1.symm.trans hbb
      cases hs
      rfl
    by_cases e2 : 1 = g
    · subst e2
      simp at hg
      subst hg
      cases hx
      have hs:=hb2.symm.trans hbb
      cases hs
      rfl
    simp_all)
  rw [←List.length_map (f:=fun x:Ent×Blk=>some x.2)]at hR
  have walk:=calls_of_ac hR (by rfl) (args:=#[.int .u8 a,.int .u8 c]) (args':=#[.int .u8 a,.int .u8 c]) (v:=.bool true) rfl (fun i x hx=>by
    match i,hx with
    | 0,hx=>obtain rfl:=Option.some.inj hx;exact⟨_,rfl,.one (.plain rfl)⟩
    | 1,hx=>obtain rfl:=Option.some.inj hx;exact⟨_,rfl,.one (.plain rfl)⟩
    | i+2,hx=>simp at hx) (meets28_law ⟨2,_,rfl,rfl⟩ a c (u8_of wa) (u8_of wc))
  refine walk.mono fun e W' ⟨he,hg⟩=>?_
  subst he
  exact⟨_,rfl,law_post (tb := 4) hW' rfl (by kernel_rfl) reads rfl rfl rfl (by kernel_rfl) Tryd.underlying4 hg⟩

/-- A world for the witness: the tables' blocks hold what their initialisers lay. -/
noncomputable def laidWorld (os:Os):World:=
  { World.holding Tryd.prog os ⟨#[],#[],[]⟩ with heap:=((((World.holding Tryd.prog os ⟨#[],#[],[]⟩).heap.modify 2 fun
      | .cells _ t frozen=>.cells (iv .u8 db32L).toArray t frozen
      | o=>o).modify 3 fun
      | .cells _ t frozen=>.cells (iv .u8 db64L).toArray t frozen
      | o=>o).modify 1 fun
      | .cells _ t frozen=>.cells (iv .u64 Lib.pow10Tab).toArray t frozen
      | o=>o) }
theorem laid_met(os:Os):laidMet Tryd.prog Rows.bundleMeetsRow.laid ((laidWorld os).forCall (fun _ _=>0) ⟨#[],#[.int .u8 0,.int .u8 0],[]⟩).memory:=
  laidMet_of_run' 8 (by kernel_rfl) (by kernel_rfl)
theorem wreads(os:Os){H:Type}(enc:TypeId×Value→H):∃places,DataW.whole enc Tryd.prog ((laidWorld os).forCall (fun _ _=>0) ⟨#[],#[.int .u8 0,.int .u8 0],[]⟩).memory Tryd.f10.params.toList Rows.bundleMeetsSpec.vars false #[Value.int .u8 0,.int .u8 0].toList 8=some ([.lit (.int .u8 0),.lit (.int .u8 0)],[],places):=
  ⟨[],by kernel_rfl⟩

theorem lifted(os:Os)(started:os.Started)(H:Type)(enc:TypeId×Value→H)(F:Stop.Interp) :
    ReturnsInHanded {} Tryd.checked os 10 .any ((OpenSpec.ofChange Rows.bundleMeetsSpec).preRow enc Tryd.prog Tryd.f10 Rows.bundleMeetsRow.domain false Rows.bundleMeetsRow.laid) (((OpenSpec.ofChange Rows.bundleMeetsSpec).at F).post enc Tryd.prog Tryd.f10 false true false false):=by
  obtain⟨places,hx⟩:=wreads os enc
  refine returnsInHanded_of_row (C:=Tryd.checked) (s:=OpenSpec.ofChange Rows.bundleMeetsSpec) own started (by kernel_rfl) Tryd.func10
    (witness_row_at (enc:=enc) (C:=Tryd.checked) false (laidWorld os) #[.int .u8 0,.int .u8 0] rfl (by kernel_rfl) (by kernel_rfl) (by kernel_rfl)
      (OpenSpec.preRow_of_cond 8 hx (by kernel_rfl) (fun k hk=>by cases hk) (by kernel_rfl) (laid_met os))) ?_
  intro W base args ds gs before hval hW _ _ _ hL _ _
  exact contract H enc W base args ds gs before hval hW hL
theorem said:Rows.BundleMeetsSaid:=
  OpenClaim.holds_of_cond 10 Tryd.f10 rfl rfl rfl rfl rfl rfl rfl ⟨rfl,rfl,rfl,rfl,rfl⟩ rfl rfl rfl rfl rfl (by kernel_rfl) Tryd.func10 (by kernel_rfl)
    (of_decide_eq_true (by kernel_rfl)) (by unfold Func.isWrapper;first | (rw [if_pos (by decide +kernel)];kernel_rfl) | (rw [if_neg (by decide +kernel)];exact⟨rfl,rfl⟩))
    (fun os started H enc _ F=>by rw [OpenClaim.pre_eq_preRow];exact lifted os started H enc F)
theorem plain(f:FuncId)(fn:Func)(hf:Tryd.pinned.checked.prog.funcNamed "cabal/caballaw28.BundleMeets" = some f)(hfn:Tryd.pinned.checked.prog.funcs[f]?=some fn) :
    false=Tryd.pinned.checked.prog.looks []∧∀ (j:Nat) t,fn.params[j]?=some t→Tryd.pinned.checked.prog.wantsStandIn t=false:=by
  obtain rfl:f = 10 := Option.some.inj ((show Tryd.prog.funcNamed "cabal/caballaw28.BundleMeets" = some 10 by kernel_rfl).symm.trans hf) |>.symm
  obtain rfl:fn=Tryd.f10 := (Option.some.inj (Tryd.func10.symm.trans hfn)).symm
  refine⟨by kernel_rfl,fun j t ht=>?_⟩
  rw [Tryd.params10]at ht
  have h:t = 5 ∨ t = 5 := by simpa using Array.mem_of_getElem? ht
  rcases h with rfl | rfl
  · exact (show Tryd.prog.wantsStandIn 5 = false by kernel_rfl)
  · exact (show Tryd.prog.wantsStandIn 5 = false by kernel_rfl)
/-- The card. -/
theorem proved:Rows.BundleMeetsCardSaid:=
  Claim7.holds_tied_plain_at .later [] _ _ _ _ said (fun _ h=>by cases h) (by kernel_rfl) (fun _ h=>by cases h) bundleMeets_row_tie rfl ⟨rfl,rfl⟩ (by kernel_rfl) rfl plain (by kernel_rfl)
end Go.Proofs.YtcidhpandnjmoaaDoor.bundleMeets
