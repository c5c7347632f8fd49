/-
  The reference's table as an object; its find.
-/
import Derived.Test.YtlaglpnbmkoakaaDoorFvD
namespace Go.Proofs.YtlaglpnbmkoakaaDoor
open Go Go.RowKit
set_option linter.unusedSimpArgs false
set_option linter.unusedVariables false
set_option maxRecDepth 100000
set_option maxHeartbeats 8000000
section
attribute [local simp] wb_bool wb_undef with_lit XL_nil XL_cons XLc_val XLc_call step1_eq stepW_t stepW_f stepC_n stepC_s stepX_s stepX_n stepN_s calleeX xrecv oneV xop_eq xopR_s xopR_n wantedA_eq wantedG_n wantedG_s plain1_int plain1_bool plain1_string bits_i64 bits_u64 bits_u32 bits_u16 bits_u8 xeqA xagg xcmp xarr allK_iv num_iv calleeOf xread xeff xbin xint xnil xun xstr xload xconv xpart xfield xfieldAddr xindexAddr xindex bnd asInt? xslice xlen xmin xmax xbuild xfill xappend xapp2 xappstr xappmk xcap xcopy xcells eval_tmp eval_const put_at put_none fr0_at cells_agg cells_int cells_bool cells_string cells_ptr cells_slice notTuple tab iv_all hget_app hget_app0 hget_cons0 hget_cons set_app set_app0 setR setR_one QL_nil QL_cons QLc_val stepQ_t stepQ_f stepQC_n stepQC_s stepQX_s SL_nil SL_cons SLc_val stepS_t stepS_f ltT ltF leT leF eqT eqF ltTn ltFn leTn leFn eqTn eqFn beqT beqF bneT bneF wi64 wu64 wu32 wu16 wu8 tmodP tdivP hgetL hgetNe hgetEq setL nums_def nums_len Nat.succ_le_of_lt List.getElem?_cons_zero List.getElem?_cons_succ Option.getD_some Int.toNat_add Int.toNat_mul agM okM agB agI agS agP agL agA okB okI okS okP okSl okA nt_strG nt_boolG nt_aggG nt_intG nt_ptrG nt_slG XO_s XO_z XLk_val XLk_call headsO behind List.length_cons List.length_nil List.mem_cons List.not_mem_nil or_false forall_eq_or_imp forall_eq List.contains_cons List.contains_nil thenQ_ret scopeQ_ret inBlockQ_ret RQ resL resV PL_nil plainB_lit PL_cons PLc_val PLc_new stepP_t stepP_f stepPC_n stepPC_s stepPX_s stepPX_n stepPV_n stepPV_s stepPA_t stepPA_c stepPA_l stepPN_s allocOp reloc_sl reloc_ptr
section
structure RTblF (H:AH) (b:Nat) (tv sv:Value) (Ft Fs F:List Nat) (L:List (Value×TermD)):Prop where
 hb:hget H b=some ⟨[tv,sv], 33,none⟩
 rows:OwnF H tv 92 3 (tmRows L) Ft
 sums:OwnF H sv 46 1 (iv .u32 (L.map fun p=>sumR p.2)) Fs
 keys:∀p∈L,∀G:AH,(∀j∈F,hget G j=hget H j)→KsV G p.1 p.2.keys
 wf:∀p∈L,p.2.Wf
 lt:∀j∈F,j<H.length
 bt:b∉Ft
 bs:b∉Fs
 bf:b∉F
 ts:∀j∈Ft,j∉Fs
 tf:∀j∈Ft,j∉F
 sf:∀j∈Fs,j∉F
def RTbl(H:AH)(b:Nat)(F:List Nat)(T:List TermD):Prop:=∃tv sv Ft Fs Fk L,T=L.map (·.2)∧RTblF H b tv sv Ft Fs Fk L∧F=b::(Ft++Fs++Fk)
theorem RTblF.low{H G:AH}{b:Nat}{tv sv:Value}{Ft Fs F:List Nat}{L:List (Value×TermD)}(h:RTblF H b tv sv Ft Fs F L)(hl:∀j∈b::(Ft++Fs++F),hget G j=hget H j)(hG:H.length≤G.length):RTblF G b tv sv Ft Fs F L:=
 ⟨(hl b (by simp)).trans h.hb,h.rows.low (fun j hj=>hl j (by simp [hj])),h.sums.low (fun j hj=>hl j (by simp [hj])),fun p hp D hD=>h.keys p hp D (fun j hj=>(hD j hj).trans (hl j (by simp [hj]))),h.wf,fun j hj=>by have:=h.lt j hj;omega,h.bt,h.bs,h.bf,h.ts,h.tf,h.sf⟩
theorem RTblF.bound{H:AH}{b:Nat}{tv sv:Value}{Ft Fs F:List Nat}{L:List (Value×TermD)}(h:RTblF H b tv sv Ft Fs F L):∀j∈b::(Ft++Fs++F),j<H.length:=fun j hj=>by
 simp only [List.mem_cons,maP]at hj
 rcases hj with rfl | (hj | hj) | hj
 ·exact hget_lt h.hb
 ·exact h.rows.lt j hj
 ·exact h.sums.lt j hj
 ·exact h.lt j hj
theorem RTblF.at_{H:AH}{b:Nat}{tv sv:Value}{Ft Fs F:List Nat}{L:List (Value×TermD)}(h:RTblF H b tv sv Ft Fs F L){i:Nat}{p:Value×TermD}(hi:L[i]?=some p) :
  ∃q,xindexAddr Tryd.prog 30 tv (.int .i64 (i:Nat))=some q∧notTuple q=true∧xload Tryd.prog 92 q H=some (.agg (tmRow p.1 p.2).toArray):=by
 have hl:=(gsI.1 hi).1
 have hr:=tmRows_len L
 rcases h.rows with ⟨_,h2,_⟩ | ⟨j,len,rfl,h2,h3,_⟩
 ·rw [h2]at hr
  simp at hr
  omega
 ·have:len=L.length:=by omega
  subst this
  exact⟨_,tm_addr hl,rfl,tm_load hi h2⟩
theorem RTblF.sat{H:AH}{b:Nat}{tv sv:Value}{Ft Fs F:List Nat}{L:List (Value×TermD)}(h:RTblF H b tv sv Ft Fs F L){i:Nat}{p:Value×TermD}(hi:L[i]?=some p) :
  ∃q,xindexAddr Tryd.prog 31 sv (.int .i64 (i:Nat))=some q∧notTuple q=true∧xload Tryd.prog 46 q H=some (.int .u32 (sumR p.2)):=by
 have hl:=(gsI.1 hi).1
 rcases h.sums with ⟨_,h2,_⟩ | ⟨j,len,rfl,h2,h3,_⟩
 ·have:=congrArg List.length h2
  simp at this
  rw [this]at hl
  simp at hl
 ·have h3':L.length=len*1:=by simpa using h3
  have h1:und Tryd.prog 31 = .slice 46 := by kernel_rfl
  have h4:szt Tryd.prog 46 = 1:=by kernel_rfl
  have e1:isAggD (und Tryd.prog 46)=false:=by kernel_rfl
  have e2:okD (und Tryd.prog 46)=true:=by kernel_rfl
  refine⟨.pointer (some ⟨j,i,none⟩),?_,rfl,?_⟩
  ·unfold xindexAddr
   simp only [h1,h4]
   rw [if_pos ⟨by omega,by omega,by omega⟩]
   simp
  ·unfold xload
   simp only [h2,e1,e2]
   simp [iv,hi]
theorem RTblF.slen{H:AH}{b:Nat}{tv sv:Value}{Ft Fs F:List Nat}{L:List (Value×TermD)}(h:RTblF H b tv sv Ft Fs F L):xlen Tryd.prog 31 sv=some (.int .i64 (L.length:Nat))∧xlen Tryd.prog 30 tv=some (.int .i64 (L.length:Nat)):=
 ⟨h.sums.len (by kernel_rfl) (n:=L.length) (by simp) (by omega),h.rows.len (by kernel_rfl) (tmRows_len L) (by omega)⟩
def posI(x:TermD)(T:List TermD):Int:=match placeT x T with | some i=>(i:Nat) | none=>-1
theorem place_at{x:TermD}{T:List TermD}(hx:x.Wf)(hT:∀y∈T,y.Wf){i:Nat}(hi:T[i]?=some x)(hp:∀k,k<i→∀y,T[k]?=some y→y≠x):placeT x T=some i:=by
 cases h:placeT x T with
 | none=>
  refine absurd ?_ (idxS_none h)
  exact List.mem_map.2 ⟨x,moG hi,rfl⟩
 | some j=>
  have hj:=place_some hx hT h
  rcases Nat.lt_trichotomy j i with hlt | rfl | hgt
  ·exact absurd rfl (hp j hlt x hj)
  ·rfl
  ·exfalso
   have:∀ (L:List ByteArray) (s:ByteArray) (i j:Nat),idxS s L=some j→L[i]?=some s→j≤i:=by
    intro L
    induction L with
    | nil=>intro s i j h;cases h
    | cons y L ih=>
     intro s i j h hi
     unfold idxS at h
     by_cases e:s=y
     ·rw [if_pos e]at h;cases h;omega
     ·rw [if_neg e]at h
      cases hr:idxS s L with
      | none=>rw [hr]at h;cases h
      | some j'=>
       rw [hr]at h
       cases h
       cases i with
       | zero=>exact absurd (Option.some.inj hi).symm e
       | succ i=>have:=ih s i j' hr hi;show j'+1≤i+1;omega
   have:=this _ _ i j h (by rw [gmP,hi];rfl)
   omega
theorem place_no{x:TermD}{T:List TermD}(hx:x.Wf)(hT:∀y∈T,y.Wf)(hp:∀ (k:Nat) (y:TermD),T[k]?=some y→y≠x):placeT x T=none:=by
 cases h:placeT x T with
 | none=>rfl
 | some j=>exact absurd rfl (hp j x (place_some hx hT h))
theorem rfind_ac{nro:Nat}{γ:Nat→Option Nat}{H:AH}{b:Nat}{tv sv:Value}{Ft Fs F:List Nat}{L:List (Value×TermD)}(h:RTblF H b tv sv Ft Fs F L)(hnH:nro≤H.length){kv:Value}{x:TermD}(hx:x.Wf)(hv:KsV H kv x.keys)(hL:L.length≤1000000) :
  AC Tryd.prog nro γ 47 #[.pointer (some ⟨b,0,none⟩),.agg (tmRow kv x).toArray] H (fun v' H'=>v'=.int .i64 (posI x (L.map (·.2)))∧Low H.length H H'):=by
 obtain⟨hsl,htl⟩:=h.slen
 obtain⟨hnt,hvc⟩:=val_nt hv
 have hs1:=ownF_nt h.sums
 have hs2:=ownF_nt h.rows
 have hxt:=hx.text
 have hxm:x.keys.length≤maxLen:=by have:=hx.many;simp only [maxLen];omega
 have hsum:=fun (G:AH) (hG:KsV G kv x.keys)=>sum_rc (γ:=γ) (H:=G) hG hx.k32 (by omega) hxm
 have hbd:=h.bound
 have hTw:∀y∈L.map (·.2),y.Wf:=fun y hy=>by
  obtain⟨p,hp,rfl⟩:=List.mem_map.1 hy
  exact h.wf p hp
 have hrow:tmRow kv x=[.int .i64 (x.kind:Nat),.string x.text,kv]:=rfl
 rw [hrow]at hsum ⊢
 obtain⟨sx,hsx⟩:∃sx,sx=sumR x:=⟨_,rfl⟩
 rw [←hsx]at hsum
 refine ac_of_aw Tryd.func47 rfl Tryd.ntmps47 Tryd.results47 (by simp) ?_
 (refine aso fun K hK=>?_;simp (disch:=first|omega|simp only [lnS];try omega) [-notTuple,hnt,hvc];refine hK _ _ ?_;clear hK K)
 obtain⟨B,hB⟩:∃B:AH,B=H++[some ⟨[.int .i64 (x.kind:Nat),.string x.text,kv], 92,none⟩]:=⟨_,rfl⟩
 have hgx:hget B H.length=some ⟨[.int .i64 (x.kind:Nat),.string x.text,kv], 92,none⟩:=by rw [hB,hget_app0];rfl
 have hlx:=hget_lt hgx
 have lwB:Low H.length H B:=by rw [hB];exact Low.push (nlE _) _
 rw [←hB]
 clear hB
 have hvB:KsV B kv x.keys:=CD.Val.low (fun j hj=>lwB.1 j hj) hv
 refine aso fun K hK=>?_
 simp (disch:=first|omega|simp only [lnS];try omega) [hgx,hlx,-notTuple,hnt,hvc]
 refine⟨by kernel_rfl,ac_of_rc (hsum _ hvB) (by simp [pv_iv,pv_int,pv_bool,pv_string,pv_tup2,pv_tup3,iv_plain,p2_int,p2_bool,p2_string]) ?_⟩
 try simp (disch:=first|omega|simp only [lnS];try omega)
 refine hK _ _ ?_;clear hK K
 refine aw_seq (aw_seq ?_)
 (refine aoo fun K hK=>?_;simp (disch:=first|omega|simp only [lnS];try omega);refine hK _ _ ?_;clear hK K)
 refine aw_block ?_
 refine aw_loop (fun q α G=>∃i:Nat,i+q=L.length∧Low B.length B G∧α 0=.pointer (some ⟨b,0,none⟩)∧α 3=.pointer (some ⟨H.length,0,none⟩)∧α 5=.int .u32 sx∧α 6=.int .i64 (i:Nat)∧∀ (k:Nat),k<i→∀y,(L.map (·.2))[k]?=some y→y≠x) L.length ?_ ?_
 ·exact⟨0,by omega,Low.refl (nlE _),by (first|simp;done|rfl),by (first|simp;done|rfl),by (first|simp;done|rfl),by (first|simp;done|rfl),fun k hk=>by omega⟩
 rintro q α G ⟨i,hiq,lwG,h0,h3,h5,h6,hpre⟩
 have lwH:Low H.length H G:=⟨fun j hj=>(lwG.1 j (by have:=lwB.2;omega)).trans (lwB.1 j hj),by have:=lwB.2;have:=lwG.2;omega⟩
 have hT:=h.low (G:=G) (fun j hj=>lwH.1 j (hbd j hj)) lwH.2
 have hgb:=hT.hb
 have hlb:=hget_lt hgb
 have gx:=(lwG.1 _ hlx).trans hgx
 have lx:=hget_lt gx
 refine aw_seq (aw_seq ?_)
 by_cases hi:i<L.length
 ·have hi':(i:Int)<L.length:=by omega
  obtain⟨⟨kv2,y⟩,hy⟩:∃p,L[i]?=some p:=⟨_,geE hi⟩
  have hyT:(L.map (·.2))[i]?=some y:=by rw [gmP,hy];rfl
  have hym:=moG hy
  obtain⟨a1,a2,a3,a4⟩:=hT.at_ hy
  obtain⟨b1,b2,b3,b4⟩:=hT.sat hy
  have hv2:=hT.keys _ hym
  have hwy:=hT.wf _ hym
  have hvy:KsV G kv2 y.keys:=hv2 G (fun _ _=>rfl)
  have hvx:KsV G kv x.keys:=CD.Val.low (fun j hj=>lwG.1 j hj) hvB
  obtain⟨hnt2,hvc2⟩:=val_nt hvy
  have ldt:xload Tryd.prog 30 (.pointer (some ⟨b,0,none⟩)) G=some tv:=by simp [xload,hgb]
  have lds:xload Tryd.prog 31 (.pointer (some ⟨b,1,none⟩)) G=some sv:=by simp [xload,hgb]
  simp only at b4 a4
  (refine aoo fun K hK=>?_;simp (disch:=first|omega|simp only [lnS];try omega) [h0,h6,-xload,lds,-notTuple,hs1.1,hs1.2,-xlen,hsl,hi'];refine hK _ _ ?_;clear hK K)
  refine awt (by simp [hi']<;>omega) ?_
  refine aw_skip (aw_seq ?_)
  refine aw_block ?_
  refine aw_seq (aw_seq ?_)
  have hnext:y≠x→∀ (k:Nat),k<i+1→∀y',(L.map (·.2))[k]?=some y'→y'≠x:=fun hyx k hk y' hy'=>by
   rcases Nat.lt_succ_iff_lt_or_eq.1 hk with hk | rfl
   ·exact hpre k hk y' hy'
   ·rw [hyT]at hy'
    cases hy'
    exact hyx
  obtain⟨sy,hsy⟩:∃sy,sy=sumR y:=⟨_,rfl⟩
  rw [←hsy]at b4
  by_cases hse:sy=sx
  case neg=>
   have hyx:y≠x:=fun e=>hse (by rw [hsy,hsx,e])
   (refine aoo fun K hK=>?_;simp (disch:=first|omega|simp only [lnS];try omega) [h0,h5,h6,-xload,lds,b4,-xindexAddr,b2,b3,-notTuple,hs1.1,hs1.2,hse];refine hK _ _ ?_;clear hK K)
   refine awt (by simp [hse]<;>omega) ?_
   refine aw_exit ?_
   (refine aoo fun K hK=>?_;simp (disch:=first|omega|simp only [lnS];try omega) [h6];refine hK _ _ ?_;clear hK K)
   exact⟨q-1,by omega,i+1,by omega,lwG,by (first|simp [h0];done|rfl),by (first|simp [h3];done|rfl),by (first|simp [h5];done|rfl),by (first|simp;done|rfl),hnext hyx⟩
  (refine aoo fun K hK=>?_;simp (disch:=first|omega|simp only [lnS];try omega) [h0,h5,h6,-xload,lds,b4,-xindexAddr,b2,b3,-notTuple,hs1.1,hs1.2,hse];refine hK _ _ ?_;clear hK K)
  refine awf (by simp [hse]<;>omega) ?_
  refine aw_skip (aw_seq ?_)
  have hrow2:tmRow kv2 y=[.int .i64 (y.kind:Nat),.string y.text,kv2]:=rfl
  rw [hrow2]at a4
  have hGl:H.length<G.length:=hget_lt gx
  have p1:plain1 (.slice none 0 0)=true:=rfl
  have r3:List.range 3=[0,1,2]:=rfl
  have hnG:nro≤G.length:=by omega
  (refine aoo fun K hK=>?_;simp (disch:=first|omega|simp only [lnS];try omega) [h0,h6,-xload,ldt,a4,-xindexAddr,a2,a3,-notTuple,hs2.1,hs2.2,hnt2,hvc2,hnG,p1,r3];refine hK _ _ ?_;clear hK K)
  obtain⟨G2,hG2⟩:∃G2:AH,G2=G++[some ⟨[.int .i64 (y.kind:Nat),.string y.text,kv2], 92,none⟩]:=⟨_,rfl⟩
  have lw2:Low G.length G G2:=by rw [hG2];exact Low.push (nlE _) _
  have gy2:hget G2 G.length=some ⟨[.int .i64 (y.kind:Nat),.string y.text,kv2], 92,none⟩:=by rw [hG2,hget_app0];rfl
  have gx2:=(lw2.1 _ lx).trans gx
  have ly2:=hget_lt gy2
  have lx2:=hget_lt gx2
  rw [←hG2]
  clear hG2
  have hvy:KsV G2 kv2 y.keys:=CD.Val.low (fun j hj=>lw2.1 j hj) hvy
  have hvx:KsV G2 kv x.keys:=CD.Val.low (fun j hj=>lw2.1 j hj) hvx
  have hsk:=sameKeys_rc (γ:=γ) hvx hvy hx.k32 hwy.k32 hxm
  have lwB2:Low B.length B G2:=⟨fun j hj=>(lw2.1 j (by have:=lwG.2;omega)).trans (lwG.1 j hj),by have:=lwG.2;have:=lw2.2;omega⟩
  have lwH2:Low H.length H G2:=⟨fun j hj=>(lwB2.1 j (by have:=lwB.2;omega)).trans (lwB.1 j hj),by have:=lwB.2;have:=lwB2.2;omega⟩
  have hkb:(((y.kind:Nat):Int)==((x.kind:Nat):Int))=decide (y.kind=x.kind):=by rw [Bool.eq_iff_iff];simp;omega
  have htb:(y.text.toList==x.text.toList)=decide (y.text=x.text):=tl_beq _ _
  refine aw_seq ?_
  refine aw_cut (fun α' G'=>α' 0=.pointer (some ⟨b,0,none⟩)∧α' 3=.pointer (some ⟨H.length,0,none⟩)∧α' 5=.int .u32 sx∧α' 6=.int .i64 (i:Nat)∧α' 53=.bool (sameT y x)∧G'=G2) ?_ ?_
  ·by_cases k1:y.kind=x.kind
   ·rw [decide_eq_true k1]at hkb
    have k1i:(y.kind:Int)=x.kind:=by omega
    by_cases k2:y.text=x.text
    ·rw [decide_eq_true k2]at htb
     have hs3:sameT y x=decide (x.keys=y.keys):=by
      unfold sameT
      rw [decide_eq_true k1,decide_eq_true k2,Bool.true_and,Bool.true_and]
      exact decide_eq_decide.2 eq_comm
     rw [hs3]
     refine aoo fun K hK=>?_
     simp (disch:=first|omega|simp only [lnS];try omega) [h3,gx2,lx2,gy2,ly2,-notTuple,hnt,hvc,hnt2,hvc2,hkb,k1i,htb,k2]
     refine⟨by kernel_rfl,ac_of_rc hsk (by simp [pv_iv,pv_int,pv_bool,pv_string,pv_tup2,pv_tup3,iv_plain,p2_int,p2_bool,p2_string]) ?_⟩
     try simp (disch:=first|omega|simp only [lnS];try omega)
     refine hK _ _ ?_;clear hK K
     exact⟨by (first|simp [h0];done|rfl),by (first|simp [h3];done|rfl),by (first|simp [h5];done|rfl),by (first|simp [h6];done|rfl),by (first|simp;done|rfl),rfl⟩
    ·rw [decide_eq_false k2]at htb
     have hs3:sameT y x=false:=by
      unfold sameT
      rw [decide_eq_false k2,Bool.false_and,Bool.and_false]
     rw [hs3]
     refine aoo fun K hK=>?_
     simp (disch:=first|omega|simp only [lnS];try omega) [h3,gx2,lx2,gy2,ly2,-notTuple,hnt,hvc,hnt2,hvc2,hkb,k1i,htb,k2]
     refine hK _ _ ?_;clear hK K
     exact⟨by (first|simp [h0];done|rfl),by (first|simp [h3];done|rfl),by (first|simp [h5];done|rfl),by (first|simp [h6];done|rfl),by (first|simp;done|rfl),rfl⟩
   ·rw [decide_eq_false k1]at hkb
    have k1i:¬ (y.kind:Int)=x.kind:=by omega
    have hs3:sameT y x=false:=by
     unfold sameT
     rw [decide_eq_false k1,Bool.false_and]
    rw [hs3]
    refine aoo fun K hK=>?_
    simp (disch:=first|omega|simp only [lnS];try omega) [h3,gx2,lx2,gy2,ly2,-notTuple,hnt,hvc,hnt2,hvc2,hkb,k1i]
    refine hK _ _ ?_;clear hK K
    exact⟨by (first|simp [h0];done|rfl),by (first|simp [h3];done|rfl),by (first|simp [h5];done|rfl),by (first|simp [h6];done|rfl),by (first|simp;done|rfl),rfl⟩
  rintro α' G' ⟨h0,h3,h5,h6,h53,rfl⟩
  by_cases hyx:y=x
  ·have hsT:sameT y x=true:=sameT_iff.2 hyx
   rw [hsT]at h53
   refine awt (by simp [h53]<;>omega) ?_
   (refine aso fun K hK=>?_;simp (disch:=first|omega|simp only [lnS];try omega) [h6];refine hK _ _ ?_;clear hK K)
   have hat:placeT x (L.map (·.2))=some i:=place_at hx hTw (by rw [hyT,hyx]) (fun k hk y' hy'=>hpre k hk y' hy')
   unfold posI
   rw [hat]
   (refine aw_ret ?_;simp (disch:=first|omega|simp only [lnS];try omega))
   exact lwH2
  ·have hsT:sameT y x=false:=by
    cases hh:sameT y x with
    | false=>rfl
    | true=>exact absurd (sameT_iff.1 hh) hyx
   rw [hsT]at h53
   refine awf (by simp [h53]<;>omega) ?_
   refine aw_skip ?_
   (refine aoo fun K hK=>?_;simp (disch:=first|omega|simp only [lnS];try omega) [h6];refine hK _ _ ?_;clear hK K)
   exact⟨q-1,by omega,i+1,by omega,lwB2,by (first|simp [h0];done|rfl),by (first|simp [h3];done|rfl),by (first|simp [h5];done|rfl),by (first|simp;done|rfl),hnext hyx⟩
 ·obtain rfl:i=L.length:=by omega
  have lds:xload Tryd.prog 31 (.pointer (some ⟨b,1,none⟩)) G=some sv:=by simp [xload,hgb]
  (refine aoo fun K hK=>?_;simp (disch:=first|omega|simp only [lnS];try omega) [h0,h6,-xload,lds,-notTuple,hs1.1,hs1.2,-xlen,hsl];refine hK _ _ ?_;clear hK K)
  refine awf (by simp<;>omega) ?_
  refine aw_exit (aw_seq ?_)
  (refine aoo fun K hK=>?_;simp (disch:=first|omega|simp only [lnS];try omega);refine hK _ _ ?_;clear hK K)
  have hno:placeT x (L.map (·.2))=none:=place_no hx hTw (fun k y hk=>hpre k (by have:=(gsI.1 hk).1;simpa using this) y hk)
  unfold posI
  rw [hno]
  (refine aw_ret ?_;simp (disch:=first|omega|simp only [lnS];try omega))
  exact lwH
end
section
theorem radd_ac{nro:Nat}{γ:Nat→Option Nat}{H:AH}{b:Nat}{tv sv:Value}{Ft Fs F:List Nat}{L:List (Value×TermD)}(h:RTblF H b tv sv Ft Fs F L)(hnH:nro≤H.length)(hnro:∀j∈b::(Ft++Fs),nro≤j){kv:Value}{x:TermD}(hx:x.Wf){Fx:List Nat}(hkv:∀G:AH,(∀j∈Fx,hget G j=hget H j)→KsV G kv x.keys)(hFx:∀j∈Fx,j<H.length∧j≠b∧j∉Ft∧j∉Fs)(hL:L.length≤1000000) :
  AC Tryd.prog nro γ 48 #[.pointer (some ⟨b,0,none⟩),.agg (tmRow kv x).toArray] H (fun v' H'=>v'=.tuple #[]∧H.length≤H'.length∧(∀j,j<H.length→j≠b→j∉Ft→j∉Fs→hget H' j=hget H j)∧∃tv' sv' Ft' Fs',RTblF H' b tv' sv' Ft' Fs' (F++Fx) (L++[(kv,x)])∧∀j∈Ft'++Fs',H.length≤j):=by
 obtain⟨hsl,htl⟩:=h.slen
 have hv:KsV H kv x.keys:=hkv H (fun _ _=>rfl)
 obtain⟨hnt,hvc⟩:=val_nt hv
 have hs1:=ownF_nt h.sums
 have hs2:=ownF_nt h.rows
 have hxt:=hx.text
 have hxm:x.keys.length≤maxLen:=by have:=hx.many;simp only [maxLen];omega
 have hsum:=fun (G:AH) (hG:KsV G kv x.keys)=>sum_rc (γ:=γ) (H:=G) hG hx.k32 (by omega) hxm
 have hrow:tmRow kv x=[.int .i64 (x.kind:Nat),.string x.text,kv]:=rfl
 have hgb:=h.hb
 have hlb:=hget_lt hgb
 have hFtl:=h.rows.lt
 have hFsl:=h.sums.lt
 rw [hrow]at hsum ⊢
 refine ac_of_aw Tryd.func48 rfl Tryd.ntmps48 Tryd.results48 (by simp) ?_
 (refine aso fun K hK=>?_;simp (disch:=first|omega|simp only [lnS];try omega) [-notTuple,hnt,hvc];refine hK _ _ ?_;clear hK K)
 obtain⟨B,hB⟩:∃B:AH,B=H++[some ⟨[.int .i64 (x.kind:Nat),.string x.text,kv], 92,none⟩]:=⟨_,rfl⟩
 have hgx:hget B H.length=some ⟨[.int .i64 (x.kind:Nat),.string x.text,kv], 92,none⟩:=by rw [hB,hget_app0];rfl
 have hlx:=hget_lt hgx
 have hBl:B.length=H.length+1:=by rw [hB];simp
 have lwB:∀j,j<H.length→hget B j=hget H j:=fun j hj=>by rw [hB];exact hget_left hj
 rw [←hB]
 clear hB
 have hgB:=(lwB b hlb).trans hgb
 have hlB:=hget_lt hgB
 obtain⟨R,hR⟩:∃R:Option Blk,R=some ⟨[.int .i64 (x.kind:Nat),.string x.text,kv], 92,some 3⟩:=⟨_,rfl⟩
 have hxc:xcells 3 (.slice (some ⟨B.length,0,none⟩) 1 1) (B++[R])=some (tmRow kv x):=by
  unfold xcells
  simp only [hget_app0]
  rw [hR]
  rfl
 obtain⟨tv',G3,hap,ho2,hl3,hk3⟩:=ownF_append (P:=Tryd.prog) (nro:=nro) (t := 30) (e := 92) (H:=B++[R]) (v:=tv) (x:=.slice (some ⟨B.length,0,none⟩) 1 1) (sz:=3) (cells:=tmRows L) (news:=tmRow kv x) (F:=Ft) (by kernel_rfl) (by kernel_rfl) (by omega) (by kernel_rfl)
  (h.rows.low (fun j hj=>(hget_left (by have:=hFtl j hj;omega)).trans (lwB j (hFtl j hj)))) (fun j hj=>hnro j (by simp [hj])) (fun s e=>by cases e) hxc (by simp [tmRow]) (by simp [tmRow]) (by rw [tmRows_len];show (L.length*3+3)*byt Tryd.prog 92 ≤ _;rw [show byt Tryd.prog 92 = 48 by kernel_rfl];omega) (by rw [tmRows_len];show L.length*3+3≤_;simp [maxLen];omega)
 have hl2:(B++[R]).length=B.length+1:=by simp
 rw [hl2]at ho2 hl3 hk3
 obtain⟨n1,n2⟩:=ownF_nt ho2
 have k3:∀j,j<B.length→j∉Ft→hget G3 j=hget B j:=fun j hj hn=>(hk3 j (by omega) hn).trans (hget_left hj)
 have g3b:=(k3 b hlB h.bt).trans hgB
 have l3b:=hget_lt g3b
 have hnb:nro≤b:=hnro b (by simp)
 have hBt:∀G:AH,hget G b=some ⟨[tv,sv], 33,none⟩→xload Tryd.prog 30 (.pointer (some ⟨b,0,none⟩)) G=some tv:=fun G hG=>by simp [xload,hG]
 have r1:List.range 3=[0,1,2]:=rfl
 have p1:plain1 (.slice none 0 0)=true:=rfl
 subst hR
 obtain⟨A,hA⟩:∃A:AH,A=G3.set b (some ⟨[tv',sv], 33,none⟩):=⟨_,rfl⟩
 refine aw_seq ?_
 refine aw_cut (fun α G'=>α 0=.pointer (some ⟨b,0,none⟩)∧α 3=.pointer (some ⟨H.length,0,none⟩)∧G'=A) ?_ ?_
 ·rw [hA]
  (refine aw_ptree [0,1,2,3] 7 [[4,5,6,7,8,9,10],[5,4,6,7,8,9,10],[5,6,4,7,8,9,10]] (by kernel_rfl) (by kernel_rfl) (by kernel_rfl) (fun K hK=>?_));simp only [sel,gcS];simp (disch:=first|omega|simp only [lnS];try omega) [hgB,hlB,hgx,hlx,-notTuple,hnt,hvc,hs2.1,hs2.2,p1,r1,-xappend,hap,g3b,l3b,hnb,n1,n2]
  refine⟨?_,?_,?_⟩
  all_goals
   refine hK _ _ ?_;clear hK K
   exact⟨by (first|simp;done|rfl),by (first|simp;done|rfl),rfl⟩
 rintro α G' ⟨h0,h3,rfl⟩
 obtain⟨A,hAG⟩:∃A,A=G':=⟨_,rfl⟩
 rw [←hAG]at hA ⊢
 clear hAG
 have hgA:hget A b=some ⟨[tv',sv], 33,none⟩:=by rw [hA,hget_set_eq l3b]
 have hAl:A.length=H.length+3:=by rw [hA,List.length_set];omega
 have hAj:∀j,j<B.length→j≠b→j∉Ft→hget A j=hget B j:=fun j hj h1 h2=>by rw [hA,hget_set_ne (Ne.symm h1)];exact k3 j hj h2
 have hAH:∀j,j<H.length→j≠b→j∉Ft→hget A j=hget H j:=fun j hj h1 h2=>(hAj j (by omega) h1 h2).trans (lwB j hj)
 have hgxA:=(hAj H.length hlx (by omega) (fun e=>by have:=hFtl _ e;omega)).trans hgx
 have ho2A:OwnF A tv' 92 3 (tmRows L++tmRow kv x) [B.length+1]:=ho2.low (fun j hj=>by rw [hA,hget_set_ne (by have:=msG.1 hj;omega)])
 clear hA hap k3 hk3 g3b l3b hgB hlB hgx hlx ho2 hxc lwB hAj hl3 hl2
 have hlA:=hget_lt hgA
 have hlxA:=hget_lt hgxA
 have hvA:KsV A kv x.keys:=hkv A (fun j hj=>hAH j (hFx j hj).1 (hFx j hj).2.1 (hFx j hj).2.2.1)
 have hsA:OwnF A sv 46 1 (iv .u32 (L.map fun p=>sumR p.2)) Fs:=h.sums.low (fun j hj=>hAH j (hFsl j hj) (fun e=>h.bs (e▸hj)) (fun e=>h.ts j e hj))
 obtain⟨sx,hsx⟩:∃sx,sx=sumR x:=⟨_,rfl⟩
 rw [←hsx]at hsum
 have hxc:xcells 1 (.slice (some ⟨A.length,0,none⟩) 1 1) (A++[some ⟨[.int .u32 sx], 46,some 1⟩])=some [.int .u32 sx]:=by
  unfold xcells
  simp only [hget_app0]
  rfl
 obtain⟨sv',G4,hap,ho4,hl4,hk4⟩:=ownF_append (P:=Tryd.prog) (nro:=nro) (t := 31) (e := 46) (H:=A++[some ⟨[.int .u32 sx], 46,some 1⟩]) (v:=sv) (x:=.slice (some ⟨A.length,0,none⟩) 1 1) (sz:=1) (cells:=iv .u32 (L.map fun p=>sumR p.2)) (news:=[.int .u32 sx]) (F:=Fs) (by kernel_rfl) (by kernel_rfl) (by omega) (by kernel_rfl)
  (hsA.low (fun j hj=>hget_left (by have:=hFsl j hj;omega))) (fun j hj=>hnro j (by simp [hj])) (fun s e=>by cases e) hxc (by simp) (by simp) (by rw [iv_length,List.length_map];show (L.length+1)*byt Tryd.prog 46 ≤ _;rw [show byt Tryd.prog 46 = 4 by kernel_rfl];omega) (by rw [iv_length,List.length_map];show L.length+1≤_;simp [maxLen];omega)
 have hl5:(A++[(some ⟨[.int .u32 sx], 46,some 1⟩:Option Blk)]).length=A.length+1:=by simp
 rw [hl5]at ho4 hl4 hk4
 obtain⟨n3,n4⟩:=ownF_nt ho4
 have k4:∀j,j<A.length→j∉Fs→hget G4 j=hget A j:=fun j hj hn=>(hk4 j (by omega) hn).trans (hget_left hj)
 have g4b:=(k4 b hlA h.bs).trans hgA
 have l4b:=hget_lt g4b
 have r1:List.range 1=[0]:=rfl
 have fin:H.length≤(G4.set b (some ⟨[tv',sv'], 33,none⟩)).length∧(∀j,j<H.length→j≠b→j∉Ft→j∉Fs→hget (G4.set b (some ⟨[tv',sv'], 33,none⟩)) j=hget H j)∧∃tv2 sv2 Ft2 Fs2,RTblF (G4.set b (some ⟨[tv',sv'], 33,none⟩)) b tv2 sv2 Ft2 Fs2 (F++Fx) (L++[(kv,x)])∧∀j∈Ft2++Fs2,H.length≤j:=by
  obtain⟨M,hM⟩:∃M:AH,M=G4.set b (some ⟨[tv',sv'], 33,none⟩):=⟨_,rfl⟩
  rw [←hM]
  have hMb:hget M b=some ⟨[tv',sv'], 33,none⟩:=by rw [hM,hget_set_eq l4b]
  have hMl:M.length=H.length+5:=by rw [hM,List.length_set];omega
  have hMj:∀j,j≠b→hget M j=hget G4 j:=fun j hj=>by rw [hM,hget_set_ne (Ne.symm hj)]
  have hMH:∀j,j<H.length→j≠b→j∉Ft→j∉Fs→hget M j=hget H j:=fun j hj h1 h2 h3=>(hMj j h1).trans ((k4 j (by omega) h3).trans (hAH j hj h1 h2))
  refine⟨by omega,hMH,tv',sv',[B.length+1],[A.length+1],⟨hMb,?_,?_,?_,?_,?_,?_,?_,?_,?_,?_,?_⟩,?_⟩
  ·rw [tmRows_snoc]
   exact ho2A.low (fun j hj=>by
    have:=msG.1 hj
    exact (hMj j (by omega)).trans (k4 j (by omega) (fun e=>by have:=hFsl j e;omega)))
  ·rw [List.map_append,show iv .u32 ((L.map fun p=>sumR p.2)++[(kv,x)].map fun p=>sumR p.2)=iv .u32 (L.map fun p=>sumR p.2)++[.int .u32 sx] by simp [iv,hsx]]
   exact ho4.low (fun j hj=>hMj j (by have:=msG.1 hj;omega))
  ·intro p hp D hD
   rcases maP.1 hp with hp | hp
   ·exact h.keys p hp D (fun j hj=>(hD j (by simp [hj])).trans (hMH j (h.lt j hj) (fun e=>h.bf (e▸hj)) (fun e=>h.tf j e hj) (fun e=>h.sf j e hj)))
   ·rw [msG.1 hp]
    exact hkv D (fun j hj=>(hD j (by simp [hj])).trans (hMH j (hFx j hj).1 (hFx j hj).2.1 (hFx j hj).2.2.1 (hFx j hj).2.2.2))
  ·intro p hp
   rcases maP.1 hp with hp | hp
   ·exact h.wf p hp
   ·rw [msG.1 hp];exact hx
  ·intro j hj
   rcases maP.1 hj with hj | hj
   ·have:=h.lt j hj;omega
   ·have:=(hFx j hj).1;omega
  ·rw [msG];omega
  ·rw [msG];omega
  ·intro e
   rcases maP.1 e with e | e
   ·exact h.bf e
   ·exact (hFx b e).2.1 rfl
  ·intro j hj e
   have:=msG.1 hj
   have:=msG.1 e
   omega
  ·intro j hj e
   have h1:=msG.1 hj
   rcases maP.1 e with e | e
   ·have:=h.lt j e;omega
   ·have:=(hFx j e).1;omega
  ·intro j hj e
   have h1:=msG.1 hj
   rcases maP.1 e with e | e
   ·have:=h.lt j e;omega
   ·have:=(hFx j e).1;omega
  ·intro j hj
   simp only [maP,msG]at hj
   omega
 (refine aw_ptree [0,1,2,3] 8 [[4,5,6,7,8,9,10,11],[5,4,6,7,8,9,10,11],[5,6,4,7,8,9,10,11],[5,6,7,4,8,9,10,11]] (by kernel_rfl) (by kernel_rfl) (by kernel_rfl) (fun K hK=>?_));simp only [sel,gcS];simp (disch:=first|omega|simp only [lnS];try omega) [h0,h3,hgA,hlA,hgxA,hlxA,-notTuple,hnt,hvc,hs1.1,hs1.2,n1,n2,p1,r1,-xappend,hap,g4b,l4b,hnb,n3,n4]
 refine⟨⟨by kernel_rfl,ac_of_rc (hsum _ hvA) (by simp [pv_iv,pv_int,pv_bool,pv_string,pv_tup2,pv_tup3,iv_plain,p2_int,p2_bool,p2_string]) ?_⟩,⟨by kernel_rfl,ac_of_rc (hsum _ hvA) (by simp [pv_iv,pv_int,pv_bool,pv_string,pv_tup2,pv_tup3,iv_plain,p2_int,p2_bool,p2_string]) ?_⟩,by kernel_rfl,ac_of_rc (hsum _ hvA) (by simp [pv_iv,pv_int,pv_bool,pv_string,pv_tup2,pv_tup3,iv_plain,p2_int,p2_bool,p2_string]) ?_⟩
 all_goals try simp (disch:=first|omega|simp only [lnS];try omega) [h0,h3,hgA,hlA,hgxA,hlxA,-notTuple,hnt,hvc,hs1.1,hs1.2,n1,n2,p1,r1,-xappend,hap,g4b,l4b,hnb,n3,n4]
 ·refine hK _ _ ?_;clear hK K
  exact⟨[],_,rfl,rfl,rfl,fin⟩
 ·refine hK _ _ ?_;clear hK K
  exact⟨[],_,rfl,rfl,rfl,fin⟩
 ·refine⟨?_,?_⟩
  all_goals
   refine hK _ _ ?_;clear hK K
   exact⟨[],_,rfl,rfl,rfl,fin⟩
end
section
theorem ownF_appQ{P:Program}{nro:Nat}{t e:TypeId}{H:AH}{v x:Value}{sz:Nat}{cells news:List Value}{F:List Nat}(hu:und P t=.slice e)(hs:szt P e=sz)(h0:0<sz)(hz:(zer P e).map (·.cells.size)=some sz)
  (hv:OwnF H v e sz cells F) (hnro:∀j∈F,nro≤j) (hstr:∀s,x≠.string s) (hx:xcells sz x H=some news) (hd:news.length%sz=0) (hb:(cells.length+news.length)*byt P e≤140737488355328) (hm:cells.length+news.length≤maxLen) :
  ∃v' H' F',xappend P nro t v x H=some (v',H')∧OwnF H' v' e sz (cells++news) F'∧H.length≤H'.length∧(∀j,j<H.length→j∉F→hget H' j=hget H j)∧∀j∈F',H.length≤j:=by
 by_cases hn:news=[]
 ·subst hn
  rcases hv with ⟨rfl,rfl,rfl⟩ | ⟨j,len,rfl,h3,h4,rfl⟩
  ·refine⟨.slice none 0 0,H,[],?_,.inl ⟨rfl,rfl,rfl⟩,nlE _,fun _ _ _=>rfl,fun j hj=>(by cases hj)⟩
   subst hs
   unfold xappend
   cases x <;> first | (exact absurd rfl (hstr _)) | (simp only [hu,hx];rw [if_pos ⟨h0,hz,by simp,by simp⟩];first | rw [if_pos rfl] | rw [if_pos trivial])
  ·subst hs
   have hj:=hget_lt h3
   refine⟨.slice (some ⟨H.length,0,none⟩) len len,H.set j none++[some ⟨cells,e,some (szt P e)⟩],[H.length],?_,.inr ⟨H.length,len,rfl,?_,by simpa using h4,rfl⟩,by simp,fun i hi hni=>?_,fun j hj=>by simp at hj;omega⟩
   ·have hc:True∧0<szt P e∧(zer P e).map (·.cells.size)=some (szt P e)∧nro≤j∧True∧True∧len*szt P e≤cells.length∧(len*szt P e+0)*byt P e≤140737488355328∧len*szt P e+0≤maxLen:=
     ⟨trivial,h0,hz,hnro j (by simp),trivial,trivial,by omega,by rw [←h4];exact hb,by rw [←h4];exact hm⟩
    have e2:cells.take (len*szt P e)=cells:=tkL (by omega)
    unfold xappend
    cases x <;> first | (exact absurd rfl (hstr _)) | (simp only [hu,hx,h3,List.length_nil];rw [if_pos hc,e2];simp)
   ·have:(H.set j none).length=H.length:=by simp
    rw [←this,hget_app0,hget_cons0,List.append_nil]
   ·rw [hget_left (by simp;omega),hget_set_ne (fun e=>hni (by simp [e]))]
 ·obtain⟨v',H',h1,h2,h3,h4⟩:=ownF_append (P:=P) (nro:=nro) (t:=t) hu hs h0 hz hv hnro hstr hx hn hd hb hm
  exact⟨v',H',_,h1,h2,by omega,h4,fun j hj=>by simp at hj;omega⟩
def RMkQ(H:AH)(b:Nat)(Ft Fs F:List Nat)(L:List (Value×TermD))(x:TermD)(v':Value)(H':AH):Prop:=
 v'=.agg (iv .u8 (nmL (nameT x (L.map (·.2)):Nat))).toArray∧H.length≤H'.length∧(∀j,j<H.length→j≠b→j∉Ft→j∉Fs→hget H' j=hget H j)∧∃tv' sv' Ft' Fs' F' L',RTblF H' b tv' sv' Ft' Fs' F' L'∧L'.map (·.2)=addT x (L.map (·.2))∧∀j∈Ft'++Fs'++F',j∈Ft++Fs++F∨H.length≤j
theorem rmake_ac{nro:Nat}{γ:Nat→Option Nat}{H:AH}{b:Nat}{tv sv:Value}{Ft Fs F:List Nat}{L:List (Value×TermD)}(h:RTblF H b tv sv Ft Fs F L)(hnH:nro≤H.length)(hnro:∀j∈b::(Ft++Fs),nro≤j){x:TermD}(hx:x.Wf){v:Value}(hv:KsV H v x.keys)(hL:L.length≤900000) :
  AC Tryd.prog nro γ 25 #[.pointer (some ⟨b,0,none⟩),.int .i64 (x.kind:Nat),.string x.text,v] H (RMkQ H b Ft Fs F L x):=by
 obtain⟨hnt,hvc⟩:=val_nt hv
 have hFb:=h.bound
 have hlb:=hget_lt h.hb
 have hstr:∀s,v≠.string s:=fun s e=>by
  have hv':CD.Val H (.sl (x.keys.map kd)) v:=hv
  generalize x.keys.map kd=rows at hv'
  rw [e]at hv'
  cases hv'
 obtain⟨G0,hG0⟩:∃G0:AH,G0=H++[some ⟨iv .u8 (zl 32), 41,none⟩,some ⟨[], 41,some 32⟩]:=⟨_,rfl⟩
 have g00:hget G0 H.length=some ⟨iv .u8 (zl 32), 41,none⟩:=by rw [hG0,hget_app0];rfl
 have g01:hget G0 (H.length+1)=some ⟨[], 41,some 32⟩:=by rw [hG0,hget_app];rfl
 have hG0l:G0.length=H.length+2:=by rw [hG0];simp
 have hG0j:∀j,j<H.length→hget G0 j=hget H j:=fun j hj=>by rw [hG0];exact hget_left hj
 have hxc:xcells 32 v G0=some (ksC x.keys):=val_cells (by omega) (CD.Val.low (fun j hj=>hG0j j hj) hv) (kd_len hx.k32) (kd_flat _)
 have hkl:=ksC_len hx.k32
 have hmany:=hx.many
 obtain⟨v1,G1,F1,hap,ho1,hl1,hk1,hF1⟩:=ownF_appQ (P:=Tryd.prog) (nro:=nro) (t := 34) (e := 41) (H:=G0) (v:=.slice (some ⟨H.length+1,0,none⟩) 0 0) (x:=v) (sz:=32) (cells:=[]) (news:=ksC x.keys) (F:=[H.length+1]) (by kernel_rfl) (by kernel_rfl) (by omega) (by kernel_rfl)
  (.inr ⟨H.length+1,0,rfl,g01,rfl,rfl⟩) (fun j hj=>by have:=msG.1 hj;omega) hstr hxc (by rw [hkl];omega) (by rw [hkl];show (0+x.keys.length*32)*byt Tryd.prog 41 ≤ _;rw [show byt Tryd.prog 41 = 32 by kernel_rfl];omega) (by rw [hkl];show 0+_≤_;simp only [maxLen];omega)
 obtain⟨n1,n2⟩:=ownF_nt ho1
 have g10:=(hk1 H.length (by omega) (by simp)).trans g00
 have hG1j:∀j,j<H.length→hget G1 j=hget H j:=fun j hj=>(hk1 j (by omega) (by simp;omega)).trans (hG0j j hj)
 have p1:plain1 (.slice none 0 0)=true:=rfl
 have r3:List.range 3=[0,1,2]:=rfl
 have hn1:nro≤G1.length:=by omega
 subst hG0
 refine ac_of_aw Tryd.func25 rfl Tryd.ntmps25 Tryd.results25 (by simp) ?_
 (refine aso fun K hK=>?_;simp (disch:=first|omega|simp only [lnS];try omega);refine hK _ _ ?_;clear hK K)
 (refine aso fun K hK=>?_;simp (disch:=first|omega|simp only [lnS];try omega) [-notTuple,hnt,hvc,n1,n2,hn1,p1,r3,-xappend,hap,List.range_zero,List.map_nil];refine hK _ _ ?_;clear hK K)
 obtain⟨G2,hG2⟩:∃G2:AH,G2=G1++[some ⟨[.int .i64 (x.kind:Nat),.string x.text,v1], 92,none⟩]:=⟨_,rfl⟩
 have gx2:hget G2 G1.length=some ⟨[.int .i64 (x.kind:Nat),.string x.text,v1], 92,none⟩:=by rw [hG2,hget_app0];rfl
 have k2:∀j,j<G1.length→hget G2 j=hget G1 j:=fun j hj=>by rw [hG2];exact hget_left hj
 have hG2l:G2.length=G1.length+1:=by rw [hG2];simp
 rw [←hG2]
 clear hG2
 have hF1l:=ho1.lt
 have ho2:OwnF G2 v1 41 32 (kr x.keys) F1:=by
  rw [←ksC_kr]
  exact ho1.low (fun j hj=>k2 j (hF1l j hj))
 have hT2:RTblF G2 b tv sv Ft Fs F L:=h.low (fun j hj=>(k2 j (by have:=hFb j hj;omega)).trans (hG1j j (hFb j hj))) (by omega)
 have g20:=(k2 H.length (by omega)).trans g10
 have lx2:=hget_lt gx2
 have hrow:tmRow v1 x=[.int .i64 (x.kind:Nat),.string x.text,v1]:=rfl
 have hfd:=rfind_ac (nro:=nro) (γ:=γ) hT2 (by omega) hx (kr_ksv ho2 hx.k32) (by omega)
 rw [hrow]at hfd
 refine aso fun K hK=>?_
 simp (disch:=first|omega|simp only [lnS];try omega) [gx2,lx2,-notTuple,n1,n2]
 refine⟨by kernel_rfl,AC.mono hfd ?_⟩
 rintro _ G3 ⟨rfl,lw3⟩
 try simp (disch:=first|omega|simp only [lnS];try omega)
 refine hK _ _ ?_;clear hK K
 have hl3:=lw3.2
 have gx3:=(lw3.1 _ lx2).trans gx2
 have g30:=(lw3.1 _ (hget_lt g20)).trans g20
 have hT3:RTblF G3 b tv sv Ft Fs F L:=hT2.low (fun j hj=>lw3.1 j (by have:=hFb j hj;omega)) (by omega)
 have hH3:∀j,j<H.length→hget G3 j=hget H j:=fun j hj=>(lw3.1 j (by omega)).trans ((k2 j (by omega)).trans (hG1j j hj))
 have ho3:OwnF G3 v1 41 32 (kr x.keys) F1:=ho2.low (fun j hj=>lw3.1 j (by have:=hF1l j hj;omega))
 clear hfd lw3 hT2 ho2 g20 gx2 lx2 k2 hap hk1 ho1 g10 g01 hxc hkl
 have lx3:=hget_lt gx3
 have l30:=hget_lt g30
 refine aw_seq (aw_seq ?_)
 unfold posI
 have hnm:=fun (G:AH) (hle:nameT x (L.map (·.2))≤L.length)=>rname_rc (γ:=γ) (H:=G) (n:=(nameT x (L.map (·.2)):Nat)) ⟨by omega,by omega⟩
 have hnn:nro≤H.length:=hnH
 cases hf:placeT x (L.map (·.2)) with
 | some i=>
  have hnm1:nameT x (L.map (·.2))=i:=by unfold nameT;rw [hf]
  have had:addT x (L.map (·.2))=L.map (·.2):=by unfold addT;rw [hf]
  have hil:i≤L.length:=by
   have:=(gsI.1 (idxS_some hf)).1
   simp at this
   omega
  rw [hnm1]at hnm
  have h0:¬ ((i:Nat):Int)<0:=by omega
  (refine aoo fun K hK=>?_;simp (disch:=first|omega|simp only [lnS];try omega) [h0];refine hK _ _ ?_;clear hK K)
  refine awf (by simp [h0]<;>omega) ?_
  refine aw_skip (aw_seq ?_)
  refine aoo fun K hK=>?_
  simp (disch:=first|omega|simp only [lnS];try omega)
  refine⟨by kernel_rfl,ac_of_rc (hnm _ hil) (by simp [pv_iv]) ?_⟩
  have lN:(nmL (i:Nat)).length=32:=rfl
  obtain⟨N,hN⟩:∃N:List Int,N=nmL (i:Nat):=⟨_,rfl⟩
  rw [←hN]at lN ⊢
  have htN:(iv .u8 N).take 32=iv .u8 N:=tkL (by simp [lN])
  have hsN:setR (iv .u8 (zl 32)) 0 (iv .u8 N)=iv .u8 N:=setR_all _ _ (by simp [lN])
  have fin:RMkQ H b Ft Fs F L x (.agg (iv .u8 N).toArray) (G3.set H.length (some ⟨iv .u8 N, 41,none⟩)):=by
   refine⟨by rw [hnm1,←hN],by simp;omega,fun j hj _ _ _=>(hget_set_ne (by omega)).trans (hH3 j hj),tv,sv,Ft,Fs,F,L,hT3.low (fun j hj=>hget_set_ne (by have:=hFb j hj;omega)) (by simp),had.symm,fun j hj=>.inl hj⟩
  try simp (disch:=first|omega|simp only [lnS];try omega) [lN,htN,hsN,g30,l30,hnn]
  refine hK _ _ ?_;clear hK K
  (refine aw_ret ?_;simp (disch:=first|omega|simp only [lnS];try omega) [lN,htN,l30])
  exact fin
 | none=>
  have hnm1:nameT x (L.map (·.2))=L.length:=by unfold nameT;rw [hf,List.length_map]
  have had:addT x (L.map (·.2))=(L++[(v1,x)]).map (·.2):=by unfold addT;rw [hf];simp
  rw [hnm1]at hnm
  have hF3:∀j∈F1,j<G3.length∧j≠b∧j∉Ft∧j∉Fs:=fun j hj=>by
   have h1:=hF1 j hj
   have h2:=hF1l j hj
   refine⟨by omega,by omega,fun e=>?_,fun e=>?_⟩
   ·have:=hFb j (by simp [e]);omega
   ·have:=hFb j (by simp [e]);omega
  have hadd:=radd_ac (nro:=nro) (γ:=γ) hT3 (by omega) hnro hx (Fx:=F1) (fun D hD=>kr_ksv (ho3.low hD) hx.k32) hF3 (by omega)
  rw [hrow]at hadd
  (refine aoo fun K hK=>?_;simp (disch:=first|omega|simp only [lnS];try omega);refine hK _ _ ?_;clear hK K)
  refine awt (by simp<;>omega) ?_
  refine aso fun K hK=>?_
  simp (disch:=first|omega|simp only [lnS];try omega) [gx3,lx3,-notTuple,n1,n2]
  refine⟨by kernel_rfl,AC.mono hadd ?_⟩
  rintro _ G4 ⟨rfl,hl4,hk4,tv',sv',Ft',Fs',hT4,hF4⟩
  try simp (disch:=first|omega|simp only [lnS];try omega)
  refine hK _ _ ?_;clear hK K
  have hbH:H.length≠b:=by omega
  have hHt:H.length∉Ft:=fun e=>by have:=hFb _ (show H.length∈b::(Ft++Fs++F) by simp [e]);omega
  have hHs:H.length∉Fs:=fun e=>by have:=hFb _ (show H.length∈b::(Ft++Fs++F) by simp [e]);omega
  have g40:=(hk4 H.length (by omega) hbH hHt hHs).trans g30
  have l40:=hget_lt g40
  have hgb4:=hT4.hb
  have hlb4:=hget_lt hgb4
  obtain⟨_,htl4⟩:=hT4.slen
  have hlen:(L++[(v1,x)]).length=L.length+1:=by simp
  rw [hlen]at htl4
  have ht4:=ownF_nt hT4.rows
  have ldt:xload Tryd.prog 30 (.pointer (some ⟨b,0,none⟩)) G4=some tv':=by simp [xload,hgb4]
  have hw:IntKind.i64.wrap (((L.length+1:Nat):Int)-1)=(L.length:Nat):=by
   rw [show ((L.length+1:Nat):Int)-1=(L.length:Nat) by omega]
   exact w64 (by omega)
  (refine aoo fun K hK=>?_;simp (disch:=first|omega|simp only [lnS];try omega) [hgb4,hlb4,-xload,ldt,-notTuple,ht4.1,ht4.2,-xlen,htl4,hw];refine hK _ _ ?_;clear hK K)
  refine aso fun K hK=>?_
  simp (disch:=first|omega|simp only [lnS];try omega)
  refine⟨by kernel_rfl,ac_of_rc (hnm _ (nlE _)) (by simp [pv_iv]) ?_⟩
  have lN:(nmL (L.length:Nat)).length=32:=rfl
  obtain⟨N,hN⟩:∃N:List Int,N=nmL (L.length:Nat):=⟨_,rfl⟩
  rw [←hN]at lN ⊢
  have htN:(iv .u8 N).take 32=iv .u8 N:=tkL (by simp [lN])
  have hsN:setR (iv .u8 (zl 32)) 0 (iv .u8 N)=iv .u8 N:=setR_all _ _ (by simp [lN])
  have hb4:=hT4.bound
  have fin:RMkQ H b Ft Fs F L x (.agg (iv .u8 N).toArray) (G4.set H.length (some ⟨iv .u8 N, 41,none⟩)):=by
   refine⟨by rw [hnm1,←hN],by simp;omega,fun j hj h1 h2 h3=>(hget_set_ne (by omega)).trans ((hk4 j (by omega) h1 h2 h3).trans (hH3 j hj)),tv',sv',Ft',Fs',F++F1,L++[(v1,x)],hT4.low (fun j hj=>hget_set_ne (fun e=>?_)) (by simp),had.symm,fun j hj=>?_⟩
   ·rw [←e]at hj
    simp only [List.mem_cons,maP]at hj
    rcases hj with hj | (hj | hj) | hj | hj
    ·exact hbH hj
    ·have:=hF4 _ (maP.2 (.inl hj));omega
    ·have:=hF4 _ (maP.2 (.inr hj));omega
    ·have:=hFb _ (show H.length∈b::(Ft++Fs++F) by simp [hj]);omega
    ·have:=hF1 _ hj;omega
   ·simp only [maP]at hj ⊢
    rcases hj with (hj | hj) | hj | hj
    ·have:=hF4 _ (maP.2 (.inl hj));exact .inr (by omega)
    ·have:=hF4 _ (maP.2 (.inr hj));exact .inr (by omega)
    ·exact .inl (.inr hj)
    ·have:=hF1 _ hj;exact .inr (by omega)
  try simp (disch:=first|omega|simp only [lnS];try omega) [lN,htN,hsN,g40,l40,hnn]
  refine hK _ _ ?_;clear hK K
  (refine aw_ret ?_;simp (disch:=first|omega|simp only [lnS];try omega) [lN,htN,l40])
  exact fin
end
section
def RLookQ(H:AH)(x:TermD)(v':Value)(H':AH):Prop:=∃kv,v'=.agg (tmRow kv x).toArray∧Low H.length H H'∧KsV H' kv x.keys
theorem num_at{T:List TermD}{k:List Int}(hb:By k):(∃ (i:Nat) (y:TermD),T[i]?=some y∧numR T.length k=(i:Nat)∧lookT T k=y)∨(numR T.length k=-1∧lookT T k=⟨0,⟨#[]⟩,[k]⟩):=by
 have hp0:0≤plN k:=by
  have b4:=hb.get 4
  have b5:=hb.get 5
  have b6:=hb.get 6
  have b7:=hb.get 7
  unfold plN
  omega
 unfold numR lookT findT
 by_cases h1:nmL (plN k)=k
 ·by_cases h2:plN k<T.length
  ·have hi:(plN k).toNat<T.length:=by omega
   refine .inl ⟨(plN k).toNat,T[(plN k).toNat],geE hi,?_,?_⟩
   ·rw [if_pos (by simp [h1,h2])];omega
   ·rw [if_pos (by simp [h1,h2]),geE hi]
  ·exact .inr ⟨by rw [if_neg (by simp [h2])],by rw [if_neg (by simp [h2])]⟩
 ·exact .inr ⟨by rw [if_neg (by simp [h1])],by rw [if_neg (by simp [h1])]⟩
theorem rlook_ac{nro:Nat}{γ:Nat→Option Nat}{H:AH}{b:Nat}{tv sv:Value}{Ft Fs F:List Nat}{L:List (Value×TermD)}(h:RTblF H b tv sv Ft Fs F L)(hnH:nro≤H.length){k:List Int}(hk:k.length=32)(hb:By k) :
  AC Tryd.prog nro γ 64 #[.pointer (some ⟨b,0,none⟩),.agg (iv .u8 k).toArray] H (RLookQ H (lookT (L.map (·.2)) k)):=by
 obtain⟨hsl,htl⟩:=h.slen
 have hs2:=ownF_nt h.rows
 have hFb:=h.bound
 have hlb:=hget_lt h.hb
 have htk:(iv .u8 k).take 32=iv .u8 k:=tkL (by simp [hk])
 have p1:plain1 (.slice none 0 0)=true:=rfl
 have r3:List.range 3=[0,1,2]:=rfl
 have hrow1:setR (List.map (fun j=>(iv .u8 (zl 32))[j%32]?.getD undef) (List.range 32)) 0 (iv .u8 k)=iv .u8 k:=setR_all _ _ (by simp [hk])
 have hcase:=num_at (T:=L.map (·.2)) hb
 rw [List.length_map]at hcase
 obtain⟨G0,hG0⟩:∃G0:AH,G0=H++[some ⟨iv .u8 k, 41,none⟩,some ⟨[.int .i64 0,.string ByteArray.empty,.slice none 0 0], 92,none⟩]:=⟨_,rfl⟩
 have hT0:RTblF G0 b tv sv Ft Fs F L:=h.low (fun j hj=>by rw [hG0];exact hget_left (hFb j hj)) (by rw [hG0];simp)
 have hgb0:=hT0.hb
 have ldt:xload Tryd.prog 30 (.pointer (some ⟨b,0,none⟩)) G0=some tv:=by simp [xload,hgb0]
 have gk:hget G0 H.length=some ⟨iv .u8 k, 41,none⟩:=by rw [hG0,hget_app0];rfl
 have gz:hget G0 (H.length+1)=some ⟨[.int .i64 0,.string ByteArray.empty,.slice none 0 0], 92,none⟩:=by rw [hG0,hget_app];rfl
 have lk:=hget_lt gk
 have lz:=hget_lt gz
 have hn1:nro≤H.length+1:=by omega
 refine ac_of_aw Tryd.func64 rfl Tryd.ntmps64 Tryd.results64 (by simp) ?_
 (refine aso fun K hK=>?_;simp (disch:=first|omega|simp only [lnS];try omega) [-getElem?_pos,-getElem?_neg,htk];refine hK _ _ ?_;clear hK K)
 rw [←hG0]
 have hG0l:G0.length=H.length+2:=by rw [hG0];simp
 have hG0j:∀j,j<H.length→hget G0 j=hget H j:=fun j hj=>by rw [hG0];exact hget_left hj
 clear hG0
 have hnum:=rnum_rc (γ:=γ) (H:=G0) hgb0 htl hs2.1 hs2.2 hk hb
 refine aso fun K hK=>?_
 simp (disch:=first|omega|simp only [lnS];try omega) [-getElem?_pos,-getElem?_neg,gk,lk,htk]
 refine⟨by kernel_rfl,ac_of_rc hnum (by simp [pv_iv,pv_int,pv_bool,pv_string,pv_tup2,pv_tup3,iv_plain,p2_int,p2_bool,p2_string]) ?_⟩
 try simp (disch:=first|omega|simp only [lnS];try omega) [-getElem?_pos,-getElem?_neg]
 refine hK _ _ ?_;clear hK K
 generalize lookT (L.map (·.2)) k=y at *
 refine aw_seq (aw_seq ?_)
 rcases hcase with ⟨i,y',hi,hn,rfl⟩ | ⟨hn,rfl⟩
 ·rw [hn]
  rw [gmP]at hi
  cases hp:L[i]? with
  | none=>rw [hp]at hi;cases hi
  | some p=>
   rw [hp]at hi
   obtain rfl:=Option.some.inj hi
   obtain⟨kv,y⟩:=p
   have hym:=moG hp
   obtain⟨a1,a2,a3,a4⟩:=hT0.at_ hp
   have hvy:KsV G0 kv y.keys:=hT0.keys _ hym G0 (fun _ _=>rfl)
   obtain⟨hnt2,hvc2⟩:=val_nt hvy
   simp only at a4
   have hrow2:tmRow kv y=[.int .i64 (y.kind:Nat),.string y.text,kv]:=rfl
   rw [hrow2]at a4
   have h0:¬ ((i:Nat):Int)<0:=by omega
   have fin:RLookQ H y (.agg (tmRow kv y).toArray) (G0.set (H.length+1) (some ⟨[.int .i64 (y.kind:Nat),.string y.text,kv], 92,none⟩)):=
    ⟨kv,rfl,⟨fun j hj=>(hget_set_ne (by omega)).trans (hG0j j hj),by simp;omega⟩,h.keys _ hym _ (fun j hj=>(hget_set_ne (by have:=h.lt j hj;omega)).trans (hG0j j (h.lt j hj)))⟩
   (refine aoo fun K hK=>?_;simp (disch:=first|omega|simp only [lnS];try omega) [-getElem?_pos,-getElem?_neg,h0];refine hK _ _ ?_;clear hK K)
   refine awf (by simp [h0]<;>omega) ?_
   refine aw_skip (aw_seq ?_)
   (refine aoo fun K hK=>?_;simp (disch:=first|omega|simp only [lnS];try omega) [-getElem?_pos,-getElem?_neg,-notTuple,hs2.1,hs2.2,hnt2,hvc2,-xload,ldt,a4,-xindexAddr,a2,a3,gz,lz,hn1,p1,r3];refine hK _ _ ?_;clear hK K)
   (refine aw_ret ?_;simp (disch:=first|omega|simp only [lnS];try omega) [-getElem?_pos,-getElem?_neg,hnt2,hvc2,lz])
   exact fin
 ·rw [hn]
  (refine aoo fun K hK=>?_;simp (disch:=first|omega|simp only [lnS];try omega) [-getElem?_pos,-getElem?_neg];refine hK _ _ ?_;clear hK K)
  refine awt (by simp<;>omega) ?_
  refine aw_seq ?_
  obtain⟨G1,hG1⟩:∃G1:AH,G1=G0++[some ⟨iv .u8 k, 41,some 32⟩]:=⟨_,rfl⟩
  have gz1:hget G1 (H.length+1)=some ⟨[.int .i64 0,.string ByteArray.empty,.slice none 0 0], 92,none⟩:=by rw [hG1];exact (hget_left lz).trans gz
  have lz1:=hget_lt gz1
  have gr:hget G1 G0.length=some ⟨iv .u8 k, 41,some 32⟩:=by rw [hG1,hget_app0];rfl
  have fin:RLookQ H ⟨0,⟨#[]⟩,[k]⟩ (.agg (tmRow (.slice (some ⟨G0.length,0,none⟩) 1 1) ⟨0,⟨#[]⟩,[k]⟩).toArray) (G1.set (H.length+1) (some ⟨[.int .i64 0,.string ByteArray.empty,.slice (some ⟨G0.length,0,none⟩) 1 1], 92,none⟩)):=
   ⟨_,rfl,⟨fun j hj=>(hget_set_ne (by omega)).trans (by rw [hG1];exact (hget_left (by omega)).trans (hG0j j hj)),by rw [List.length_set,hG1];simp;omega⟩,keys1 hk ((hget_set_ne (by omega)).trans gr)⟩
  have lz2:H.length+1<G0.length+1:=by omega
  have hgs:=hget_set_eq (x:=some ⟨[.int .i64 0,.string ByteArray.empty,.slice (some ⟨G0.length,0,none⟩) 1 1], 92,none⟩) lz1
  subst hG1
  (refine aoo fun K hK=>?_;simp (disch:=first|omega|simp only [lnS];try omega) [-getElem?_pos,-getElem?_neg,gk,lk,htk,hrow1,hn1,p1,r3,gz1,lz1,lz2,List.range_one];refine hK _ _ ?_;clear hK K)
  (refine aw_ret ?_;simp (disch:=first|omega|simp only [lnS];try omega) [-getElem?_pos,-getElem?_neg,lz1,lz2,hgs])
  rw [List.set_append_left _ _ lz]at fin
  exact fin
end
section
theorem RMkQ.up{H G A A':AH}{b:Nat}{Ft Fs F:List Nat}{L:List (Value×TermD)}{x:TermD}{v:Value}(h:RMkQ G b Ft Fs F L x v A)(lw:Low H.length H G)(la:Low A.length A A'):RMkQ H b Ft Fs F L x v A':=by
 obtain⟨h1,h2,h3,tv',sv',Ft',Fs',F',L',h4,h5,h6⟩:=h
 have e1:=lw.2
 have e2:=la.2
 exact⟨h1,by omega,fun j hj a b c=>(la.1 j (by omega)).trans ((h3 j (by omega) a b c).trans (lw.1 j hj)),tv',sv',Ft',Fs',F',L',h4.low (fun j hj=>la.1 j (h4.bound j hj)) e2,h5,fun j hj=>(h6 j hj).imp id (fun h=>by omega)⟩
def RSealQ(H:AH)(b:Nat)(Ft Fs F:List Nat)(L:List (Value×TermD))(x:TermD)(v':Value)(H':AH):Prop:=
 v'=.string (strOfNums (nmL (nameT x (L.map (·.2)):Nat)))∧RMkQ H b Ft Fs F L x (.agg (iv .u8 (nmL (nameT x (L.map (·.2)):Nat))).toArray) H'
theorem rseal_ac{nro:Nat}{γ:Nat→Option Nat}{H:AH}{b:Nat}{tv sv:Value}{Ft Fs F:List Nat}{L:List (Value×TermD)}(h:RTblF H b tv sv Ft Fs F L)(hnH:nro≤H.length)(hnro:∀j∈b::(Ft++Fs),nro≤j){k y:List Int}(hk:k.length=32)(hy:y.length=32){s:ByteArray}{ks:List (List Int)}(hx:TermD.Wf ⟨6,s,k::y::ks⟩){v:Value}(hv:KsV H v ks)(hL:L.length≤900000) :
  AC Tryd.prog nro γ 28 #[.pointer (some ⟨b,0,none⟩),.agg (iv .u8 k).toArray,.agg (iv .u8 y).toArray,.string s,v] H (RSealQ H b Ft Fs F L ⟨6,s,k::y::ks⟩):=by
 unfold RSealQ
 obtain⟨hnt,hvc⟩:=val_nt hv
 have hFb:=h.bound
 have hlb:=hget_lt h.hb
 have hks:∀z∈ks,z.length=32:=fun z hz=>hx.k32 z (by simp [hz])
 have hmany:=hx.many
 have hmk:ks.length+2≤1000000:=hmany
 have hstr:∀s,v≠.string s:=fun s e=>by
  have hv':CD.Val H (.sl (ks.map kd)) v:=hv
  generalize ks.map kd=rows at hv'
  rw [e]at hv'
  cases hv'
 have htk:(iv .u8 k).take 32=iv .u8 k:=tkL (by simp [hk])
 have hty:(iv .u8 y).take 32=iv .u8 y:=tkL (by simp [hy])
 have hrow2:setR (setR (List.map (fun j=>(iv .u8 (zl 32))[j%32]?.getD undef) (List.range 64)) 0 (iv .u8 k)) 32 (iv .u8 y)=iv .u8 k++iv .u8 y:=row2 (by simp) (by simp [hk]) (by simp [hy])
 obtain⟨G0,hG0⟩:∃G0:AH,G0=H++[some ⟨iv .u8 k, 41,none⟩,some ⟨iv .u8 y, 41,none⟩]:=⟨_,rfl⟩
 have gk:hget G0 H.length=some ⟨iv .u8 k, 41,none⟩:=by rw [hG0,hget_app0];rfl
 have gy:hget G0 (H.length+1)=some ⟨iv .u8 y, 41,none⟩:=by rw [hG0,hget_app];rfl
 have hG0l:G0.length=H.length+2:=by rw [hG0];simp
 have hG0j:∀j,j<H.length→hget G0 j=hget H j:=fun j hj=>by rw [hG0];exact hget_left hj
 have lk:=hget_lt gk
 have ly:=hget_lt gy
 obtain⟨R,hR⟩:∃R:Option Blk,R=some ⟨iv .u8 k++iv .u8 y, 41,some 32⟩:=⟨_,rfl⟩
 have hxc:xcells 32 (.slice (some ⟨G0.length,0,none⟩) 2 2) (G0++[R])=some (iv .u8 k++iv .u8 y):=by
  have ht:(iv .u8 k++iv .u8 y).take 64=iv .u8 k++iv .u8 y:=tkL (by simp [hk,hy])
  rw [hR]
  simp [xcells,hget_app0,hk,hy,ht]
 obtain⟨v1,G1,F1,hap,ho1,hl1,hk1,hF1⟩:=ownF_appQ (P:=Tryd.prog) (nro:=nro) (t := 34) (e := 41) (H:=G0++[R]) (v:=.slice none 0 0) (x:=.slice (some ⟨G0.length,0,none⟩) 2 2) (sz:=32) (cells:=[]) (news:=iv .u8 k++iv .u8 y) (F:=[]) (by kernel_rfl) (by kernel_rfl) (by omega) (by kernel_rfl)
  (.inl ⟨rfl,rfl,rfl⟩) (fun j hj=>by cases hj) (fun s e=>by cases e) hxc (by simp [hk,hy]) (by show (0+(iv .u8 k++iv .u8 y).length)*byt Tryd.prog 41 ≤ _;rw [show byt Tryd.prog 41 = 32 by kernel_rfl];simp [hk,hy]) (by simp [hk,hy,maxLen])
 have hRl:(G0++[R]).length=G0.length+1:=by simp
 rw [hRl]at hl1 hk1 hF1
 have hG1j:∀j,j<H.length→hget G1 j=hget H j:=fun j hj=>(hk1 j (by omega) (by simp)).trans ((hget_left (by omega)).trans (hG0j j hj))
 have hv1:KsV G1 v ks:=CD.Val.low (fun j hj=>hG1j j hj) hv
 have hxc2:xcells 32 v G1=some (ksC ks):=val_cells (by omega) hv1 (kd_len hks) (kd_flat _)
 have hkl:=ksC_len hks
 have hF1l:=ho1.lt
 obtain⟨v2,G2,F2,hap2,ho2,hl2,hk2,hF2⟩:=ownF_appQ (P:=Tryd.prog) (nro:=nro) (t := 34) (e := 41) (H:=G1) (v:=v1) (x:=v) (sz:=32) (cells:=[]++(iv .u8 k++iv .u8 y)) (news:=ksC ks) (F:=F1) (by kernel_rfl) (by kernel_rfl) (by omega) (by kernel_rfl)
  ho1 (fun j hj=>by have:=hF1 j hj;omega) hstr hxc2 (by rw [hkl];omega) (by rw [hkl];simp only [List.nil_append,laP,iv_length,hk,hy];rw [show byt Tryd.prog 41 = 32 by kernel_rfl];omega) (by rw [hkl];simp only [List.nil_append,laP,iv_length,hk,hy,maxLen];omega)
 have hG2j:∀j,j<H.length→hget G2 j=hget H j:=fun j hj=>(hk2 j (by omega) (fun e=>by have:=hF1 j e;omega)).trans (hG1j j hj)
 have lw2:Low H.length H G2:=⟨hG2j,by omega⟩
 have hv2:KsV G2 v2 (k::y::ks):=kr_ksv (F:=F2) (by rw [show kr (k::y::ks)=[]++(iv .u8 k++iv .u8 y)++ksC ks by rw [ksC_kr];simp [kr]];exact ho2) hx.k32
 have hmk:=rmake_ac (nro:=nro) (γ:=γ) (h.low (fun j hj=>hG2j j (hFb j hj)) (by omega)) (by omega) hnro hx hv2 hL
 obtain⟨n1,n2⟩:=ownF_nt ho1
 obtain⟨n3,n4⟩:=ownF_nt ho2
 subst hR
 clear hxc hxc2
 refine ac_of_aw Tryd.func28 rfl Tryd.ntmps28 Tryd.results28 (by simp) ?_
 (refine aso fun K hK=>?_;simp (disch:=first|omega|simp only [lnS];try omega) [-getElem?_pos,-getElem?_neg,htk,hty];refine hK _ _ ?_;clear hK K)
 rw [←hG0]
 clear hG0
 (refine aso fun K hK=>?_;simp (disch:=first|omega|simp only [lnS];try omega) [-getElem?_pos,-getElem?_neg];refine hK _ _ ?_;clear hK K)
 (refine aso fun K hK=>?_;simp (disch:=first|omega|simp only [lnS];try omega) [-getElem?_pos,-getElem?_neg,gk,gy,lk,ly,htk,hty,hrow2,-notTuple,n1,n2,-xappend,hap];refine hK _ _ ?_;clear hK K)
 (refine aso fun K hK=>?_;simp (disch:=first|omega|simp only [lnS];try omega) [-getElem?_pos,-getElem?_neg,-notTuple,hnt,hvc,n1,n2,n3,n4,-xappend,hap2];refine hK _ _ ?_;clear hK K)
 refine aso fun K hK=>?_
 simp (disch:=first|omega|simp only [lnS];try omega) [-getElem?_pos,-getElem?_neg,-notTuple,n3,n4]
 refine⟨by kernel_rfl,AC.mono hmk ?_⟩
 intro v3 G3 hQ
 have hv3:=hQ.1
 have hn3:nro≤G3.length:=by have:=hQ.2.1;omega
 have fin:=fun (N:AH)=>hQ.up lw2 (A':=G3++N) (Low.push (nlE _) N)
 subst hv3
 have lN:(nmL (nameT ⟨6,s,k::y::ks⟩ (L.map (·.2)):Nat)).length=32:=rfl
 generalize nmL (nameT ⟨6,s,k::y::ks⟩ (L.map (·.2)):Nat)=N at *
 have htN:(iv .u8 N).take 32=iv .u8 N:=tkL (by simp [lN])
 have hsN:setR (iv .u8 (zl 32)) 0 (iv .u8 N)=iv .u8 N:=setR_all _ _ (by simp [lN])
 try simp (disch:=first|omega|simp only [lnS];try omega) [-getElem?_pos,-getElem?_neg,hn3,lN,htN,hsN]
 refine hK _ _ ?_;clear hK K
 refine aw_seq ?_
 have hbl:=byteList_iv N
 (refine aoo fun K hK=>?_;simp (disch:=first|omega|simp only [lnS];try omega) [-getElem?_pos,-getElem?_neg,lN,htN,hbl];refine hK _ _ ?_;clear hK K)
 (refine aw_ret ?_;simp (disch:=first|omega|simp only [lnS];try omega) [-getElem?_pos,-getElem?_neg])
 exact fin _
end
section
theorem rmark1_ac{nro:Nat}{γ:Nat→Option Nat}{H:AH}{b:Nat}{tv sv:Value}{Ft Fs F:List Nat}{L:List (Value×TermD)}(h:RTblF H b tv sv Ft Fs F L)(hnH:nro≤H.length)(hnro:∀j∈b::(Ft++Fs),nro≤j){s:ByteArray}(hs1:s.size≤10000000)(h32:¬ s.size=32)(hL:L.length≤900000) :
  AC Tryd.prog nro γ 35 #[.pointer (some ⟨b,0,none⟩),.string s] H (RMkQ H b Ft Fs F L ⟨2,tmBox++s,[]⟩):=by
 have hs9:s.size≤9223372036854775807:=by omega
 have hFb:=h.bound
 have hb32:((s.size:Int)==32)=false:=by rw [beq_eq_false_iff_ne];omega
 have hi32:¬ (s.size:Int)=32:=by omega
 have hba:(⟨#[98,111,120]⟩:ByteArray).size+s.size≤9223372036854775807:=by show 3+s.size≤_;omega
 have hbs:(tmBox++s).size≤100000000:=by rw [ByteArray.size_append];show 3+s.size≤_;omega
 have hbx:(⟨#[98,111,120]⟩:ByteArray)++s=tmBox++s:=rfl
 generalize tmBox++s=t at *
 have hx:TermD.Wf ⟨2,t,[]⟩:=⟨(by show 2≤6;omega),hbs,fun y hy=>(by cases hy),fun y hy=>(by cases hy),(by show 0≤1000000;omega),fun h=>(by cases h),fun h=>(by cases h),fun h=>(by cases h)⟩
 have lw0:Low H.length H (H++[some ⟨iv .u8 (zl 32), 41,none⟩]):=Low.push (nlE _) _
 have hmk:=rmake_ac (nro:=nro) (γ:=γ) (H:=H++[some ⟨iv .u8 (zl 32), 41,none⟩]) (h.low (fun j hj=>hget_left (hFb j hj)) (by simp)) (by simp;omega) hnro hx (v:=.slice none 0 0) (kr_ksv (F:=[]) (.inl ⟨rfl,rfl,rfl⟩) (fun y hy=>by cases hy)) hL
 have hlb:=hget_lt h.hb
 have hbH:H.length≠b:=by omega
 have hHt:H.length∉Ft:=fun e=>by have:=hFb _ (show H.length∈b::(Ft++Fs++F) by simp [e]);omega
 have hHs:H.length∉Fs:=fun e=>by have:=hFb _ (show H.length∈b::(Ft++Fs++F) by simp [e]);omega
 have hHF:H.length∉F:=fun e=>by have:=hFb _ (show H.length∈b::(Ft++Fs++F) by simp [e]);omega
 refine ac_of_aw Tryd.func35 rfl Tryd.ntmps35 Tryd.results35 (by simp) ?_
 (refine aso fun K hK=>?_;simp (disch:=first|omega|simp only [lnS];try omega);refine hK _ _ ?_;clear hK K)
 refine aw_seq (aw_seq ?_)
 (refine aoo fun K hK=>?_;simp (disch:=first|omega|simp only [lnS];try omega) [hs9,hi32,hb32];refine hK _ _ ?_;clear hK K)
 refine awt (by simp<;>omega) ?_
 refine aso fun K hK=>?_
 simp (disch:=first|omega|simp only [lnS];try omega) [hs9,hba,hbx]
 refine⟨by kernel_rfl,AC.mono hmk ?_⟩
 intro v3 G3 hQ
 obtain⟨hv3,hl3,hk3,tv',sv',Ft',Fs',F',L',hT3,hL3,hF3⟩:=hQ
 have hl3':H.length+1≤G3.length:=by simpa using hl3
 have g3:hget G3 H.length=some ⟨iv .u8 (zl 32), 41,none⟩:=(hk3 H.length (by simp) hbH hHt hHs).trans (by rw [hget_app0];rfl)
 have l3:=hget_lt g3
 have hn3:nro≤H.length:=hnH
 have hF4:H.length∉b::(Ft'++Fs'++F'):=fun e=>by
  rcases List.mem_cons.1 e with e | e
  ·exact hbH e
  ·rcases hF3 _ e with e | e
   ·simp only [maP]at e
    rcases e with (e | e) | e
    ·exact hHt e
    ·exact hHs e
    ·exact hHF e
   ·simp at e
 have fin:RMkQ H b Ft Fs F L ⟨2,t,[]⟩ v3 (G3.set H.length (some ⟨iv .u8 (nmL (nameT ⟨2,t,[]⟩ (L.map (·.2)):Nat)), 41,none⟩)):=
  ⟨hv3,by simp;omega,fun j hj a b c=>(hget_set_ne (by omega)).trans ((hk3 j (by simp;omega) a b c).trans (hget_left hj)),tv',sv',Ft',Fs',F',L',hT3.low (fun j hj=>hget_set_ne (fun e=>hF4 (e▸hj))) (by simp),hL3,fun j hj=>(hF3 j hj).imp id (fun h=>by simp at h;omega)⟩
 subst hv3
 have lN:(nmL (nameT ⟨2,t,[]⟩ (L.map (·.2)):Nat)).length=32:=rfl
 generalize nmL (nameT ⟨2,t,[]⟩ (L.map (·.2)):Nat)=N at *
 have htN:(iv .u8 N).take 32=iv .u8 N:=tkL (by simp [lN])
 have hsN:setR (iv .u8 (zl 32)) 0 (iv .u8 N)=iv .u8 N:=setR_all _ _ (by simp [lN])
 try simp (disch:=first|omega|simp only [lnS];try omega) [hn3,lN,htN,hsN,g3,l3]
 refine hK _ _ ?_;clear hK K
 (refine aw_ret ?_;simp (disch:=first|omega|simp only [lnS];try omega) [lN,htN,l3])
 exact fin
theorem rmark0_ac{nro:Nat}{γ:Nat→Option Nat}{H:AH}{p:Value}(hnH:nro≤H.length){s:ByteArray}(h32:s.size=32)(hp:notTuple p=true) :
  AC Tryd.prog nro γ 35 #[p,.string s] H (fun v' H'=>v'=.agg (iv .u8 (nums s)).toArray∧Low H.length H H'):=by
 obtain⟨N,hN⟩:∃N:List Int,N=nums s:=⟨_,rfl⟩
 have lN:N.length=32:=by rw [hN,nums_len,h32]
 have hgb:∀i,gb s i=N.getD i 0:=fun i=>by
  have:=gb_sn (l:=nums s) (nums_bd s) i
  rw [of_nums']at this
  rw [hN];exact this
 rw [←hN]
 clear hN
 have hs9:s.size≤9223372036854775807:=by omega
 have hb32:((s.size:Int)==32)=true:=by rw [h32];rfl
 have hi32:(s.size:Int)=32:=by rw [h32];rfl
 have htN:(iv .u8 N).take 32=iv .u8 N:=tkL (by simp [lN])
 have hsN:setR (iv .u8 (zl 32)) 0 (iv .u8 N)=iv .u8 N:=setR_all _ _ (by simp [lN])
 have hn1:nro≤H.length+1:=by omega
 refine ac_of_aw Tryd.func35 rfl Tryd.ntmps35 Tryd.results35 (by simp) ?_
 (refine aso fun K hK=>?_;simp (disch:=first|omega|simp only [lnS];try omega);refine hK _ _ ?_;clear hK K)
 refine aw_seq (aw_seq ?_)
 (refine aoo fun K hK=>?_;simp (disch:=first|omega|simp only [lnS];try omega) [hs9,hb32,hi32];refine hK _ _ ?_;clear hK K)
 refine awf (by simp<;>omega) ?_
 refine aw_skip (aw_seq ?_)
 (refine aoo fun K hK=>?_;simp (disch:=first|omega|simp only [lnS];try omega);refine hK _ _ ?_;clear hK K)
 refine aw_seq (aw_seq ?_)
 (refine aoo fun K hK=>?_;simp (disch:=first|omega|simp only [lnS];try omega);refine hK _ _ ?_;clear hK K)
 refine aw_block ?_
 refine aw_loop (fun q α G=>∃i:Nat,i+q=32∧α 1=.string s∧α 4=.pointer (some ⟨H.length,0,none⟩)∧α 5=.pointer (some ⟨H.length+1,0,none⟩)∧α 6=.int .i64 (i:Nat)∧G=H++[some ⟨iv .u8 (zl 32), 41,none⟩,some ⟨iv .u8 (N.take i++zl (32-i)), 41,none⟩]) 32 ?_ ?_
 ·exact⟨0,by omega,by (first|simp;done|rfl),by (first|simp;done|rfl),by (first|simp;done|rfl),by (first|simp;done|rfl),rfl⟩
 rintro q α G ⟨i,hiq,h1,h4,h5,h6,rfl⟩
 refine aw_seq (aw_seq ?_)
 by_cases hi:i<32
 ·have hnx:=set_next N 32 i lN hi
  have hfl:=fill_len N 32 i lN (by omega)
  have hg:=hgb i
  generalize N.getD i 0=z at *
  have hset:(iv .u8 (N.take i++zl (32-i))).set i (.int .u8 z)=iv .u8 (N.take (i+1)++zl (32-(i+1))):=by rw [←hnx];simp [iv]
  generalize N.take i++zl (32-i)=A at *
  have hsi:(i:Int)<s.size:=by omega
  (refine aoo fun K hK=>?_;simp (disch:=first|omega|simp only [lnS];try omega) [h6,hi];refine hK _ _ ?_;clear hK K)
  refine awt (by simp [hi]<;>omega) ?_
  refine aw_skip (aw_seq ?_)
  refine aw_block ?_
  (refine aoo fun K hK=>?_;simp (disch:=first|omega|simp only [lnS];try omega) [h1,h5,h6,h32,hsi,hi,hg,hfl,hset,hn1];refine hK _ _ ?_;clear hK K)
  (refine aoo fun K hK=>?_;simp (disch:=first|omega|simp only [lnS];try omega) [h6];refine hK _ _ ?_;clear hK K)
  exact⟨q-1,by omega,i+1,by omega,by (first|simp [h1];done|rfl),by (first|simp [h4];done|rfl),by (first|simp [h5];done|rfl),by (first|simp;done|rfl),by rw [show 32-(i+1)=31-i by omega]⟩
 ·obtain rfl:i=32:=by omega
  have e:N.take 32++zl (32-32)=N:=by
   rw [tkL (by omega)]
   simp [zl]
  rw [e]
  (refine aoo fun K hK=>?_;simp (disch:=first|omega|simp only [lnS];try omega) [h6];refine hK _ _ ?_;clear hK K)
  refine awf (by simp<;>omega) ?_
  refine aw_exit (aw_seq ?_)
  (refine aoo fun K hK=>?_;simp (disch:=first|omega|simp only [lnS];try omega) [h4,h5,htN,hsN,lN,hnH];refine hK _ _ ?_;clear hK K)
  (refine aw_ret ?_;simp (disch:=first|omega|simp only [lnS];try omega) [h4,htN,lN])
  exact Low.push (nlE _) _
end
section
theorem RMkQ.layG{H H2 G:AH}{b:Nat}{Ft Fs F:List Nat}{L:List (Value×TermD)}{x:TermD}{v:Value}(h:RMkQ H2 b Ft Fs F L x v G)(lw:Low H.length H H2)(hF:∀j∈b::(Ft++Fs++F),j<H.length){r:Nat}(hr0:H.length≤r)(hr:hget H2 r=some ⟨iv .u8 (zl 32), 41,none⟩):∃N:List Int,N=nmL (nameT x (L.map (·.2)):Nat)∧N.length=32∧(iv .u8 N).take 32=iv .u8 N∧setR (iv .u8 (zl 32)) 0 (iv .u8 N)=iv .u8 N∧v=.agg (iv .u8 N).toArray∧r<G.length∧hget G r=some ⟨iv .u8 (zl 32), 41,none⟩∧∀X:Option Blk,RMkQ H b Ft Fs F L x (.agg (iv .u8 N).toArray) (G.set r X):=by
 obtain⟨h0,h2,h3,tv',sv',Ft',Fs',F',L',h4,h5,h6⟩:=h
 have hl:=hget_lt hr
 have hle:=lw.2
 have hrb:r≠b:=fun e=>by have:=hF b (by simp);omega
 have hrt:r∉Ft:=fun e=>by have:=hF r (by simp [e]);omega
 have hrs:r∉Fs:=fun e=>by have:=hF r (by simp [e]);omega
 have hrf:r∉F:=fun e=>by have:=hF r (by simp [e]);omega
 have hg:=(h3 r hl hrb hrt hrs).trans hr
 refine⟨nmL (nameT x (L.map (·.2)):Nat),rfl,rfl,rfl,?_,h0,hget_lt hg,hg,fun X=>⟨rfl,by simp;omega,fun j hj a b c=>?_,tv',sv',Ft',Fs',F',L',h4.low (fun j hj=>hget_set_ne (fun e=>?_)) (by simp),h5,fun j hj=>(h6 j hj).imp id (fun h=>by omega)⟩⟩
 ·exact setR_all _ _ (by simp [nmL_len])
 ·rw [hget_set_ne (by omega),h3 j (by omega) a b c,lw.1 j hj]
 ·rw [←e]at hj
  rcases List.mem_cons.1 hj with e | e
  ·exact hrb e
  ·rcases h6 _ e with e | e
   ·simp only [maP]at e
    rcases e with (e | e) | e
    ·exact hrt e
    ·exact hrs e
    ·exact hrf e
   ·omega
theorem rtwo_ac{nro:Nat}{γ:Nat→Option Nat}{H G2:AH}{b:Nat}{tv sv:Value}{Ft Fs F:List Nat}{L:List (Value×TermD)}(h:RTblF H b tv sv Ft Fs F L)(hnH:nro≤H.length)(hnro:∀j∈b::(Ft++Fs),nro≤j){n:Nat}(hn:n=4∨n=5){s p:List Int}(hs:s.length=32)(hbs:By s)(hp:p.length=32)(hbp:By p)(hL:L.length≤900000)
  (lw2:Low H.length H G2) {z q:Nat} (hz:H.length≤z) (gz:hget G2 z=some ⟨iv .u8 (zl 32), 41,none⟩) (g2:hget G2 q=some ⟨iv .u8 s++iv .u8 p, 41,some 32⟩) :
  AC Tryd.prog nro γ 25 #[.pointer (some ⟨b,0,none⟩),.int .i64 (n:Nat),.string ⟨#[]⟩,.slice (some ⟨q,0,none⟩) 2 2] G2
   (fun v' G3=>∃N:List Int,N=nmL (nameT ⟨n,⟨#[]⟩,[s,p]⟩ (L.map (·.2)):Nat)∧N.length=32∧(iv .u8 N).take 32=iv .u8 N∧setR (iv .u8 (zl 32)) 0 (iv .u8 N)=iv .u8 N∧v'=.agg (iv .u8 N).toArray∧z<G3.length∧hget G3 z=some ⟨iv .u8 (zl 32), 41,none⟩∧∀X:Option Blk,RMkQ H b Ft Fs F L ⟨n,⟨#[]⟩,[s,p]⟩ (.agg (iv .u8 N).toArray) (G3.set z X)):=by
 have hFb:=h.bound
 have hle:=lw2.2
 refine (rmake_ac (nro:=nro) (γ:=γ) (h.low (fun j hj=>lw2.1 j (hFb j hj)) hle) (by omega) hnro (wf_two hn hs hbs hp hbp) (v:=.slice (some ⟨q,0,none⟩) 2 2) (keys2 hs hp g2) hL).mono fun v' G3 hQ=>?_
 exact hQ.layG lw2 hFb hz gz
theorem agreeT_look(T:List TermD)(s p:List Int):agreeT T s p=if (lookT T p).kind=3 then (if 0<cmpL s ((lookT T p).keys.getD 0 []) then ⟨4,⟨#[]⟩,[(lookT T p).keys.getD 0 [],s]⟩ else ⟨4,⟨#[]⟩,[s,(lookT T p).keys.getD 0 []]⟩) else ⟨5,⟨#[]⟩,[s,p]⟩:=by
 unfold agreeT lookT
 cases findT T p with
 | none=>simp
 | some x=>rfl
theorem look_mem{T:List TermD}{k:List Int}(h:(lookT T k).kind≠0):lookT T k∈T:=by
 unfold lookT at h ⊢
 cases hf:findT T k with
 | none=>rw [hf]at h;exact absurd rfl h
 | some x=>
  unfold findT at hf
  split at hf
  ·exact moG hf
  ·cases hf
def RAgreeQ(H:AH)(b:Nat)(Ft Fs F:List Nat)(L:List (Value×TermD))(s p:List Int)(v':Value)(H':AH):Prop:=
 (p=zl 32∧v'=.tuple #[.agg (iv .u8 (zl 32)).toArray,.bool false]∧Low H.length H H')∨(p≠zl 32∧∃v1,v'=.tuple #[v1,.bool true]∧RMkQ H b Ft Fs F L (agreeT (L.map (·.2)) s p) v1 H')
theorem ragree0_ac{nro:Nat}{γ:Nat→Option Nat}{H:AH}{b:Nat}{Ft Fs F:List Nat}{L:List (Value×TermD)}(hnH:nro≤H.length){s:List Int}(hs:s.length=32):AC Tryd.prog nro γ 50 #[.pointer (some ⟨b,0,none⟩),.agg (iv .u8 s).toArray,.agg (iv .u8 (zl 32)).toArray] H (RAgreeQ H b Ft Fs F L s (zl 32)):=by
 have hts:(iv .u8 s).take 32=iv .u8 s:=tkL (by simp [hs])
 have hz:(List.take 32 (zl 32)==zl 32)=true:=by decide
 have hz2:setR (iv .u8 (zl 32)) 0 (iv .u8 (zl 32))=iv .u8 (zl 32):=rfl
 refine ac_of_aw Tryd.func50 rfl Tryd.ntmps50 Tryd.results50 (by simp) ?_
 (refine aso fun K hK=>?_;simp (disch:=first|omega|simp only [lnS];try omega) [-getElem?_pos,-getElem?_neg,hts];refine hK _ _ ?_;clear hK K)
 refine aw_seq (aw_seq ?_)
 (refine aoo fun K hK=>?_;simp (disch:=first|omega|simp only [lnS];try omega) [-getElem?_pos,-getElem?_neg,hz];refine hK _ _ ?_;clear hK K)
 refine awt (by simp<;>omega) ?_
 (refine aso fun K hK=>?_;simp (disch:=first|omega|simp only [lnS];try omega) [-getElem?_pos,-getElem?_neg,hz2];refine hK _ _ ?_;clear hK K)
 (refine aw_ret ?_;simp (disch:=first|omega|simp only [lnS];try omega) [-getElem?_pos,-getElem?_neg])
 exact .inl ⟨rfl,rfl,Low.push (nlE _) _⟩
theorem ragree_ac{nro:Nat}{γ:Nat→Option Nat}{H:AH}{b:Nat}{tv sv:Value}{Ft Fs F:List Nat}{L:List (Value×TermD)}(h:RTblF H b tv sv Ft Fs F L)(hnH:nro≤H.length)(hnro:∀j∈b::(Ft++Fs),nro≤j){s p:List Int}(hs:s.length=32)(hbs:By s)(hp:p.length=32)(hbp:By p)(hL:L.length≤900000) :
  AC Tryd.prog nro γ 50 #[.pointer (some ⟨b,0,none⟩),.agg (iv .u8 s).toArray,.agg (iv .u8 p).toArray] H (RAgreeQ H b Ft Fs F L s p):=by
 by_cases hp0:p=zl 32
 ·subst hp0
  exact ragree0_ac hnH hs
 have hFb:=h.bound
 have hts:(iv .u8 s).take 32=iv .u8 s:=tkL (by simp [hs])
 have htp:(iv .u8 p).take 32=iv .u8 p:=tkL (by simp [hp])
 have hpb:(p==zl 32)=false:=by rw [beq_eq_false_iff_ne];exact hp0
 have p1:plain1 (.slice none 0 0)=true:=rfl
 have r3:List.range 3=[0,1,2]:=rfl
 have hwf:∀y∈L.map (·.2),y.Wf:=fun y hy=>by
  obtain⟨q,hq,rfl⟩:=List.mem_map.1 hy
  exact h.wf q hq
 have hag:=agreeT_look (L.map (·.2)) s p
 have hmem:(lookT (L.map (·.2)) p).kind=3→(lookT (L.map (·.2)) p).Wf:=fun e=>hwf _ (look_mem (by omega))
 obtain⟨B,hB⟩:∃B:AH,B=H++[some ⟨iv .u8 s, 41,none⟩,some ⟨iv .u8 p, 41,none⟩,some ⟨iv .u8 (zl 32), 41,none⟩]:=⟨_,rfl⟩
 have gs:hget B H.length=some ⟨iv .u8 s, 41,none⟩:=by rw [hB,hget_app0];rfl
 have gp:hget B (H.length+1)=some ⟨iv .u8 p, 41,none⟩:=by rw [hB,hget_app];rfl
 have gz:hget B (H.length+2)=some ⟨iv .u8 (zl 32), 41,none⟩:=by rw [hB,hget_app];rfl
 have hBl:B.length=H.length+3:=by rw [hB];simp
 have hBj:∀j,j<H.length→hget B j=hget H j:=fun j hj=>by rw [hB];exact hget_left hj
 have ls:=hget_lt gs
 have lp:=hget_lt gp
 have lz:=hget_lt gz
 refine ac_of_aw Tryd.func50 rfl Tryd.ntmps50 Tryd.results50 (by simp) ?_
 (refine aso fun K hK=>?_;simp (disch:=first|omega|simp only [lnS];try omega) [-getElem?_pos,-getElem?_neg,hts,htp];refine hK _ _ ?_;clear hK K)
 rw [←hB]
 clear hB
 have hTB:RTblF B b tv sv Ft Fs F L:=h.low (fun j hj=>hBj j (hFb j hj)) (by omega)
 have hlook:=rlook_ac (nro:=nro) (γ:=γ) hTB (by omega) hp hbp
 refine aw_seq (aw_seq ?_)
 (refine aoo fun K hK=>?_;simp (disch:=first|omega|simp only [lnS];try omega) [-getElem?_pos,-getElem?_neg,gp,lp,htp,hp0,hpb];refine hK _ _ ?_;clear hK K)
 refine awf (by simp<;>omega) ?_
 refine aw_skip (aw_seq ?_)
 refine aoo fun K hK=>?_
 simp (disch:=first|omega|simp only [lnS];try omega) [-getElem?_pos,-getElem?_neg,gp,lp,htp]
 refine⟨by kernel_rfl,AC.mono hlook ?_⟩
 rintro _ G ⟨kv,rfl,lw,hkv⟩
 obtain⟨hnt,hvc⟩:=val_nt hkv
 generalize lookT (L.map (·.2)) p=y at *
 have hGl:=lw.2
 have hng:nro≤G.length:=by omega
 unfold tmRow
 try simp (disch:=first|omega|simp only [lnS];try omega) [-getElem?_pos,-getElem?_neg,p1,r3,hng,-notTuple,hnt,hvc]
 refine hK _ _ ?_;clear hK K
 obtain⟨G2,hG2⟩:∃G2:AH,G2=G++[some ⟨[.int .i64 (y.kind:Nat),.string y.text,kv], 92,none⟩]:=⟨_,rfl⟩
 have gx2:hget G2 G.length=some ⟨[.int .i64 (y.kind:Nat),.string y.text,kv], 92,none⟩:=by rw [hG2,hget_app0];rfl
 have hG2l:G2.length=G.length+1:=by rw [hG2];simp
 have hG2j:∀j,j<G.length→hget G2 j=hget G j:=fun j hj=>by rw [hG2];exact hget_left hj
 rw [←hG2]
 clear hG2
 have lx2:=hget_lt gx2
 have gs2:=(hG2j _ (by omega)).trans ((lw.1 _ ls).trans gs)
 have gp2:=(hG2j _ (by omega)).trans ((lw.1 _ lp).trans gp)
 have gz2:=(hG2j _ (by omega)).trans ((lw.1 _ lz).trans gz)
 have ls2:=hget_lt gs2
 have lp2:=hget_lt gp2
 have lz2:=hget_lt gz2
 have lwH:Low H.length H G2:=⟨fun j hj=>(hG2j j (by omega)).trans ((lw.1 j (by omega)).trans (hBj j hj)),by omega⟩
 have hn2:nro≤H.length+2:=by omega
 refine aw_seq (aw_seq ?_)
 by_cases hk3:y.kind=3
 ·rw [if_pos hk3]at hag
  have hw:=hmem hk3
  have hk1:=hw.pub hk3
  obtain⟨c,hc⟩:∃c,y.keys=[c]:=by
   match hh:y.keys,hk1 with
   | [c],_=>exact⟨c,rfl⟩
  have lc:c.length=32:=hw.k32 c (by rw [hc];simp)
  have bc:By c:=hw.by_ c (by rw [hc];simp)
  have htc:(iv .u8 c).take 32=iv .u8 c:=tkL (by simp [lc])
  rw [hc]at hag hkv
  have hg0:([c]:List (List Int)).getD 0 []=c:=rfl
  rw [hg0]at hag
  have hkv2:KsV G2 kv [c]:=CD.Val.low (fun j hj=>hG2j j hj) hkv
  obtain⟨q,x,q1,q2,q3,rfl,q4⟩:=(hkv2.acc (fun k hk=>by rw [msG.1 hk];exact lc)).at_ 0 (by simp)
  rw [hg0]at q3 q4
  have q2:xindexAddr Tryd.prog 34 kv (.int .i64 0)=some q:=q2
  have q5:=q4 G2 (Low.refl (nlE _))
  have hk3b:((y.kind:Int)==3)=true:=by rw [hk3];rfl
  have hk3i:(y.kind:Int)=3:=by rw [hk3];rfl
  have ldk:xload Tryd.prog 34 (.pointer (some ⟨G.length,2,none⟩)) G2=some kv:=by simp [xload,gx2]
  have lds:xload Tryd.prog 41 (.pointer (some ⟨H.length,0,none⟩)) G2=some (.agg (iv .u8 s).toArray):=by simp [xload,gs2,hts,hs]
  (refine aoo fun K hK=>?_;simp (disch:=first|omega|simp only [lnS];try omega) [-getElem?_pos,-getElem?_neg,gx2,lx2,hk3b,hk3i];refine hK _ _ ?_;clear hK K)
  refine awf (by simp<;>omega) ?_
  refine aw_skip ?_
  refine aw_seq (aw_seq ?_)
  have hle:=rless_vc c s lc hs bc hbs
  by_cases hgt:0<cmpL s c
  ·rw [if_pos hgt]at hag
   rw [decide_eq_true hgt]at hle
   have hrow:setR (setR (List.map (fun j=>(iv .u8 (zl 32))[j%32]?.getD undef) (List.range 64)) 0 (iv .u8 c)) 32 (iv .u8 s)=iv .u8 c++iv .u8 s:=row2 (by simp) (by simp [lc]) (by simp [hs])
   (refine aw_plan [] [] [0,1,2,3,4] 5 1 (by kernel_rfl) (by kernel_rfl) (by kernel_rfl) (fun K hK=>?_));simp only [sel,gcS,gdZ];simp (disch:=first|omega|simp only [lnS];try omega) [-getElem?_pos,-getElem?_neg,-xload,ldk,lds,q5,-xindexAddr,q1,q2,q3,-notTuple,hnt,Nat.add_assoc]
   refine⟨by kernel_rfl,ac_of_vc (by simp [pv_iv,pv_int,pv_bool,pv_string,pv_tup2,pv_tup3,iv_plain,p2_int,p2_bool,p2_string]) hle ?_⟩
   try simp (disch:=first|omega|simp only [lnS];try omega) [-getElem?_pos,-getElem?_neg]
   refine hK _ _ ?_;clear hK K
   refine awt (by simp<;>omega) ?_
   have htw:=rtwo_ac (nro:=nro) (γ:=γ) (G2:=G2++[some ⟨iv .u8 c++iv .u8 s, 41,some 32⟩]) h hnH hnro (n:=4) (.inl rfl) lc bc hs hbs hL ⟨fun j hj=>(hget_left (by omega)).trans (lwH.1 j hj),by simp;omega⟩ (z:=H.length+2) (q:=G2.length) (by omega) ((hget_left (by omega)).trans gz2) (by rw [hget_app0];rfl)
   refine aw_seq ?_
   (refine aw_plan [] [0] [1,2,3,4,5] 6 4 (by kernel_rfl) (by kernel_rfl) (by kernel_rfl) (fun K hK=>?_));simp only [sel,gcS,gdZ];simp (disch:=first|omega|simp only [lnS];try omega) [-getElem?_pos,-getElem?_neg,-xload,ldk,lds,q5,-xindexAddr,q1,q2,q3,-notTuple,hnt,hrow,Nat.add_assoc]
   refine⟨by kernel_rfl,AC.mono htw ?_⟩
   intro v' G3 hQ
   obtain⟨N,_,lN,ht,hse,rfl,hlt,hg,hfin⟩:=hQ
   try simp (disch:=first|omega|simp only [lnS];try omega) [-getElem?_pos,-getElem?_neg,hn2,lN,ht,hse,hg,hlt]
   refine hK _ _ ?_;clear hK K
   (refine aw_ret ?_;simp (disch:=first|omega|simp only [lnS];try omega) [-getElem?_pos,-getElem?_neg,lN,ht,hlt])
   exact .inr ⟨hp0,_,rfl,hag▸hfin _⟩
  ·rw [if_neg hgt]at hag
   rw [decide_eq_false hgt]at hle
   have hrow:setR (setR (List.map (fun j=>(iv .u8 (zl 32))[j%32]?.getD undef) (List.range 64)) 0 (iv .u8 s)) 32 (iv .u8 c)=iv .u8 s++iv .u8 c:=row2 (by simp) (by simp [hs]) (by simp [lc])
   (refine aw_plan [] [] [0,1,2,3,4] 5 1 (by kernel_rfl) (by kernel_rfl) (by kernel_rfl) (fun K hK=>?_));simp only [sel,gcS,gdZ];simp (disch:=first|omega|simp only [lnS];try omega) [-getElem?_pos,-getElem?_neg,-xload,ldk,lds,q5,-xindexAddr,q1,q2,q3,-notTuple,hnt,Nat.add_assoc]
   refine⟨by kernel_rfl,ac_of_vc (by simp [pv_iv,pv_int,pv_bool,pv_string,pv_tup2,pv_tup3,iv_plain,p2_int,p2_bool,p2_string]) hle ?_⟩
   try simp (disch:=first|omega|simp only [lnS];try omega) [-getElem?_pos,-getElem?_neg]
   refine hK _ _ ?_;clear hK K
   refine awf (by simp<;>omega) ?_
   refine aw_skip ?_
   have htw:=rtwo_ac (nro:=nro) (γ:=γ) (G2:=G2++[some ⟨iv .u8 s++iv .u8 c, 41,some 32⟩]) h hnH hnro (n:=4) (.inl rfl) hs hbs lc bc hL ⟨fun j hj=>(hget_left (by omega)).trans (lwH.1 j hj),by simp;omega⟩ (z:=H.length+2) (q:=G2.length) (by omega) ((hget_left (by omega)).trans gz2) (by rw [hget_app0];rfl)
   refine aw_seq ?_
   (refine aw_plan [] [0] [1,2,3,4,5] 6 4 (by kernel_rfl) (by kernel_rfl) (by kernel_rfl) (fun K hK=>?_));simp only [sel,gcS,gdZ];simp (disch:=first|omega|simp only [lnS];try omega) [-getElem?_pos,-getElem?_neg,-xload,ldk,lds,q5,-xindexAddr,q1,q2,q3,-notTuple,hnt,hrow,Nat.add_assoc]
   refine⟨by kernel_rfl,AC.mono htw ?_⟩
   intro v' G3 hQ
   obtain⟨N,_,lN,ht,hse,rfl,hlt,hg,hfin⟩:=hQ
   try simp (disch:=first|omega|simp only [lnS];try omega) [-getElem?_pos,-getElem?_neg,hn2,lN,ht,hse,hg,hlt]
   refine hK _ _ ?_;clear hK K
   (refine aw_ret ?_;simp (disch:=first|omega|simp only [lnS];try omega) [-getElem?_pos,-getElem?_neg,lN,ht,hlt])
   exact .inr ⟨hp0,_,rfl,hag▸hfin _⟩
 ·rw [if_neg hk3]at hag
  have hk3b:((y.kind:Int)==3)=false:=by rw [beq_eq_false_iff_ne];omega
  have hk3i:¬ (y.kind:Int)=3:=by omega
  have hrow:setR (setR (List.map (fun j=>(iv .u8 (zl 32))[j%32]?.getD undef) (List.range 64)) 0 (iv .u8 s)) 32 (iv .u8 p)=iv .u8 s++iv .u8 p:=row2 (by simp) (by simp [hs]) (by simp [hp])
  have htw:=rtwo_ac (nro:=nro) (γ:=γ) (G2:=G2++[some ⟨iv .u8 s++iv .u8 p, 41,some 32⟩]) h hnH hnro (n:=5) (.inr rfl) hs hbs hp hbp hL ⟨fun j hj=>(hget_left (by omega)).trans (lwH.1 j hj),by simp;omega⟩ (z:=H.length+2) (q:=G2.length) (by omega) ((hget_left (by omega)).trans gz2) (by rw [hget_app0];rfl)
  (refine aoo fun K hK=>?_;simp (disch:=first|omega|simp only [lnS];try omega) [-getElem?_pos,-getElem?_neg,gx2,lx2,hk3b,hk3i];refine hK _ _ ?_;clear hK K)
  refine awt (by simp<;>omega) ?_
  refine aso fun K hK=>?_
  simp (disch:=first|omega|simp only [lnS];try omega) [-getElem?_pos,-getElem?_neg,gs2,gp2,ls2,lp2,hts,htp,hrow]
  refine⟨by kernel_rfl,AC.mono htw ?_⟩
  intro v' G3 hQ
  obtain⟨N,_,lN,ht,hse,rfl,hlt,hg,hfin⟩:=hQ
  try simp (disch:=first|omega|simp only [lnS];try omega) [-getElem?_pos,-getElem?_neg,hn2,lN,ht,hse,hg,hlt]
  refine hK _ _ ?_;clear hK K
  (refine aw_ret ?_;simp (disch:=first|omega|simp only [lnS];try omega) [-getElem?_pos,-getElem?_neg,lN,ht,hlt])
  exact .inr ⟨hp0,_,rfl,hag▸hfin _⟩
end
section
def RLookP(H:AH)(L:List (Value×TermD))(k:List Int)(v':Value)(H':AH):Prop:=
 Low H.length H H'∧((∃p∈L,lookT (L.map (·.2)) k=p.2∧v'=.agg (tmRow p.1 p.2).toArray)∨(lookT (L.map (·.2)) k=⟨0,⟨#[]⟩,[k]⟩∧∃kv,v'=.agg (tmRow kv ⟨0,⟨#[]⟩,[k]⟩).toArray∧KsV H' kv [k]))
theorem openT_look(T:List TermD)(k y:List Int)(box:ByteArray):openT T k y box=if box.size=32 then (if (lookT T (nums box)).kind=6∧(lookT T (nums box)).keys.getD 0 []=k∧(lookT T (nums box)).keys.getD 1 []=y then some ((lookT T (nums box)).text,(lookT T (nums box)).keys.drop 2) else none) else none:=by
 unfold openT lookT
 cases findT T (nums box) with
 | none=>simp
 | some x=>rfl
def AccK(H:AH)(v:Value)(ks:List (List Int)):Prop:=Acc H 34 41 v ks.length (fun i x=>x=.agg (iv .u8 (ks.getD i [])).toArray)
theorem suf_ksv{H:AH}{kv:Value}{ks:List (List Int)}(h:KsV H kv ks)(hk:K32 ks)(h2:2≤ks.length) :
  ∃sv,(∀G:AH,xslice Tryd.prog 34 kv (some (.int .i64 2)) none G=some sv)∧∀G:AH,KsV G kv ks→AccK G sv (ks.drop 2):=by
 have hu:und Tryd.prog 34 = .slice 41 := by kernel_rfl
 have hs:szt Tryd.prog 41 = 32:=by kernel_rfl
 have hrl:∀row∈ks.map kd,row.length=32:=fun row hr=>by
  obtain⟨y,hy,rfl⟩:=List.mem_map.1 hr
  unfold kd
  rw [List.length_map]
  exact hk y hy
 obtain⟨j,b,us,hv,_⟩:=val_at (P:=Tryd.prog) (t := 34) (e := 41) (sz:=32) h hu hs (by omega) hrl (i:=0) (row:=kd (ks.getD 0 [])) (by
  rw [gmP,gdD,geE (by omega:0<ks.length)];rfl)
 rw [List.length_map]at hv
 subst hv
 have hx:∃a c,(∀G:AH,xslice Tryd.prog 34 (.slice (some ⟨j,0,none⟩) ks.length ks.length) (some (.int .i64 2)) none G=some (.slice (some a) (ks.length-2) c))∧(3≤ks.length→a=⟨j,64,none⟩∧c=ks.length-2):=by
  by_cases e:ks.length=2
  ·refine⟨⟨j,0,some 0⟩,0,fun G=>?_,fun h=>by omega⟩
   unfold xslice
   simp only [hu,bnd,hs]
   rw [show asInt? (Value.int .i64 2)=some 2 from rfl]
   dsimp only
   rw [if_pos ⟨by omega,by omega,by omega,by omega⟩,if_pos ⟨by omega,by omega⟩,e]
  ·refine⟨⟨j,64,none⟩,ks.length-2,fun G=>?_,fun h=>⟨rfl,rfl⟩⟩
   unfold xslice
   simp only [hu,bnd,hs]
   rw [show asInt? (Value.int .i64 2)=some 2 from rfl]
   dsimp only
   rw [if_pos ⟨by omega,by omega,by omega,by omega⟩,if_neg (by omega),if_pos trivial]
   simp
 obtain⟨a,c,hx1,hx2⟩:=hx
 refine⟨_,hx1,fun G hG=>?_⟩
 have hdl:(ks.drop 2).length=ks.length-2:=List.length_drop
 unfold AccK
 rw [hdl]
 refine⟨rfl,rfl,by unfold xlen;simp only [hu],fun i hi=>?_⟩
 obtain⟨rfl,rfl⟩:=hx2 (by omega)
 have hi2:i+2<ks.length:=by omega
 obtain⟨j2,b,us,hv,hb,hle,hxa,hus,hul,hle2,hc,hval⟩:=val_at (P:=Tryd.prog) (t := 34) (e := 41) (sz:=32) hG hu hs (by omega) hrl (i:=i+2) (row:=kd ks[i+2]) (by rw [gmP,geE hi2];rfl)
 rw [List.length_map]at hv
 simp only [Value.slice.injEq,Option.some.injEq,Addr.mk.injEq]at hv
 obtain⟨⟨rfl,_⟩,_⟩:=hv
 refine⟨.pointer (some ⟨j,64+i*32,none⟩),.agg us.toArray,rfl,?_,rfl,?_,fun A hA=>?_⟩
 ·unfold xindexAddr
  simp only [hu,hs]
  rw [if_pos ⟨by omega,by omega,by omega⟩]
  simp
 ·rw [hval.key,gdD,List.getElem?_drop,show 2+i=i+2 by omega,geE hi2];rfl
 ·have hbA:hget A j=some b:=(hA.1 j (hget_lt hb)).trans hb
  rw [show 64+i*32=(i+2)*32 by omega]
  exact load_at (P:=Tryd.prog) (e := 41) (i:=i+2) hbA hs (by omega) (by kernel_rfl) hus hle2
theorem rlookP_ac{nro:Nat}{γ:Nat→Option Nat}{H:AH}{b:Nat}{tv sv:Value}{Ft Fs F:List Nat}{L:List (Value×TermD)}(h:RTblF H b tv sv Ft Fs F L)(hnH:nro≤H.length){k:List Int}(hk:k.length=32)(hb:By k) :
  AC Tryd.prog nro γ 64 #[.pointer (some ⟨b,0,none⟩),.agg (iv .u8 k).toArray] H (RLookP H L k):=by
 obtain⟨hsl,htl⟩:=h.slen
 have hs2:=ownF_nt h.rows
 have hFb:=h.bound
 have hlb:=hget_lt h.hb
 have htk:(iv .u8 k).take 32=iv .u8 k:=tkL (by simp [hk])
 have p1:plain1 (.slice none 0 0)=true:=rfl
 have r3:List.range 3=[0,1,2]:=rfl
 have hrow1:setR (List.map (fun j=>(iv .u8 (zl 32))[j%32]?.getD undef) (List.range 32)) 0 (iv .u8 k)=iv .u8 k:=setR_all _ _ (by simp [hk])
 have hcase:=num_at (T:=L.map (·.2)) hb
 rw [List.length_map]at hcase
 obtain⟨G0,hG0⟩:∃G0:AH,G0=H++[some ⟨iv .u8 k, 41,none⟩,some ⟨[.int .i64 0,.string ByteArray.empty,.slice none 0 0], 92,none⟩]:=⟨_,rfl⟩
 have hT0:RTblF G0 b tv sv Ft Fs F L:=h.low (fun j hj=>by rw [hG0];exact hget_left (hFb j hj)) (by rw [hG0];simp)
 have hgb0:=hT0.hb
 have ldt:xload Tryd.prog 30 (.pointer (some ⟨b,0,none⟩)) G0=some tv:=by simp [xload,hgb0]
 have gk:hget G0 H.length=some ⟨iv .u8 k, 41,none⟩:=by rw [hG0,hget_app0];rfl
 have gz:hget G0 (H.length+1)=some ⟨[.int .i64 0,.string ByteArray.empty,.slice none 0 0], 92,none⟩:=by rw [hG0,hget_app];rfl
 have lk:=hget_lt gk
 have lz:=hget_lt gz
 have hn1:nro≤H.length+1:=by omega
 refine ac_of_aw Tryd.func64 rfl Tryd.ntmps64 Tryd.results64 (by simp) ?_
 (refine aso fun K hK=>?_;simp (disch:=first|omega|simp only [lnS];try omega) [-getElem?_pos,-getElem?_neg,htk];refine hK _ _ ?_;clear hK K)
 rw [←hG0]
 have hG0l:G0.length=H.length+2:=by rw [hG0];simp
 have hG0j:∀j,j<H.length→hget G0 j=hget H j:=fun j hj=>by rw [hG0];exact hget_left hj
 clear hG0
 have hnum:=rnum_rc (γ:=γ) (H:=G0) hgb0 htl hs2.1 hs2.2 hk hb
 refine aso fun K hK=>?_
 simp (disch:=first|omega|simp only [lnS];try omega) [-getElem?_pos,-getElem?_neg,gk,lk,htk]
 refine⟨by kernel_rfl,ac_of_rc hnum (by simp [pv_iv,pv_int,pv_bool,pv_string,pv_tup2,pv_tup3,iv_plain,p2_int,p2_bool,p2_string]) ?_⟩
 try simp (disch:=first|omega|simp only [lnS];try omega) [-getElem?_pos,-getElem?_neg]
 refine hK _ _ ?_;clear hK K
 refine aw_seq (aw_seq ?_)
 rcases hcase with ⟨i,y',hi,hn,hlk⟩ | ⟨hn,hlk⟩
 ·rw [hn]
  rw [gmP]at hi
  cases hp:L[i]? with
  | none=>rw [hp]at hi;cases hi
  | some p=>
   rw [hp]at hi
   obtain rfl:=Option.some.inj hi
   obtain⟨kv,y⟩:=p
   have hym:=moG hp
   obtain⟨a1,a2,a3,a4⟩:=hT0.at_ hp
   have hvy:KsV G0 kv y.keys:=hT0.keys _ hym G0 (fun _ _=>rfl)
   obtain⟨hnt2,hvc2⟩:=val_nt hvy
   simp only at a4
   have hrow2:tmRow kv y=[.int .i64 (y.kind:Nat),.string y.text,kv]:=rfl
   rw [hrow2]at a4
   have h0:¬ ((i:Nat):Int)<0:=by omega
   have fin:RLookP H L k (.agg (tmRow kv y).toArray) (G0.set (H.length+1) (some ⟨[.int .i64 (y.kind:Nat),.string y.text,kv], 92,none⟩)):=
    ⟨⟨fun j hj=>(hget_set_ne (by omega)).trans (hG0j j hj),by simp;omega⟩,.inl ⟨(kv,y),hym,hlk,rfl⟩⟩
   (refine aoo fun K hK=>?_;simp (disch:=first|omega|simp only [lnS];try omega) [-getElem?_pos,-getElem?_neg,h0];refine hK _ _ ?_;clear hK K)
   refine awf (by simp [h0]<;>omega) ?_
   refine aw_skip (aw_seq ?_)
   (refine aoo fun K hK=>?_;simp (disch:=first|omega|simp only [lnS];try omega) [-getElem?_pos,-getElem?_neg,-notTuple,hs2.1,hs2.2,hnt2,hvc2,-xload,ldt,a4,-xindexAddr,a2,a3,gz,lz,hn1,p1,r3];refine hK _ _ ?_;clear hK K)
   (refine aw_ret ?_;simp (disch:=first|omega|simp only [lnS];try omega) [-getElem?_pos,-getElem?_neg,hnt2,hvc2,lz])
   exact fin
 ·rw [hn]
  (refine aoo fun K hK=>?_;simp (disch:=first|omega|simp only [lnS];try omega) [-getElem?_pos,-getElem?_neg];refine hK _ _ ?_;clear hK K)
  refine awt (by simp<;>omega) ?_
  refine aw_seq ?_
  obtain⟨G1,hG1⟩:∃G1:AH,G1=G0++[some ⟨iv .u8 k, 41,some 32⟩]:=⟨_,rfl⟩
  have gz1:hget G1 (H.length+1)=some ⟨[.int .i64 0,.string ByteArray.empty,.slice none 0 0], 92,none⟩:=by rw [hG1];exact (hget_left lz).trans gz
  have lz1:=hget_lt gz1
  have gr:hget G1 G0.length=some ⟨iv .u8 k, 41,some 32⟩:=by rw [hG1,hget_app0];rfl
  have fin:RLookP H L k (.agg (tmRow (.slice (some ⟨G0.length,0,none⟩) 1 1) ⟨0,⟨#[]⟩,[k]⟩).toArray) (G1.set (H.length+1) (some ⟨[.int .i64 0,.string ByteArray.empty,.slice (some ⟨G0.length,0,none⟩) 1 1], 92,none⟩)):=
   ⟨⟨fun j hj=>(hget_set_ne (by omega)).trans (by rw [hG1];exact (hget_left (by omega)).trans (hG0j j hj)),by rw [List.length_set,hG1];simp;omega⟩,.inr ⟨hlk,_,rfl,keys1 hk ((hget_set_ne (by omega)).trans gr)⟩⟩
  have lz2:H.length+1<G0.length+1:=by omega
  have hgs:=hget_set_eq (x:=some ⟨[.int .i64 0,.string ByteArray.empty,.slice (some ⟨G0.length,0,none⟩) 1 1], 92,none⟩) lz1
  subst hG1
  (refine aoo fun K hK=>?_;simp (disch:=first|omega|simp only [lnS];try omega) [-getElem?_pos,-getElem?_neg,gk,lk,htk,hrow1,hn1,p1,r3,gz1,lz1,lz2,List.range_one];refine hK _ _ ?_;clear hK K)
  (refine aw_ret ?_;simp (disch:=first|omega|simp only [lnS];try omega) [-getElem?_pos,-getElem?_neg,lz1,lz2,hgs])
  rw [List.set_append_left _ _ lz]at fin
  exact fin
end
end
section
structure PlW (H0:AH) (S:List Nat) (H:AH) (tb rb:Nat) (kv:Value) (T R:List TermD) (l:List (List Int)) (F Ft Fs Fr Fk:List Nat) (tv sv:Value) (L:List (Value×TermD)):Prop where
 lw:Low H0.length H0 H
 a:Tbl H tb F T
 b:RTblF H rb tv sv Ft Fs Fr L
 e:L.map (·.2)=R
 k:OwnF H kv 41 32 (kr l) Fk
 ra:∀j∈F,H0.length≤j
 rr:∀j∈rb::(Ft++Fs++Fr),H0.length≤j
 rk:∀j∈Fk,H0.length≤j
 ab:∀j∈F,j∉rb::(Ft++Fs++Fr)
 ak:∀j∈F,j∉Fk
 bk:∀j∈rb::(Ft++Fs++Fr),j∉Fk
 s:∀j∈S,j<H.length∧j∉F∧j∉rb::(Ft++Fs++Fr)∧j∉Fk
def Pl(H0:AH)(S:List Nat)(H:AH)(tb rb:Nat)(kv:Value)(T R:List TermD)(l:List (List Int)):Prop:=∃F Ft Fs Fr Fk tv sv L,PlW H0 S H tb rb kv T R l F Ft Fs Fr Fk tv sv L
def PlQ(H0:AH)(S:List Nat)(H:AH)(tb rb:Nat)(kv:Value)(T R:List TermD)(l:List (List Int))(w v':Value)(H':AH):Prop:=v'=w∧Pl H0 S H' tb rb kv T R l∧∀j∈S,hget H' j=hget H j
section
variable {H0 H G:AH} {S:List Nat} {tb rb:Nat} {kv:Value} {T R:List TermD} {l:List (List Int)}
theorem Pl.lw(h:Pl H0 S H tb rb kv T R l):Low H0.length H0 H:=by
 obtain⟨F,Ft,Fs,Fr,Fk,tv,sv,L,h⟩:=h
 exact h.lw
theorem Pl.sl(h:Pl H0 S H tb rb kv T R l){j:Nat}(hj:j∈S):j<H.length:=by
 obtain⟨F,Ft,Fs,Fr,Fk,tv,sv,L,h⟩:=h
 exact (h.s j hj).1
theorem Pl.push(h:Pl H0 S H tb rb kv T R l)(lw:Low H.length H G){S2:List Nat}(h2:∀j∈S2,H.length≤j∧j<G.length):Pl H0 (S2++S) G tb rb kv T R l:=by
 obtain⟨F,Ft,Fs,Fr,Fk,tv,sv,L,h⟩:=h
 have ba:=h.a.bound
 have bb:=h.b.bound
 have bk:=h.k.lt
 have hl:=lw.2
 refine⟨F,Ft,Fs,Fr,Fk,tv,sv,L,⟨fun j hj=>(lw.1 j (by have:=h.lw.2;omega)).trans (h.lw.1 j hj),by have:=h.lw.2;omega⟩,h.a.low (fun j hj=>lw.1 j (ba j hj)) hl,h.b.low (fun j hj=>lw.1 j (bb j hj)) hl,h.e,h.k.low (fun j hj=>lw.1 j (bk j hj)),h.ra,h.rr,h.rk,h.ab,h.ak,h.bk,fun j hj=>?_⟩
 rcases maP.1 hj with hj | hj
 ·obtain⟨h3,h4⟩:=h2 j hj
  exact⟨h4,fun e=>by have:=ba j e;omega,fun e=>by have:=bb j e;omega,fun e=>by have:=bk j e;omega⟩
 ·obtain⟨h3,h4⟩:=h.s j hj
  exact⟨by omega,h4⟩
theorem Pl.low(h:Pl H0 S H tb rb kv T R l)(lw:Low H.length H G):Pl H0 S G tb rb kv T R l:=h.push lw (S2:=[]) (fun j hj=>by cases hj)
theorem Pl.less(h:Pl H0 S H tb rb kv T R l){S2:List Nat}(h2:∀j∈S2,j∈S):Pl H0 S2 H tb rb kv T R l:=by
 obtain⟨F,Ft,Fs,Fr,Fk,tv,sv,L,h⟩:=h
 exact⟨F,Ft,Fs,Fr,Fk,tv,sv,L,h.lw,h.a,h.b,h.e,h.k,h.ra,h.rr,h.rk,h.ab,h.ak,h.bk,fun j hj=>h.s j (h2 j hj)⟩
theorem Pl.set(h:Pl H0 S H tb rb kv T R l){j:Nat}(hj:j∈S)(hn:H0.length≤j)(X:Option Blk):Pl H0 S (H.set j X) tb rb kv T R l:=by
 obtain⟨F,Ft,Fs,Fr,Fk,tv,sv,L,h⟩:=h
 obtain⟨s1,s2,s3,s4⟩:=h.s j hj
 have hl:=h.lw
 refine⟨F,Ft,Fs,Fr,Fk,tv,sv,L,⟨fun i hi=>(hget_set_ne (by omega)).trans (hl.1 i hi),by have:=hl.2;simpa using this⟩,h.a.low (fun i hi=>hget_set_ne (fun e=>s2 (e▸hi))) (by simp),h.b.low (fun i hi=>hget_set_ne (fun e=>s3 (e▸hi))) (by simp),h.e,h.k.low (fun i hi=>hget_set_ne (fun e=>s4 (e▸hi))),h.ra,h.rr,h.rk,h.ab,h.ak,h.bk,fun i hi=>?_⟩
 obtain⟨i1,i2⟩:=h.s i hi
 exact⟨by simpa using i1,i2⟩
theorem PlW.term_{F Ft Fs Fr Fk:List Nat}{tv sv:Value}{L:List (Value×TermD)}(w:PlW H0 S H tb rb kv T R l F Ft Fs Fr Fk tv sv L){x:TermD}{v':Value}{H':AH}(hq:TermQ H tb F T x v' H'):PlQ H0 S H tb rb kv (addT x T) R l (.agg (iv .u8 (nmL (nameT x T))).toArray) v' H':=by
 obtain⟨h0,h2,h3,F',h4,h5⟩:=hq
 have bb:=w.b.bound
 have bk:=w.k.lt
 have hl:=w.lw
 refine⟨h0,⟨F',Ft,Fs,Fr,Fk,tv,sv,L,⟨fun j hj=>(h3 j (by have:=hl.2;omega) (fun e=>by have:=w.ra j e;omega)).trans (hl.1 j hj),by have:=hl.2;omega⟩,h4,w.b.low (fun j hj=>h3 j (bb j hj) (fun e=>w.ab j e hj)) h2,w.e,w.k.low (fun j hj=>h3 j (bk j hj) (fun e=>w.ak j e hj)),fun j hj=>?_,w.rr,w.rk,fun j hj e=>?_,fun j hj e=>?_,w.bk,fun j hj=>?_⟩,fun j hj=>h3 j (w.s j hj).1 (w.s j hj).2.1⟩
 ·rcases h5 j hj with e | e
  ·exact w.ra j e
  ·have:=hl.2;omega
 ·rcases h5 j hj with e2 | e2
  ·exact w.ab j e2 e
  ·have:=bb j e;omega
 ·rcases h5 j hj with e2 | e2
  ·exact w.ak j e2 e
  ·have:=bk j e;omega
 ·obtain⟨s1,s2,s3,s4⟩:=w.s j hj
  refine⟨by omega,fun e=>?_,s3,s4⟩
  rcases h5 j e with e2 | e2
  ·exact s2 e2
  ·omega
theorem PlW.make{F Ft Fs Fr Fk:List Nat}{tv sv:Value}{L:List (Value×TermD)}(w:PlW H0 S H tb rb kv T R l F Ft Fs Fr Fk tv sv L){x:TermD}{v':Value}{H':AH}(hq:RMkQ H rb Ft Fs Fr L x v' H'):PlQ H0 S H tb rb kv T (addT x R) l (.agg (iv .u8 (nmL (nameT x R:Nat))).toArray) v' H':=by
 obtain⟨h0,h2,h3,tv',sv',Ft',Fs',Fr',L',h4,h5,h6⟩:=hq
 have ba:=w.a.bound
 have bb:=w.b.bound
 have bk:=w.k.lt
 have hl:=w.lw
 have he:=w.e
 rw [he]at h0 h5
 have nin:∀j,j∉rb::(Ft++Fs++Fr)→j≠rb∧j∉Ft∧j∉Fs∧j∉Fr:=fun j hj=>by
  simp only [List.mem_cons,maP,not_or]at hj
  exact⟨hj.1,hj.2.1.1,hj.2.1.2,hj.2.2⟩
 have out:∀j,j<H.length→j∉rb::(Ft++Fs++Fr)→j∉rb::(Ft'++Fs'++Fr'):=fun j hj hn e=>by
  obtain⟨n1,n2,n3,n4⟩:=nin j hn
  rcases List.mem_cons.1 e with e | e
  ·exact n1 e
  ·rcases h6 j e with e | e
   ·simp only [maP]at e
    rcases e with (e | e) | e
    ·exact n2 e
    ·exact n3 e
    ·exact n4 e
   ·omega
 have hna:∀j∈F,j∉rb::(Ft++Fs++Fr):=w.ab
 have hnk:∀j∈Fk,j∉rb::(Ft++Fs++Fr):=fun j hj e=>w.bk j e hj
 have same:∀j,j<H.length→j∉rb::(Ft++Fs++Fr)→hget H' j=hget H j:=fun j hj hn=>by
  obtain⟨n1,n2,n3,n4⟩:=nin j hn
  exact h3 j hj n1 n2 n3
 refine⟨h0,⟨F,Ft',Fs',Fr',Fk,tv',sv',L',⟨fun j hj=>(h3 j (by have:=hl.2;omega) (fun e=>by have:=w.rr j (by simp [e]);omega) (fun e=>by have:=w.rr j (by simp [e]);omega) (fun e=>by have:=w.rr j (by simp [e]);omega)).trans (hl.1 j hj),by have:=hl.2;omega⟩,w.a.low (fun j hj=>same j (ba j hj) (hna j hj)) h2,h4,h5,w.k.low (fun j hj=>same j (bk j hj) (hnk j hj)),w.ra,fun j hj=>?_,w.rk,fun j hj=>out j (ba j hj) (hna j hj),w.ak,fun j hj e=>out j (bk j e) (hnk j e) hj,fun j hj=>?_⟩,fun j hj=>same j (w.s j hj).1 (w.s j hj).2.2.1⟩
 ·by_cases hjn:j∈rb::(Ft++Fs++Fr)
  ·exact w.rr j hjn
  ·have:=out j
   by_cases hjl:j<H.length
   ·exact absurd hj (out j hjl hjn)
   ·have:=hl.2;omega
 ·obtain⟨s1,s2,s3,s4⟩:=w.s j hj
  exact⟨by omega,s2,out j s1 s3,s4⟩
end
end
section
theorem addT_mem{x y:TermD}{T:List TermD}(h:y∈addT x T):y∈T∨y=x:=by
 unfold addT at h
 cases hp:placeT x T with
 | some i=>rw [hp]at h;exact .inl h
 | none=>
  rw [hp]at h
  rcases maP.1 h with h | h
  ·exact .inl h
  ·exact .inr (msG.1 h)
theorem addT_le(x:TermD)(T:List TermD):(addT x T).length≤T.length+1:=by
 unfold addT
 cases placeT x T with
 | some i=>exact Nat.le_succ _
 | none=>simp
def nmV(x:TermD)(T:List TermD):Value:=.agg (iv .u8 (nmL (nameT x T:Nat))).toArray
def boxT(s:ByteArray):TermD:=⟨2,tmBox++s,[]⟩
def markT(T:List TermD)(s:ByteArray):List TermD:=if s.size=32 then T else addT (boxT s) T
def markV(T:List TermD)(s:ByteArray):List Int:=if s.size=32 then nums s else nmL (nameT (boxT s) T:Nat)
def agrT2(T:List TermD)(s p:List Int):List TermD:=if p=zl 32 then T else addT (agreeT T s p) T
def agrK(T:List TermD)(s p:List Int):List Int:=if p=zl 32 then zl 32 else nmL (nameT (agreeT T s p) T:Nat)
def agrB(p:List Int):Bool:=!decide (p=zl 32)
section
variable {γ:Nat→Option Nat} {H0 H:AH} {S:List Nat} {tb rb:Nat} {kv:Value} {T R:List TermD} {l:List (List Int)}
theorem pl_draw(hpw:Pw γ H0)(h:Pl H0 S H tb rb kv T R l){s:ByteArray}(hs:s.size≤100000000)(hT:T.length≤900000):AC Tryd.prog H0.length γ 22 #[.pointer (some ⟨tb,0,none⟩),.string s] H (PlQ H0 S H tb rb kv (addT ⟨1,s,[]⟩ T) R l (nmV ⟨1,s,[]⟩ T)):=by
 obtain⟨F,Ft,Fs,Fr,Fk,tv,sv,L,w⟩:=h
 exact (draw_ac (nro:=H0.length) (hpw.low w.lw) w.a w.ra w.lw.2 hs (by omega)).mono fun v' H' hq=>w.term_ hq
theorem pl_hash(hpw:Pw γ H0)(h:Pl H0 S H tb rb kv T R l){s:ByteArray}{ks:List (List Int)}(hx:TermD.Wf ⟨2,s,ks⟩){v:Value}{Fv:List Nat}(hv:OwnF H v 41 32 (kr ks) Fv)(hF:∀j∈Fv,j∈S)(hT:T.length≤900000):AC Tryd.prog H0.length γ 23 #[.pointer (some ⟨tb,0,none⟩),.string s,v] H (PlQ H0 S H tb rb kv (addT ⟨2,s,ks⟩ T) R l (nmV ⟨2,s,ks⟩ T)):=by
 obtain⟨F,Ft,Fs,Fr,Fk,tv,sv,L,w⟩:=h
 exact (hash_ac (nro:=H0.length) (hpw.low w.lw) w.a w.ra w.lw.2 hx (fun G hG hj=>kr_ksv (hv.low (fun j hm=>hj j (w.s j (hF j hm)).1 (w.s j (hF j hm)).2.1)) hx.k32) (by omega)).mono fun v' H' hq=>w.term_ hq
theorem pl_pub(hpw:Pw γ H0)(h:Pl H0 S H tb rb kv T R l){k:List Int}(hk:k.length=32)(hb:By k)(hT:T.length≤900000):AC Tryd.prog H0.length γ 29 #[.pointer (some ⟨tb,0,none⟩),.agg (iv .u8 k).toArray] H (PlQ H0 S H tb rb kv (addT ⟨3,⟨#[]⟩,[k]⟩ T) R l (nmV ⟨3,⟨#[]⟩,[k]⟩ T)):=by
 obtain⟨F,Ft,Fs,Fr,Fk,tv,sv,L,w⟩:=h
 exact (pubT_ac (nro:=H0.length) (hpw.low w.lw) w.a w.ra w.lw.2 hk hb (by omega)).mono fun v' H' hq=>w.term_ hq
theorem pl_seal(hpw:Pw γ H0)(h:Pl H0 S H tb rb kv T R l){k y:List Int}(hk:k.length=32)(hy:y.length=32){s:ByteArray}{ks:List (List Int)}(hx:TermD.Wf ⟨6,s,k::y::ks⟩){v:Value}(hv:KsV H v ks)(hT:T.length≤900000):AC Tryd.prog H0.length γ 27 #[.pointer (some ⟨tb,0,none⟩),.agg (iv .u8 k).toArray,.agg (iv .u8 y).toArray,.string s,v] H (PlQ H0 S H tb rb kv (addT ⟨6,s,k::y::ks⟩ T) R l (.string (strOfNums (nmL (nameT ⟨6,s,k::y::ks⟩ T:Nat))))):=by
 obtain⟨F,Ft,Fs,Fr,Fk,tv,sv,L,w⟩:=h
 refine (seal_ac (nro:=H0.length) (hpw.low w.lw) w.a w.ra w.lw.2 hk hy hx hv (by omega)).mono fun v' H' hq=>?_
 exact⟨hq.1,(w.term_ hq.2).2⟩
theorem pl_mark(hpw:Pw γ H0)(h:Pl H0 S H tb rb kv T R l){s:ByteArray}(hs:s.size≤10000000)(hT:T.length≤900000):AC Tryd.prog H0.length γ 26 #[.pointer (some ⟨tb,0,none⟩),.string s] H (PlQ H0 S H tb rb kv (markT T s) R l (.agg (iv .u8 (markV T s)).toArray)):=by
 have h0:=h
 obtain⟨F,Ft,Fs,Fr,Fk,tv,sv,L,w⟩:=h
 refine (mark_ac (nro:=H0.length) (hpw.low w.lw) w.a w.ra w.lw.2 hs (by omega)).mono fun v' H' hq=>?_
 unfold MarkQ at hq
 unfold markT markV
 by_cases h32:s.size=32
 ·rw [if_pos h32]at hq ⊢
  rw [if_pos h32]
  exact⟨hq.1,h0.low hq.2,fun j hj=>hq.2.1 j (h0.sl hj)⟩
 ·rw [if_neg h32]at hq ⊢
  rw [if_neg h32]
  exact w.term_ hq
theorem pl_make(h:Pl H0 S H tb rb kv T R l){x:TermD}(hx:x.Wf){v:Value}(hv:KsV H v x.keys)(hR:R.length≤900000):AC Tryd.prog H0.length γ 25 #[.pointer (some ⟨rb,0,none⟩),.int .i64 (x.kind:Nat),.string x.text,v] H (PlQ H0 S H tb rb kv T (addT x R) l (nmV x R)):=by
 obtain⟨F,Ft,Fs,Fr,Fk,tv,sv,L,w⟩:=h
 have hl:L.length≤900000:=by rw [←w.e,List.length_map]at hR;exact hR
 exact (rmake_ac (nro:=H0.length) w.b w.lw.2 (fun j hj=>w.rr j (by simp only [List.mem_cons,maP]at hj ⊢;rcases hj with e | e | e <;> simp [e])) hx hv hl).mono fun v' H' hq=>w.make hq
theorem pl_rseal(h:Pl H0 S H tb rb kv T R l){k y:List Int}(hk:k.length=32)(hy:y.length=32){s:ByteArray}{ks:List (List Int)}(hx:TermD.Wf ⟨6,s,k::y::ks⟩){v:Value}(hv:KsV H v ks)(hR:R.length≤900000):AC Tryd.prog H0.length γ 28 #[.pointer (some ⟨rb,0,none⟩),.agg (iv .u8 k).toArray,.agg (iv .u8 y).toArray,.string s,v] H (PlQ H0 S H tb rb kv T (addT ⟨6,s,k::y::ks⟩ R) l (.string (strOfNums (nmL (nameT ⟨6,s,k::y::ks⟩ R:Nat))))):=by
 obtain⟨F,Ft,Fs,Fr,Fk,tv,sv,L,w⟩:=h
 have hl:L.length≤900000:=by rw [←w.e,List.length_map]at hR;exact hR
 refine (rseal_ac (nro:=H0.length) w.b w.lw.2 (fun j hj=>w.rr j (by simp only [List.mem_cons,maP]at hj ⊢;rcases hj with e | e | e <;> simp [e])) hk hy hx hv hl).mono fun v' H' hq=>?_
 have q:=w.make hq.2
 exact⟨by rw [hq.1,w.e],q.2⟩
end
end
section
theorem key_load{G:AH}{n:Nat}{Y:List Int}(hY:Y.length=32)(h:hget G n=some ⟨iv .u8 Y, 41,none⟩):xload Tryd.prog 41 (.pointer (some ⟨n,0,none⟩)) G=some (.agg (iv .u8 Y).toArray):=by
 have:=load_at (P:=Tryd.prog) (e := 41) (sz:=32) (i:=0) (us:=iv .u8 Y) h (by kernel_rfl) (by omega) (by kernel_rfl) (by simp;rw [tkL (by simp [hY])]) (by simp [hY])
 simpa using this
end
section
def OpR(T:List TermD)(k y:List Int)(box:ByteArray)(u:ByteArray)(ks:List (List Int))(b:Bool):Prop:=(openT T k y box=none∧u=⟨#[]⟩∧ks=[]∧b=false)∨(openT T k y box=some (u,ks)∧b=true)
theorem opR_ex(T:List TermD)(k y:List Int)(box:ByteArray):∃u ks b,OpR T k y box u ks b:=by
 cases h:openT T k y box with
 | none=>exact⟨_,_,_,.inl ⟨h,rfl,rfl,rfl⟩⟩
 | some p=>exact⟨p.1,p.2,true,.inr ⟨h,rfl⟩⟩
theorem openT_keys{T:List TermD}{k y:List Int}{box:ByteArray}{u:ByteArray}{ks:List (List Int)}(h:openT T k y box=some (u,ks)):∃x∈T,ks=x.keys.drop 2:=by
 rw [openT_look]at h
 split at h
 ·split at h
  ·rename_i h6
   cases h
   exact⟨_,look_mem (by omega),rfl⟩
  ·cases h
 ·cases h
theorem openQ_w{G G':AH}{T:List TermD}{k y:List Int}{box:ByteArray}{v':Value}(hq:OpenQ G T k y box v' G'){lo:Nat}(hl:lo≤G.length){u:ByteArray}{ks:List (List Int)}{b:Bool}(ho:OpR T k y box u ks b):∃w,v'=.tuple #[.string u,w,.bool b]∧OwnK lo G' w ks:=by
 obtain⟨_,h⟩:=hq
 rcases ho with ⟨e,rfl,rfl,rfl⟩ | ⟨e,rfl⟩
 ·rw [e]at h
  exact⟨_,h,.inl ⟨rfl,rfl⟩⟩
 ·rw [e]at h
  obtain⟨kv,h1,h2⟩:=h
  exact⟨kv,h1,h2.less hl⟩
end
section
attribute [local simp] wb_bool wb_undef with_lit XL_nil XL_cons XLc_val XLc_call step1_eq stepW_t stepW_f stepC_n stepC_s stepX_s stepX_n stepN_s calleeX xrecv oneV xop_eq xopR_s xopR_n wantedA_eq wantedG_n wantedG_s plain1_int plain1_bool plain1_string bits_i64 bits_u64 bits_u32 bits_u16 bits_u8 xeqA xagg xcmp xarr allK_iv num_iv calleeOf xread xeff xbin xint xnil xun xstr xload xconv xpart xfield xfieldAddr xindexAddr xindex bnd asInt? xslice xlen xmin xmax xbuild xfill xappend xapp2 xappstr xappmk xcap xcopy xcells eval_tmp eval_const put_at put_none fr0_at cells_agg cells_int cells_bool cells_string cells_ptr cells_slice notTuple tab iv_all hget_app hget_app0 hget_cons0 hget_cons set_app set_app0 setR setR_one QL_nil QL_cons QLc_val stepQ_t stepQ_f stepQC_n stepQC_s stepQX_s SL_nil SL_cons SLc_val stepS_t stepS_f ltT ltF leT leF eqT eqF ltTn ltFn leTn leFn eqTn eqFn beqT beqF bneT bneF wi64 wu64 wu32 wu16 wu8 tmodP tdivP hgetL hgetNe hgetEq setL nums_def nums_len Nat.succ_le_of_lt List.getElem?_cons_zero List.getElem?_cons_succ Option.getD_some Int.toNat_add Int.toNat_mul agM okM agB agI agS agP agL agA okB okI okS okP okSl okA nt_strG nt_boolG nt_aggG nt_intG nt_ptrG nt_slG thenQ_ret scopeQ_ret inBlockQ_ret RQ resL resV
section
structure CookD where
 kind:Int
 n:Int
 text:ByteArray
 keys:List Int
 raw:List Int
structure CookD.Wf (x:CookD):Prop where
 kind:I64 x.kind
 n:I64 x.n
 text:x.text.size≤maxLen
 keys:∀z∈x.keys,I64 z
 klen:x.keys.length≤maxLen
 raw:Key32 x.raw
def CookD.row(x:CookD):List CD:=[CD.int .i64 x.kind,.int .i64 x.n,.str x.text]++(CD.sl (x.keys.map fun z=>[.int .i64 z])::kd x.raw)
def cookK:List CK:=[CK.int .i64,.int .i64,.str]++(CK.sl [.int .i64]::keyK)
theorem cook_of{ds:List CD}(h:OkL cookK ds):∃x:CookD,ds=x.row∧x.Wf:=by
 obtain⟨a,r,rfl,h1,h2⟩:=OkL.split h
 obtain⟨d1,r11,rfl,o11,g1⟩:=h1.cons
 obtain⟨ki,rfl,w1⟩:=ok_int o11
 obtain⟨d2,r12,rfl,o12,g2⟩:=g1.cons
 obtain⟨ai,rfl,w2⟩:=ok_int o12
 obtain⟨d3,r13,rfl,o13,g3⟩:=g2.cons
 obtain⟨s,rfl,w3⟩:=ok_str o13
 obtain rfl:=g3.nil
 obtain⟨d,r3,rfl,o2,h7⟩:=h2.cons
 obtain⟨zs,rfl,hz,hl⟩:=ok_ints o2
 obtain⟨k,rfl,hk⟩:=key_of h7
 exact⟨⟨ki,ai,s,zs,k⟩,rfl,wf_i64 w1,wf_i64 w2,w3,fun z hm=>wf_i64 (hz z hm),hl,hk⟩
theorem cooks_of{d:CD}(h:CD.Ok (.sl cookK) d):∃l:List CookD,d=.sl (l.map CookD.row)∧(∀x∈l,x.Wf)∧l.length≤maxLen:=by
 obtain⟨rows,rfl,hm,hr⟩:=ok_sl h
 obtain⟨l,rfl,hl⟩:=rows_of (f:=CookD.row) (R:=CookD.Wf) rows (fun row hrow=>cook_of (hr row hrow))
 exact⟨l,rfl,hl,by simpa using hm⟩
structure CkC (H:AH) (C:List Value) (x:CookD) (kv:Value):Prop where
 len:C.length=36
 c0:C[0]?=some (.int .i64 x.kind)
 c1:C[1]?=some (.int .i64 x.n)
 c2:C[2]?=some (.string x.text)
 c3:C[3]?=some kv
 raw:(C.drop 4).take 32=iv .u8 x.raw
 kv:InV H kv x.keys
theorem CkC.low{H G:AH}{C:List Value}{x:CookD}{kv:Value}(h:CkC H C x kv)(lw:Low H.length H G):CkC G C x kv:=⟨h.len,h.c0,h.c1,h.c2,h.c3,h.raw,CD.Val.low (fun j hj=>lw.1 j hj) h.kv⟩
theorem cook_c{H:AH}{x:CookD}(hw:x.Wf){us:List Value}(h:ValL H x.row us):∃kv,CkC H us x kv:=by
 obtain⟨a,r,rfl,h1,h2⟩:=ValL.split h
 obtain⟨u0,r0,rfl,v0,n0⟩:=h1.cons
 obtain⟨u1,r1,rfl,v1,n1⟩:=n0.cons
 obtain⟨u2,r2,rfl,v2,n2⟩:=n1.cons
 obtain rfl:=n2.nil
 obtain⟨u3,r4,rfl,v3,n3⟩:=h2.cons
 obtain rfl:=n3.key
 rw [val_int v0,val_int v1,val_str v2]
 have lr:=hw.raw.1
 refine⟨u3,?_,rfl,rfl,rfl,rfl,?_,v3⟩
 ·simp [lr]
 ·show ((iv .u8 x.raw).take 32)=_
  rw [tkL (by simp [lr])]
def CkV(H:AH)(v:Value)(l:List CookD):Prop:=CD.Val H (.sl (l.map CookD.row)) v
theorem CkV.acc{H:AH}{v:Value}{l:List CookD}(h:CkV H v l)(hl:∀x∈l,x.Wf):Acc H 22 43 v l.length (fun i x=>∃us y kv,x=.agg us.toArray∧l[i]?=some y∧CkC H us y kv):=by
 refine⟨(val_nt h).1,(val_nt h).2,?_,fun i hi=>?_⟩
 ·have:=val_len (P:=Tryd.prog) (t := 22) (e := 43) h (by kernel_rfl)
  rw [List.length_map]at this
  exact this
 ·obtain⟨z,hz⟩:∃z,l[i]?=some z:=⟨_,geE hi⟩
  have hzw:=hl z (moG hz)
  obtain⟨j,b,us,hv,hb,hle,hx,hus,hul,hle2,hc,hval⟩:=val_at (P:=Tryd.prog) (t := 22) (e := 43) (sz:=36) h (by kernel_rfl) (by kernel_rfl) (by omega) (fun row hr=>by
   obtain⟨y,hy,rfl⟩:=List.mem_map.1 hr
   have h1:=(hl y hy).raw.1
   simp [CookD.row,kd,h1]) (i:=i) (row:=z.row) (by rw [gmP,hz];rfl)
  obtain⟨kv,hcc⟩:=cook_c hzw hval
  refine⟨_,.agg us.toArray,rfl,hx,rfl,⟨us,z,kv,rfl,hz,hcc⟩,fun G hg=>?_⟩
  have hbG:hget G j=some b:=(hg.1 j (hget_lt hb)).trans hb
  exact load_at (P:=Tryd.prog) (e := 43) (i:=i) hbG (by kernel_rfl) (by omega) (by kernel_rfl) hus hle2
theorem CkC.loads{H G:AH}{C:List Value}{x:CookD}{kv:Value}(h:CkC H C x kv)(hx:x.Wf){n:Nat}(hn:hget G n=some ⟨C, 43,none⟩) :
  xload Tryd.prog 3 (.pointer (some ⟨n,0,none⟩)) G=some (.int .i64 x.kind)∧xload Tryd.prog 3 (.pointer (some ⟨n,1,none⟩)) G=some (.int .i64 x.n)∧xload Tryd.prog 9 (.pointer (some ⟨n,2,none⟩)) G=some (.string x.text) ∧
  xload Tryd.prog 39 (.pointer (some ⟨n,3,none⟩)) G=some kv∧xload Tryd.prog 41 (.pointer (some ⟨n,4,none⟩)) G=some (.agg (iv .u8 x.raw).toArray)∧xload Tryd.prog 43 (.pointer (some ⟨n,0,none⟩)) G=some (.agg C.toArray):=by
 have c0:=h.c0
 have c1:=h.c1
 have c2:=h.c2
 have c3:=h.c3
 have cr:=h.raw
 have cl:=h.len
 have ht:C.take 36=C:=tkL (by omega)
 have lr:=hx.raw.1
 refine⟨by simp [xload,hn,c0],by simp [xload,hn,c1],by simp [xload,hn,c2],by simp [xload,hn,c3],?_,by simp [xload,hn,cl,ht]⟩
 simp [xload,hn,cr,cl]
def inR(m:Nat)(l:List Int):Bool:=l.all fun i=>decide (0≤i∧i<m)
def pickL(made:List (List Int))(l:List Int):List (List Int):=l.map fun i=>made.getD i.toNat []
def needN(k:Int):Nat:=if k=4 then 1 else if k=5∨k=6 then 2 else if k=7 then 3 else 0
def foeS:ByteArray:=⟨#[102,111,101,32]⟩
def ckT(T:List TermD)(ks:List (List Int))(c:CookD):TermD:=
 if c.kind=2 then ⟨1,foeS++c.text,[]⟩ else if c.kind=3 then ⟨2,c.text,ks⟩ else if c.kind=4 then ⟨3,⟨#[]⟩,[ks.getD 0 []]⟩ else if c.kind=5 then agreeT T (ks.getD 0 []) (ks.getD 1 []) else ⟨6,c.text,ks.getD 0 []::ks.getD 1 []::ks.drop 2⟩
def openK:Option (ByteArray×List (List Int))→List (List Int)
 | some p=>p.2
 | none=>[]
def cookM(T:List TermD)(seen ks:List (List Int))(c:CookD):List TermD×List (List Int):=
 if c.kind=1 then (T,if 0≤c.n∧c.n<seen.length then [seen.getD c.n.toNat []] else [])
 else if c.kind=2∨c.kind=3∨c.kind=4∨c.kind=6 then (addT (ckT T ks c) T,[nmL (nameT (ckT T ks c) T:Nat)])
 else if c.kind=5 then (if ks.getD 1 []=zl 32 then (T,[]) else (addT (ckT T ks c) T,[nmL (nameT (ckT T ks c) T:Nat)]))
 else if c.kind=7 then (T,openK (openT T (ks.getD 0 []) (ks.getD 1 []) (strOfNums (ks.getD 2 []))))
 else if c.kind=8 then (T,if nmL (plN c.raw)=c.raw then [] else [c.raw])
 else (T,[])
def moreM(T:List TermD)(seen made:List (List Int))(c:CookD):List TermD×List (List Int):=
 if inR made.length c.keys=true∧needN c.kind≤c.keys.length then ((cookM T seen (pickL made c.keys) c).1,made++(cookM T seen (pickL made c.keys) c).2) else (T,made)
def makeM(seen:List (List Int)):List CookD→List TermD×List (List Int)→List TermD×List (List Int)
 | [],s=>s
 | c::l,s=>makeM seen l (moreM s.1 seen s.2 c)
theorem makeM_snoc(seen:List (List Int))(c:CookD):∀ (l:List CookD) (s:List TermD×List (List Int)),makeM seen (l++[c]) s=moreM (makeM seen l s).1 seen (makeM seen l s).2 c
 | [],s=>rfl
 | d::l,s=>makeM_snoc seen c l _
theorem makeM_take{seen:List (List Int)}{c:CookD}{l:List CookD}{i:Nat}(h:l[i]?=some c)(s:List TermD×List (List Int)):makeM seen (l.take (i+1)) s=moreM (makeM seen (l.take i) s).1 seen (makeM seen (l.take i) s).2 c:=by
 rw [List.take_add_one,h]
 exact makeM_snoc seen c _ s
theorem pickL_len(made:List (List Int))(l:List Int):(pickL made l).length=l.length:=List.length_map _
theorem pickL_mem{made:List (List Int)}{l:List Int}(h:inR made.length l=true):∀k∈pickL made l,k∈made:=fun k hk=>by
 obtain⟨i,hi,rfl⟩:=List.mem_map.1 hk
 have h1:=of_decide_eq_true (alT.1 h i hi)
 rw [gdD,geE (by omega:i.toNat<made.length)]
 exact List.getElem_mem _
end
section
def PickQ(H:AH)(made:List (List Int))(c:CookD)(v':Value)(H':AH):Prop:=
 Low H.length H H'∧∃kv,v'=.tuple #[kv,.bool (inR made.length c.keys&&decide (needN c.kind≤c.keys.length))]∧notTuple kv=true∧kv.cells=#[kv]∧(inR made.length c.keys=true→∃Fk,OwnF H' kv 41 32 (kr (pickL made c.keys)) Fk∧∀j∈Fk,H.length≤j)
theorem inR_take{m:Nat}{l:List Int}{i:Nat}{z:Int}(h:l[i]?=some z):inR m (l.take (i+1))=(inR m (l.take i)&&decide (0≤z∧z<m)):=by
 unfold inR
 rw [List.take_add_one,h,List.all_append]
 simp
theorem inR_no{m:Nat}{l:List Int}{i:Nat}{z:Int}(h:l[i]?=some z)(hz:¬ (0≤z∧z<m)):inR m l=false:=by
 rw [Bool.eq_false_iff]
 intro e
 exact hz (of_decide_eq_true (alT.1 e z (moG h)))
theorem needs_vc{k:Int}(hk:I64 k):VC Tryd.prog 52 #[.int .i64 k] (.int .i64 (needN k:Nat)):=by
 refine vc_of_ac (by simp [pv_iv,pv_int,pv_bool,pv_string,pv_tup2,pv_tup3,iv_plain,p2_int,p2_bool,p2_string]) (by simp [pv_iv,pv_int,pv_bool,pv_string,pv_tup2,pv_tup3,iv_plain,p2_int,p2_bool,p2_string]) ?_
 unfold needN
 refine ac_of_aw Tryd.func52 rfl Tryd.ntmps52 Tryd.results52 (by simp) ?_
 (refine aso fun K hK=>?_;simp (disch:=first|omega|simp only [lnS];try omega) [-getElem?_pos,-getElem?_neg];refine hK _ _ ?_;clear hK K)
 refine aw_seq (aw_seq ?_)
 (refine aoo fun K hK=>?_;simp (disch:=first|omega|simp only [lnS];try omega) [-getElem?_pos,-getElem?_neg];refine hK _ _ ?_;clear hK K)
 refine aw_block ?_
 refine aw_seq ?_
 by_cases h4:k=4
 ·subst h4
  (refine aoo fun K hK=>?_;simp (disch:=first|omega|simp only [lnS];try omega) [-getElem?_pos,-getElem?_neg];refine hK _ _ ?_;clear hK K)
  refine awt (by simp<;>omega) ?_
  (refine aso fun K hK=>?_;simp (disch:=first|omega|simp only [lnS];try omega) [-getElem?_pos,-getElem?_neg];refine hK _ _ ?_;clear hK K)
  (refine aw_ret ?_;simp (disch:=first|omega|simp only [lnS];try omega) [-getElem?_pos,-getElem?_neg])
 (refine aoo fun K hK=>?_;simp (disch:=first|omega|simp only [lnS];try omega) [-getElem?_pos,-getElem?_neg,h4];refine hK _ _ ?_;clear hK K)
 refine awf (by simp<;>omega) ?_
 refine aw_seq (aw_seq ?_)
 by_cases h5:k=5
 ·subst h5
  (refine aoo fun K hK=>?_;simp (disch:=first|omega|simp only [lnS];try omega) [-getElem?_pos,-getElem?_neg];refine hK _ _ ?_;clear hK K)
  refine awt (by simp<;>omega) ?_
  refine aw_skip ?_
  refine awt (by simp<;>omega) ?_
  (refine aso fun K hK=>?_;simp (disch:=first|omega|simp only [lnS];try omega) [-getElem?_pos,-getElem?_neg];refine hK _ _ ?_;clear hK K)
  (refine aw_ret ?_;simp (disch:=first|omega|simp only [lnS];try omega) [-getElem?_pos,-getElem?_neg])
 (refine aoo fun K hK=>?_;simp (disch:=first|omega|simp only [lnS];try omega) [-getElem?_pos,-getElem?_neg,h5];refine hK _ _ ?_;clear hK K)
 refine awf (by simp<;>omega) ?_
 by_cases h6:k=6
 ·subst h6
  (refine aoo fun K hK=>?_;simp (disch:=first|omega|simp only [lnS];try omega) [-getElem?_pos,-getElem?_neg];refine hK _ _ ?_;clear hK K)
  refine awt (by simp<;>omega) ?_
  (refine aso fun K hK=>?_;simp (disch:=first|omega|simp only [lnS];try omega) [-getElem?_pos,-getElem?_neg];refine hK _ _ ?_;clear hK K)
  (refine aw_ret ?_;simp (disch:=first|omega|simp only [lnS];try omega) [-getElem?_pos,-getElem?_neg])
 (refine aoo fun K hK=>?_;simp (disch:=first|omega|simp only [lnS];try omega) [-getElem?_pos,-getElem?_neg,h6];refine hK _ _ ?_;clear hK K)
 refine awf (by simp<;>omega) ?_
 refine aw_seq ?_
 by_cases h7:k=7
 ·subst h7
  (refine aoo fun K hK=>?_;simp (disch:=first|omega|simp only [lnS];try omega) [-getElem?_pos,-getElem?_neg];refine hK _ _ ?_;clear hK K)
  refine awt (by simp<;>omega) ?_
  (refine aso fun K hK=>?_;simp (disch:=first|omega|simp only [lnS];try omega) [-getElem?_pos,-getElem?_neg];refine hK _ _ ?_;clear hK K)
  (refine aw_ret ?_;simp (disch:=first|omega|simp only [lnS];try omega) [-getElem?_pos,-getElem?_neg])
 (refine aoo fun K hK=>?_;simp (disch:=first|omega|simp only [lnS];try omega) [-getElem?_pos,-getElem?_neg,h7];refine hK _ _ ?_;clear hK K)
 refine awf (by simp<;>omega) ?_
 refine aw_skip (aw_seq ?_)
 (refine aoo fun K hK=>?_;simp (disch:=first|omega|simp only [lnS];try omega) [-getElem?_pos,-getElem?_neg];refine hK _ _ ?_;clear hK K)
 (refine aw_ret ?_;simp (disch:=first|omega|simp only [lnS];try omega) [-getElem?_pos,-getElem?_neg,h4,h5,h6,h7])
theorem picked_ac{nro:Nat}{γ:Nat→Option Nat}{H:AH}(hnH:nro≤H.length){mv:Value}{made:List (List Int)}(hmv:KsV H mv made)(hk:∀k∈made,k.length=32)(hm:made.length≤1000000){C:List Value}{x:CookD}{sv:Value}(hc:CkC H C x sv)(hx:x.Wf)(hxm:x.keys.length≤1000) :
  AC Tryd.prog nro γ 31 #[mv,.agg C.toArray] H (PickQ H made x):=by
 have cl:=hc.len
 have hacc:=hc.kv.acc
 obtain⟨hnt,hvc,hxl,hat2⟩:=hacc
 have hmac:=hmv.acc hk
 obtain⟨mnt,mvc,mxl,mat2⟩:=hmac
 have hkm:x.keys.length≤9223372036854775807:=by have:=hx.klen;simp only [maxLen]at this;omega
 have hnd:=needs_vc hx.kind
 obtain⟨B,hB⟩:∃B:AH,B=H++[some ⟨C, 43,none⟩]:=⟨_,rfl⟩
 have gC:hget B H.length=some ⟨C, 43,none⟩:=by rw [hB,hget_app0];rfl
 have hBl:B.length=H.length+1:=by rw [hB];simp
 have lwB:Low H.length H B:=by rw [hB];exact Low.push (nlE _) _
 obtain⟨_,_,_,ldk,_,_⟩:=hc.loads hx gC
 refine ac_of_aw Tryd.func31 rfl Tryd.ntmps31 Tryd.results31 (by simp) ?_
 (refine aso fun K hK=>?_;simp (disch:=first|omega|simp only [lnS];try omega) [-getElem?_pos,-getElem?_neg,cl];refine hK _ _ ?_;clear hK K)
 rw [←hB]
 clear hB
 (refine aso fun K hK=>?_;simp (disch:=first|omega|simp only [lnS];try omega) [-getElem?_pos,-getElem?_neg];refine hK _ _ ?_;clear hK K)
 refine aw_seq (aw_seq ?_)
 (refine aoo fun K hK=>?_;simp (disch:=first|omega|simp only [lnS];try omega) [-getElem?_pos,-getElem?_neg,-xload,ldk,-notTuple,hnt,-xlen,hxl];refine hK _ _ ?_;clear hK K)
 refine aw_block ?_
 refine aw_loop (fun q α G=>∃ (i:Nat) (out:Value) (Fo:List Nat),i+q=x.keys.length∧α 0=mv∧α 3=.pointer (some ⟨H.length,0,none⟩)∧α 6=out∧α 10=sv∧α 11=.int .i64 (x.keys.length:Nat)∧α 12=.int .i64 (i:Nat)∧inR made.length (x.keys.take i)=true∧Low B.length B G∧OwnF G out 41 32 (kr (pickL made (x.keys.take i))) Fo∧∀j∈Fo,B.length≤j) x.keys.length ?_ ?_
 ·exact⟨0,.slice none 0 0,[],by omega,by (first|simp;done|rfl),by (first|simp;done|rfl),by (first|simp;done|rfl),by (first|simp;done|rfl),by (first|simp;done|rfl),by (first|simp;done|rfl),rfl,Low.refl (nlE _),.inl ⟨rfl,rfl,rfl⟩,fun j hj=>by cases hj⟩
 rintro q α G ⟨i,out,Fo,hiq,e0,e3,e6,e10,e11,e12,hin,lwG,ho,hFo⟩
 have hGl:=lwG.2
 have lwH:Low H.length H G:=⟨fun j hj=>(lwG.1 j (by omega)).trans (lwB.1 j hj),by omega⟩
 have gG:=(lwG.1 _ (hget_lt gC)).trans gC
 obtain⟨ld0,_,_,_,_,_⟩:=hc.loads hx gG
 have hto:=ownF_nt ho
 refine aw_seq ?_
 by_cases hi:i<x.keys.length
 ·have hi':(i:Int)<x.keys.length:=by omega
  obtain⟨qa,y,q1,q2,q3,rfl,q4⟩:=hat2 i hi
  have q5:=q4 G lwH
  have hgz:x.keys[i]?=some (x.keys.getD i 0):=by rw [gdD,geE hi];rfl
  have hzI:=hx.keys _ (moG hgz)
  have htk:=inR_take (m:=made.length) hgz
  have hno:=inR_no (m:=made.length) hgz
  have hpk:pickL made (x.keys.take (i+1))=pickL made (x.keys.take i)++[made.getD (x.keys.getD i 0).toNat []]:=by
   unfold pickL
   rw [List.take_add_one,hgz,List.map_append];rfl
  generalize x.keys.getD i 0=z at *
  (refine aoo fun K hK=>?_;simp (disch:=first|omega|simp only [lnS];try omega) [-getElem?_pos,-getElem?_neg,e11,e12,hi'];refine hK _ _ ?_;clear hK K)
  refine aw_seq ?_
  refine awt (by simp<;>omega) ?_
  refine aw_skip (aw_seq ?_)
  refine aw_block ?_
  (refine aso fun K hK=>?_;simp (disch:=first|omega|simp only [lnS];try omega) [-getElem?_pos,-getElem?_neg,e10,e12,-xload,q5,-notTuple,hnt,q1,q3,-xindexAddr,q2];refine hK _ _ ?_;clear hK K)
  refine aw_seq (aw_seq ?_)
  by_cases hz0:z<0
  ·have hf:=hno (by omega)
   (refine aoo fun K hK=>?_;simp (disch:=first|omega|simp only [lnS];try omega) [-getElem?_pos,-getElem?_neg,hz0];refine hK _ _ ?_;clear hK K)
   refine awt (by simp<;>omega) ?_
   (refine aso fun K hK=>?_;simp (disch:=first|omega|simp only [lnS];try omega) [-getElem?_pos,-getElem?_neg];refine hK _ _ ?_;clear hK K)
   (refine aw_ret ?_;simp (disch:=first|omega|simp only [lnS];try omega) [-getElem?_pos,-getElem?_neg])
   exact⟨lwH,.slice none 0 0,by rw [hf];rfl,rfl,rfl,fun e=>by rw [hf]at e;cases e⟩
  ·by_cases hzm:z<made.length
   ·have hz1:0≤z∧z<made.length:=by omega
    obtain⟨w,rfl⟩:=Int.eq_ofNat_of_zero_le hz1.1
    have hw:w<made.length:=by omega
    obtain⟨qm,ym,m1,m2,m3,rfl,m4⟩:=mat2 w hw
    have m5:=m4 G lwH
    have hY32:(made.getD w []).length=32:=hk _ (by rw [gdD,geE hw];exact List.getElem_mem _)
    rw [show ((w:Nat):Int).toNat=w from rfl]at hpk
    generalize made.getD w []=Y at *
    have hK32:K32 (pickL made (x.keys.take i)):=fun k hk2=>hk k (pickL_mem hin k hk2)
    have hkl:(pickL made (x.keys.take i)).length=i:=by rw [pickL_len,List.length_take];omega
    have hkr:=kr_len hK32
    rw [hkl]at hkr
    have hrow1:setR (List.map (fun j=>(iv .u8 (zl 32))[j%32]?.getD undef) (List.range 32)) 0 (iv .u8 Y)=iv .u8 Y:=setR_all _ _ (by simp [hY32])
    have htY:(iv .u8 Y).take 32=iv .u8 Y:=tkL (by simp [hY32])
    have hxc:xcells 32 (.slice (some ⟨G.length,0,none⟩) 1 1) (G++[some ⟨iv .u8 Y, 41,some 32⟩])=some (iv .u8 Y):=by
     simp [xcells,hget_app0,hY32,htY]
    obtain⟨v1,G1,F1,hap,ho1,hl1,hk1,hF1⟩:=ownF_appQ (P:=Tryd.prog) (nro:=nro) (t := 34) (e := 41) (H:=G++[some ⟨iv .u8 Y, 41,some 32⟩]) (v:=out) (x:=.slice (some ⟨G.length,0,none⟩) 1 1) (sz:=32) (cells:=kr (pickL made (x.keys.take i))) (news:=iv .u8 Y) (F:=Fo) (by kernel_rfl) (by kernel_rfl) (by omega) (by kernel_rfl)
     (ho.low (fun j hj=>hget_left (ho.lt j hj))) (fun j hj=>by have:=hFo j hj;omega) (fun s e=>by cases e) hxc (by simp [hY32]) (by rw [hkr,show byt Tryd.prog 41 = 32 by kernel_rfl];simp [hY32];omega) (by rw [hkr];simp [hY32,maxLen];omega)
    have n1:=ownF_nt ho1
    have hl1':G.length+1≤G1.length:=by simpa using hl1
    have hz0':¬ (w:Int)<0:=hz0
    have hzg:¬ (made.length:Int)≤w:=by omega
    (refine aoo fun K hK=>?_;simp (disch:=first|omega|simp only [lnS];try omega) [-getElem?_pos,-getElem?_neg,e0,hz0',hzm,hzg,-notTuple,mnt,-xlen,mxl];refine hK _ _ ?_;clear hK K)
    refine awf (by simp<;>omega) ?_
    refine aw_skip ?_
    (refine aoo fun K hK=>?_;simp (disch:=first|omega|simp only [lnS];try omega) [-getElem?_pos,-getElem?_neg,e0,e6,-xload,m5,-notTuple,mnt,m1,m3,hto.1,-xindexAddr,m2,hrow1,hY32,htY,n1.1,n1.2,-xappend,hap];refine hK _ _ ?_;clear hK K)
    (refine aoo fun K hK=>?_;simp (disch:=first|omega|simp only [lnS];try omega) [-getElem?_pos,-getElem?_neg,e12];refine hK _ _ ?_;clear hK K)
    refine⟨q-1,by omega,i+1,v1,F1,by omega,by (first|simp [e0];done|rfl),by (first|simp [e3];done|rfl),by (first|simp;done|rfl),by (first|simp [e10];done|rfl),by (first|simp [e11];done|rfl),by (first|simp;done|rfl),by rw [htk,hin];exact decide_eq_true hz1,⟨fun j hj=>?_,by omega⟩,?_,fun j hj=>?_⟩
    ·rw [hk1 j (by simp;omega) (fun e=>by have:=hFo j e;omega),hget_left (by omega)]
     exact lwG.1 j hj
    ·rw [hpk,kr_app,kr_one]
     exact ho1
    ·have:=hF1 j hj
     simp at this
     omega
   ·have hf:=hno (by omega)
    have hzg:(made.length:Int)≤z:=by omega
    (refine aoo fun K hK=>?_;simp (disch:=first|omega|simp only [lnS];try omega) [-getElem?_pos,-getElem?_neg,e0,hz0,hzm,hzg,-notTuple,mnt,-xlen,mxl];refine hK _ _ ?_;clear hK K)
    refine awt (by simp<;>omega) ?_
    (refine aso fun K hK=>?_;simp (disch:=first|omega|simp only [lnS];try omega) [-getElem?_pos,-getElem?_neg];refine hK _ _ ?_;clear hK K)
    (refine aw_ret ?_;simp (disch:=first|omega|simp only [lnS];try omega) [-getElem?_pos,-getElem?_neg])
    exact⟨lwH,.slice none 0 0,by rw [hf];rfl,rfl,rfl,fun e=>by rw [hf]at e;cases e⟩
 ·obtain rfl:i=x.keys.length:=by omega
  rw [tkL (nlE _)]at ho hin
  have hkl:=pickL_len made x.keys
  have hxo:=ho.len (P:=Tryd.prog) (t := 34) (n:=x.keys.length) (by kernel_rfl) (by rw [kr_len (fun k hk2=>hk k (pickL_mem hin k hk2)),hkl]) (by decide)
  (refine aoo fun K hK=>?_;simp (disch:=first|omega|simp only [lnS];try omega) [-getElem?_pos,-getElem?_neg,e11,e12];refine hK _ _ ?_;clear hK K)
  refine aw_seq ?_
  refine awf (by simp<;>omega) ?_
  refine aw_exit (aw_seq ?_)
  refine aoo fun K hK=>?_
  simp (disch:=first|omega|simp only [lnS];try omega) [-getElem?_pos,-getElem?_neg,e6,e3,-xload,ld0,-notTuple,hto.1,-xlen,hxo]
  refine⟨by kernel_rfl,ac_of_vc (by simp [pv_iv,pv_int,pv_bool,pv_string,pv_tup2,pv_tup3,iv_plain,p2_int,p2_bool,p2_string]) hnd ?_⟩
  try simp (disch:=first|omega|simp only [lnS];try omega) [-getElem?_pos,-getElem?_neg,e6,-notTuple,hto.1,hto.2]
  refine hK _ _ ?_;clear hK K
  have hdb:decide ((needN x.kind:Int)≤x.keys.length)=decide (needN x.kind≤x.keys.length):=by
   rw [Bool.eq_iff_iff];simp
  have fin:PickQ H made x (.tuple #[out,.bool (decide (needN x.kind≤x.keys.length))]) G:=⟨lwH,out,by rw [hin,Bool.true_and],hto.1,hto.2,fun _=>⟨Fo,ho,fun j hj=>by have:=hFo j hj;omega⟩⟩
  (refine aw_ret ?_;simp (disch:=first|omega|simp only [lnS];try omega) [-getElem?_pos,-getElem?_neg,hto.1,hto.2,-notTuple,hdb])
  exact fin
end
end
section
def KsP(H:AH)(F:List Nat)(v:Value)(ks:List (List Int)):Prop:=∀G:AH,H.length≤G.length→(∀j,j<H.length→j∉F→hget G j=hget H j)→KsV G v ks
theorem KsP.now{H:AH}{F:List Nat}{v:Value}{ks:List (List Int)}(h:KsP H F v ks):KsV H v ks:=h H (nlE _) (fun _ _ _=>rfl)
theorem KsP.fr{H H':AH}{F F':List Nat}{v:Value}{ks:List (List Int)}(h:KsP H F v ks)(f:Fr H H' F F'):KsP H' F' v ks:=fun G hl hg=>h G (Nat.le_trans f.len hl) (fun j hj hn=>by
 rw [hg j (Nat.lt_of_lt_of_le hj f.len) (fun e=>?_),f.out j hj hn]
 rcases f.new j e with e1 | e1
 ·exact hn e1
 ·omega)
theorem KsP.at_{H H':AH}{F F':List Nat}{v:Value}{ks:List (List Int)}(h:KsP H F v ks)(f:Fr H H' F F'):KsV H' v ks:=(h.fr f).now
theorem ownF_ksp{H:AH}{F Fv:List Nat}{v:Value}{ks:List (List Int)}(h:OwnF H v 41 32 (kr ks) Fv)(hk:K32 ks)(hd:∀j∈Fv,j∉F):KsP H F v ks:=fun G hl hg=>kr_ksv (h.low (fun j hj=>hg j (h.lt j hj) (hd j hj))) hk
theorem Fr.push{H G:AH}{F F':List Nat}(h:Fr H G F F')(L:AH):Fr H (G++L) F F':=⟨by have:=h.len;simp;omega,fun j hj hn=>(hget_left (by have:=h.len;omega)).trans (h.out j hj hn),h.new⟩
theorem TermQ.fr{H H':AH}{b:Nat}{F:List Nat}{T:List TermD}{x:TermD}{v':Value}(h:TermQ H b F T x v' H'):v'=.agg (iv .u8 (nmL (nameT x T))).toArray∧∃F',Fr H H' F F'∧Tbl H' b F' (addT x T):=by
 obtain⟨h0,h1,h2,F',h3,h4⟩:=h
 exact⟨h0,F',⟨h1,h2,h4⟩,h3⟩
theorem low_fr{H H':AH}(F:List Nat)(h:Low H.length H H'):Fr H H' F F:=⟨h.2,fun j hj _=>h.1 j hj,fun j hj=>.inl hj⟩
def KsF(lo:Nat)(H:AH)(F:List Nat)(v:Value)(ks:List (List Int)):Prop:=∀G:AH,H.length≤G.length→(∀j,lo≤j→j<H.length→j∉F→hget G j=hget H j)→KsV G v ks
theorem KsF.ksp{lo:Nat}{H:AH}{F:List Nat}{v:Value}{ks:List (List Int)}(h:KsF lo H F v ks):KsP H F v ks:=fun G hl hg=>h G hl (fun j _ hj hn=>hg j hj hn)
theorem KsF.less{lo lo':Nat}{H:AH}{F:List Nat}{v:Value}{ks:List (List Int)}(h:KsF lo H F v ks)(hl:lo'≤lo):KsF lo' H F v ks:=fun G hL hg=>h G hL (fun j hj=>hg j (by omega))
theorem ownK_ksf{lo n:Nat}{H:AH}{F:List Nat}{v:Value}{ks:List (List Int)}(h:OwnK lo H v ks)(hk:K32 ks)(hd:∀j∈F,j<lo)(hn:n≤lo):KsF n H F v ks:=fun G hl hg=>own_ksv (h.low (fun j h1 h2=>hg j (by omega) h2 (fun e=>by have:=hd j e;omega))) hk
def CkQ(H:AH)(b:Nat)(F:List Nat)(T':List TermD)(new:List (List Int))(v':Value)(H':AH):Prop:=∃F',Fr H H' F F'∧Tbl H' b F' T'∧KsF H.length H' F' v' new
theorem ck_one{H G:AH}{b:Nat}{F F':List Nat}{T':List TermD}{N:List Int}(f:Fr H G F F')(t:Tbl G b F' T')(hN:N.length=32):CkQ H b F T' [N] (.slice (some ⟨G.length,0,none⟩) 1 1) (G++[some ⟨iv .u8 N, 41,some 32⟩]):=by
 refine⟨F',f.push _,t.push _,fun D hl hg=>?_⟩
 refine keys1 hN ((hg G.length f.len (by simp) (fun e=>by have:=t.bound _ e;omega)).trans (by rw [hget_app0];rfl))
theorem ck_nil{H G:AH}{b:Nat}{F F':List Nat}{T':List TermD}(f:Fr H G F F')(t:Tbl G b F' T'):CkQ H b F T' [] (.slice none 0 0) G:=⟨F',f,t,fun G _ _=>ks_nil G⟩
theorem KsP.nt{H:AH}{F:List Nat}{v:Value}{ks:List (List Int)}(h:KsP H F v ks):notTuple v=true∧v.cells=#[v]:=val_nt h.now
@[reducible] def CP (B:AH) (b:Nat) (F:List Nat) (T T1:List TermD) (N:List Int) (s:Array Bool) (α:Fm) (G:AH):Prop:=
 ∃Fc,Fr B G F Fc∧Tbl G b Fc (if s.getD 8 false=true then T1 else T)∧(s.getD 12 false=true→∃r,α 9=.pointer (some ⟨r,0,none⟩)∧B.length≤r∧r∉Fc∧hget G r=some ⟨iv .u8 (if s.getD 13 false=true then N else zl 32), 41,none⟩)
theorem CP.keep{B:AH}{b:Nat}{F:List Nat}{T T1:List TermD}{N:List Int}{s:Array Bool}{α:Fm}{G:AH}{i t:Nat}{v:Value}(hi:i∉[8,12,13])(ht:t≠9)(h:CP B b F T T1 N s α G):CP B b F T T1 N (s.setIfInBounds i true) (α.put (some t) v) G:=by
 simp only [mcN,not_or]at hi
 obtain⟨Fc,w1,w2,w3⟩:=h
 refine⟨Fc,w1,by rw [gs_ne hi.1];exact w2,fun a=>?_⟩
 rw [gs_ne hi.2.1]at a
 rw [gs_ne hi.2.2]
 obtain⟨r,x1,x2⟩:=w3 a
 exact⟨r,by simpa [put_at,Ne.symm ht] using x1,x2⟩
theorem sealP_ac{nro:Nat}{γ:Nat→Option Nat}{H:AH}(hpw:Pw γ H){b:Nat}{F:List Nat}{T:List TermD}(h:Tbl H b F T)(hnro:∀j∈F,nro≤j)(hnH:nro≤H.length){k y:List Int}(hk:k.length=32)(hy:y.length=32){s:ByteArray}{ks:List (List Int)}(hx:TermD.Wf ⟨6,s,k::y::ks⟩){v:Value}(hP:PartK H H.length v ks)(hT:T.length≤1000000) :
  AC Tryd.prog nro γ 27 #[.pointer (some ⟨b,0,none⟩),.agg (iv .u8 k).toArray,.agg (iv .u8 y).toArray,.string s,v] H (SealQ H b F T ⟨6,s,k::y::ks⟩):=by
 unfold SealQ
 have hFl:=h.bound
 have hv:notTuple v=true∧v.cells=#[v]:=by
  obtain⟨⟨a,c,rfl⟩,_⟩:=hP
  exact⟨rfl,rfl⟩
 have k32:K32 ks:=fun z hz=>hx.k32 z (by simp [hz])
 have hkm:ks.length≤1000000:=by have:=hx.many;simp at this;omega
 have htk:(iv .u8 k).take 32=iv .u8 k:=tkL (by simp [hk])
 have hty:(iv .u8 y).take 32=iv .u8 y:=tkL (by simp [hy])
 have hrow:setR (setR (List.map (fun j=>(iv .u8 (zl 32))[j%32]?.getD undef) (List.range 64)) 0 (iv .u8 k)) 32 (iv .u8 y)=iv .u8 k++iv .u8 y:=row2 (by simp) (by simp [hk]) (by simp [hy])
 obtain⟨N4,hN4⟩:∃N4:AH,N4=[some ⟨iv .u8 k, 41,none⟩,some ⟨iv .u8 y, 41,none⟩,some ⟨iv .u8 k++iv .u8 y, 41,some 32⟩,some ⟨[.slice (some ⟨H.length+2,0,none⟩) 2 2,v], 34,some 1⟩]:=⟨_,rfl⟩
 have g2:hget (H++N4) (H.length+2)=some ⟨iv .u8 k++iv .u8 y, 41,some 32⟩:=by rw [hget_app,hN4];rfl
 have g3:hget (H++N4) (H.length+3)=some ⟨[.slice (some ⟨H.length+2,0,none⟩) 2 2,v], 34,some 1⟩:=by rw [hget_app,hN4];rfl
 have hlN:(H++N4).length=H.length+4:=by rw [hN4];simp
 have hcc:=concatK_ac (nro:=nro) (γ:=γ) (H:=H++N4) (v:=undef) (j:=H.length+3) (xs:=[.slice (some ⟨H.length+2,0,none⟩) 2 2,v]) (L:=[[k,y],ks]) (fun l hl=>by
   simp only [mcN]at hl
   rcases hl with rfl | rfl
   ·intro z hz
    simp only [mcN]at hz
    rcases hz with rfl | rfl
    ·exact hk
    ·exact hy
   ·exact k32) g3 rfl (fun i x c hx1 hc1=>by
   match i,hx1,hc1 with
   | 0,hx1,hc1=>
    cases hx1
    cases hc1
    exact (keys2 hk hy g2).part (fun z hz=>by
     simp only [mcN]at hz
     rcases hz with rfl | rfl
     ·exact hk
     ·exact hy)
   | 1,hx1,hc1=>
    cases hx1
    cases hc1
    exact hP.keep (by simp) (fun j hj=>hget_left hj)
   | i+2,hx1,hc1=>simp at hx1) (by simp [sumK];omega) (by simp) (by omega)
 have hfl:[[k,y],ks].flatten=k::y::ks:=by simp
 rw [hfl]at hcc
 rw [hN4]at hcc
 have r2:List.range 2=[0,1]:=rfl
 have p1:plain1 (.slice none 0 0)=true:=rfl
 refine ac_of_aw Tryd.func27 rfl Tryd.ntmps27 Tryd.results27 (by simp) ?_
 (refine aso fun K hK=>?_;simp (disch:=first | omega | (simp only [lnS];done) | (simp only [lnS];omega)) [wb_bool,wb_undef,with_lit,XL_nil,XL_cons,XLc_val,XLc_call,step1_eq,stepW_t,stepW_f,stepC_n,stepC_s,stepX_s,stepX_n,stepN_s,calleeX,xrecv,oneV,xop_eq,xopR_s,xopR_n,wantedA_eq,wantedG_n,wantedG_s,plain1_int,plain1_bool,plain1_string,bits_i64,bits_u64,bits_u32,bits_u16,bits_u8,xeqA,xagg,xcmp,xarr,allK_iv,num_iv,calleeOf,xread,xeff,xbin,xint,xnil,xun,xstr,xload,xconv,xpart,xfield,xfieldAddr,xindexAddr,xindex,bnd,asInt?,xslice,xlen,xmin,xmax,xbuild,xfill,xappend,xapp2,xappstr,xappmk,xcap,xcopy,xcells,eval_tmp,eval_const,put_at,put_none,fr0_at,cells_agg,cells_int,cells_bool,cells_string,cells_ptr,cells_slice,notTuple,tab,iv_all,hget_app,hget_app0,hget_cons0,hget_cons,set_app,set_app0,setR,setR_one,QL_nil,QL_cons,QLc_val,stepQ_t,stepQ_f,stepQC_n,stepQC_s,stepQX_s,SL_nil,SL_cons,SLc_val,stepS_t,stepS_f,htk,hty,ltT,ltF,leT,leF,eqT,eqF,ltTn,ltFn,leTn,leFn,eqTn,eqFn,beqT,beqF,bneT,bneF,wi64,wu64,wu32,wu16,wu8,tmodP,tdivP,hgetL,hgetNe,hgetEq,setL,nums_def,nums_len,Nat.succ_le_of_lt,gcS,Option.getD_some,-getElem?_pos,-getElem?_neg,Int.toNat_add,Int.toNat_mul,agM,okM,agB,agI,agS,agP,agL,agA,okB,okI,okS,okP,okSl,okA];refine hK _ _ ?_;clear hK K)
 refine aso fun K hK=>?_
 simp (disch:=first | omega | (simp only [lnS];done) | (simp only [lnS];omega)) [wb_bool,wb_undef,with_lit,XL_nil,XL_cons,XLc_val,XLc_call,step1_eq,stepW_t,stepW_f,stepC_n,stepC_s,stepX_s,stepX_n,stepN_s,calleeX,xrecv,oneV,xop_eq,xopR_s,xopR_n,wantedA_eq,wantedG_n,wantedG_s,plain1_int,plain1_bool,plain1_string,bits_i64,bits_u64,bits_u32,bits_u16,bits_u8,xeqA,xagg,xcmp,xarr,allK_iv,num_iv,calleeOf,xread,xeff,xbin,xint,xnil,xun,xstr,xload,xconv,xpart,xfield,xfieldAddr,xindexAddr,xindex,bnd,asInt?,xslice,xlen,xmin,xmax,xbuild,xfill,xappend,xapp2,xappstr,xappmk,xcap,xcopy,xcells,eval_tmp,eval_const,put_at,put_none,fr0_at,cells_agg,cells_int,cells_bool,cells_string,cells_ptr,cells_slice,tab,iv_all,hget_app,hget_app0,hget_cons0,hget_cons,set_app,set_app0,setR,setR_one,QL_nil,QL_cons,QLc_val,stepQ_t,stepQ_f,stepQC_n,stepQC_s,stepQX_s,SL_nil,SL_cons,SLc_val,stepS_t,stepS_f,htk,hty,hrow,r2,p1,hv.1,hv.2,nt_aggG,nt_slG,ltT,ltF,leT,leF,eqT,eqF,ltTn,ltFn,leTn,leFn,eqTn,eqFn,beqT,beqF,bneT,bneF,wi64,wu64,wu32,wu16,wu8,tmodP,tdivP,hgetL,hgetNe,hgetEq,setL,nums_def,nums_len,Nat.succ_le_of_lt,gcS,Option.getD_some,-getElem?_pos,-getElem?_neg,Int.toNat_add,Int.toNat_mul,agM,okM,agB,agI,agS,agP,agL,agA,okB,okI,okS,okP,okSl,okA]
 refine⟨by kernel_rfl,AC.mono hcc ?_⟩
 rintro v1 G ⟨ho,hlG,hkG⟩
 rw [←hN4]at ho hlG hkG
 have lwG:Low H.length H G:=⟨fun j hj=>(hkG j (by omega)).trans (hget_left hj),by omega⟩
 have hvn:=ho.nt
 have htm:=term_ac (nro:=nro) (γ:=γ) (hpw.low lwG) (h.low (fun j hj=>lwG.1 j (hFl j hj)) lwG.2) hnro (by omega) hx (v:=v1) (fun D hD hj=>by
  have:OwnK (H++N4).length D v1 (k::y::ks):=ho.low (fun j h1 h2=>hj j h2 (fun e=>by have:=hFl j e;omega))
  exact own_ksv this hx.k32) hT
 try simp (disch:=first | omega | (simp only [lnS];done) | (simp only [lnS];omega)) [wb_bool,wb_undef,with_lit,XL_nil,XL_cons,XLc_val,XLc_call,step1_eq,stepW_t,stepW_f,stepC_n,stepC_s,stepX_s,stepX_n,stepN_s,calleeX,xrecv,oneV,xop_eq,xopR_s,xopR_n,wantedA_eq,wantedG_n,wantedG_s,plain1_int,plain1_bool,plain1_string,bits_i64,bits_u64,bits_u32,bits_u16,bits_u8,xeqA,xagg,xcmp,xarr,allK_iv,num_iv,calleeOf,xread,xeff,xbin,xint,xnil,xun,xstr,xload,xconv,xpart,xfield,xfieldAddr,xindexAddr,xindex,bnd,asInt?,xslice,xlen,xmin,xmax,xbuild,xfill,xappend,xapp2,xappstr,xappmk,xcap,xcopy,xcells,eval_tmp,eval_const,put_at,put_none,fr0_at,cells_agg,cells_int,cells_bool,cells_string,cells_ptr,cells_slice,tab,iv_all,hget_app,hget_app0,hget_cons0,hget_cons,set_app,set_app0,setR,setR_one,QL_nil,QL_cons,QLc_val,stepQ_t,stepQ_f,stepQC_n,stepQC_s,stepQX_s,SL_nil,SL_cons,SLc_val,stepS_t,stepS_f,hvn.1,hvn.2,ltT,ltF,leT,leF,eqT,eqF,ltTn,ltFn,leTn,leFn,eqTn,eqFn,beqT,beqF,bneT,bneF,wi64,wu64,wu32,wu16,wu8,tmodP,tdivP,hgetL,hgetNe,hgetEq,setL,nums_def,nums_len,Nat.succ_le_of_lt,gcS,Option.getD_some,-getElem?_pos,-getElem?_neg,Int.toNat_add,Int.toNat_mul,agM,okM,agB,agI,agS,agP,agL,agA,okB,okI,okS,okP,okSl,okA]
 refine⟨by kernel_rfl,AC.mono htm ?_⟩
 intro v2 G3 hQ
 have hl3:H.length≤G3.length:=by have:=hQ.2.1;omega
 have hn3:nro≤G3.length:=by omega
 have hdn:=fun (A:AH)=>hQ.down (A:=A) lwG hFl rfl
 obtain rfl:=hQ.1
 have lN:(nmL (nameT ⟨6,s,k::y::ks⟩ T)).length=32:=rfl
 generalize nmL (nameT ⟨6,s,k::y::ks⟩ T)=N at *
 have ht:(iv .u8 N).take 32=iv .u8 N:=tkL (by simp [lN])
 have hs:setR (iv .u8 (zl 32)) 0 (iv .u8 N)=iv .u8 N:=setR_all _ _ (by simp [lN])
 try simp (disch:=first | omega | (simp only [lnS];done) | (simp only [lnS];omega)) [wb_bool,wb_undef,with_lit,XL_nil,XL_cons,XLc_val,XLc_call,step1_eq,stepW_t,stepW_f,stepC_n,stepC_s,stepX_s,stepX_n,stepN_s,calleeX,xrecv,oneV,xop_eq,xopR_s,xopR_n,wantedA_eq,wantedG_n,wantedG_s,plain1_int,plain1_bool,plain1_string,bits_i64,bits_u64,bits_u32,bits_u16,bits_u8,xeqA,xagg,xcmp,xarr,allK_iv,num_iv,calleeOf,xread,xeff,xbin,xint,xnil,xun,xstr,xload,xconv,xpart,xfield,xfieldAddr,xindexAddr,xindex,bnd,asInt?,xslice,xlen,xmin,xmax,xbuild,xfill,xappend,xapp2,xappstr,xappmk,xcap,xcopy,xcells,eval_tmp,eval_const,put_at,put_none,fr0_at,cells_agg,cells_int,cells_bool,cells_string,cells_ptr,cells_slice,notTuple,tab,iv_all,hget_app,hget_app0,hget_cons0,hget_cons,set_app,set_app0,setR,setR_one,QL_nil,QL_cons,QLc_val,stepQ_t,stepQ_f,stepQC_n,stepQC_s,stepQX_s,SL_nil,SL_cons,SLc_val,stepS_t,stepS_f,hn3,lN,ht,hs,ltT,ltF,leT,leF,eqT,eqF,ltTn,ltFn,leTn,leFn,eqTn,eqFn,beqT,beqF,bneT,bneF,wi64,wu64,wu32,wu16,wu8,tmodP,tdivP,hgetL,hgetNe,hgetEq,setL,nums_def,nums_len,Nat.succ_le_of_lt,gcS,Option.getD_some,-getElem?_pos,-getElem?_neg,Int.toNat_add,Int.toNat_mul,agM,okM,agB,agI,agS,agP,agL,agA,okB,okI,okS,okP,okSl,okA]
 refine hK _ _ ?_;clear hK K
 refine aw_seq ?_
 have hbl:=byteList_iv N
 (refine aoo fun K hK=>?_;simp (disch:=first | omega | (simp only [lnS];done) | (simp only [lnS];omega)) [wb_bool,wb_undef,with_lit,XL_nil,XL_cons,XLc_val,XLc_call,step1_eq,stepW_t,stepW_f,stepC_n,stepC_s,stepX_s,stepX_n,stepN_s,calleeX,xrecv,oneV,xop_eq,xopR_s,xopR_n,wantedA_eq,wantedG_n,wantedG_s,plain1_int,plain1_bool,plain1_string,bits_i64,bits_u64,bits_u32,bits_u16,bits_u8,xeqA,xagg,xcmp,xarr,allK_iv,num_iv,calleeOf,xread,xeff,xbin,xint,xnil,xun,xstr,xload,xconv,xpart,xfield,xfieldAddr,xindexAddr,xindex,bnd,asInt?,xslice,xlen,xmin,xmax,xbuild,xfill,xappend,xapp2,xappstr,xappmk,xcap,xcopy,xcells,eval_tmp,eval_const,put_at,put_none,fr0_at,cells_agg,cells_int,cells_bool,cells_string,cells_ptr,cells_slice,notTuple,tab,iv_all,hget_app,hget_app0,hget_cons0,hget_cons,set_app,set_app0,setR,setR_one,QL_nil,QL_cons,QLc_val,stepQ_t,stepQ_f,stepQC_n,stepQC_s,stepQX_s,SL_nil,SL_cons,SLc_val,stepS_t,stepS_f,lN,ht,hbl,ltT,ltF,leT,leF,eqT,eqF,ltTn,ltFn,leTn,leFn,eqTn,eqFn,beqT,beqF,bneT,bneF,wi64,wu64,wu32,wu16,wu8,tmodP,tdivP,hgetL,hgetNe,hgetEq,setL,nums_def,nums_len,Nat.succ_le_of_lt,gcS,Option.getD_some,-getElem?_pos,-getElem?_neg,Int.toNat_add,Int.toNat_mul,agM,okM,agB,agI,agS,agP,agL,agA,okB,okI,okS,okP,okSl,okA];refine hK _ _ ?_;clear hK K)
 (refine aw_ret ?_;simp (disch:=first | omega | (simp only [lnS];done) | (simp only [lnS];omega)) [wb_bool,wb_undef,with_lit,XL_nil,XL_cons,XLc_val,XLc_call,step1_eq,stepW_t,stepW_f,stepC_n,stepC_s,stepX_s,stepX_n,stepN_s,calleeX,xrecv,oneV,xop_eq,xopR_s,xopR_n,wantedA_eq,wantedG_n,wantedG_s,plain1_int,plain1_bool,plain1_string,bits_i64,bits_u64,bits_u32,bits_u16,bits_u8,xeqA,xagg,xcmp,xarr,allK_iv,num_iv,calleeOf,xread,xeff,xbin,xint,xnil,xun,xstr,xload,xconv,xpart,xfield,xfieldAddr,xindexAddr,xindex,bnd,asInt?,xslice,xlen,xmin,xmax,xbuild,xfill,xappend,xapp2,xappstr,xappmk,xcap,xcopy,xcells,eval_tmp,eval_const,put_at,put_none,fr0_at,cells_agg,cells_int,cells_bool,cells_string,cells_ptr,cells_slice,notTuple,tab,iv_all,hget_app,hget_app0,hget_cons0,hget_cons,set_app,set_app0,setR,setR_one,QL_nil,QL_cons,QLc_val,stepQ_t,stepQ_f,stepQC_n,stepQC_s,stepQX_s,SL_nil,SL_cons,SLc_val,stepS_t,stepS_f,thenQ_ret,scopeQ_ret,inBlockQ_ret,RQ,resL,resV,ltT,ltF,leT,leF,eqT,eqF,ltTn,ltFn,leTn,leFn,eqTn,eqFn,beqT,beqF,bneT,bneF,wi64,wu64,wu32,wu16,wu8,tmodP,tdivP,hgetL,hgetNe,hgetEq,setL,nums_def,nums_len,Nat.succ_le_of_lt,gcS,Option.getD_some,-getElem?_pos,-getElem?_neg,Int.toNat_add,Int.toNat_mul,agM,okM,agB,agI,agS,agP,agL,agA,okB,okI,okS,okP,okSl,okA])
 exact hdn _ (by simp) (fun j hj=>hget_left hj)
end
section
attribute [local simp] wb_bool wb_undef with_lit XL_nil XL_cons XLc_val XLc_call step1_eq stepW_t stepW_f stepC_n stepC_s stepX_s stepX_n stepN_s calleeX xrecv oneV xop_eq xopR_s xopR_n wantedA_eq wantedG_n wantedG_s plain1_int plain1_bool plain1_string bits_i64 bits_u64 bits_u32 bits_u16 bits_u8 xeqA xagg xcmp xarr allK_iv num_iv calleeOf xread xeff xbin xint xnil xun xstr xload xconv xpart xfield xfieldAddr xindexAddr xindex bnd asInt? xslice xlen xmin xmax xbuild xfill xappend xapp2 xappstr xappmk xcap xcopy xcells eval_tmp eval_const put_at put_none fr0_at cells_agg cells_int cells_bool cells_string cells_ptr cells_slice notTuple tab iv_all hget_app hget_app0 hget_cons0 hget_cons set_app set_app0 setR setR_one QL_nil QL_cons QLc_val stepQ_t stepQ_f stepQC_n stepQC_s stepQX_s SL_nil SL_cons SLc_val stepS_t stepS_f ltT ltF leT leF eqT eqF ltTn ltFn leTn leFn eqTn eqFn beqT beqF bneT bneF wi64 wu64 wu32 wu16 wu8 tmodP tdivP hgetL hgetNe hgetEq setL nums_def nums_len Nat.succ_le_of_lt List.getElem?_cons_zero List.getElem?_cons_succ Option.getD_some Int.toNat_add Int.toNat_mul agM okM agB agI agS agP agL agA okB okI okS okP okSl okA nt_strG nt_boolG nt_aggG nt_intG nt_ptrG nt_slG XO_s XO_z XLk_val XLk_call headsO behind List.length_cons List.length_nil List.mem_cons List.not_mem_nil or_false forall_eq_or_imp forall_eq List.contains_cons List.contains_nil XOm thenQ_ret scopeQ_ret inBlockQ_ret RQ resL resV PL_nil plainB_lit PL_cons PLc_val PLc_new stepP_t stepP_f stepPC_n stepPC_s stepPX_s stepPX_n stepPV_n stepPV_s stepPA_t stepPA_c stepPA_l stepPN_s allocOp reloc_sl reloc_ptr
section
theorem maybe_vc{k:List Int}(hk:k.length=32)(hb:By k):VC Tryd.prog 56 #[.agg (iv .u8 k).toArray] (.bool (decide (nmL (plN k)=k))):=by
 refine vc_of_ac (by simp [pv_iv,pv_int,pv_bool,pv_string,pv_tup2,pv_tup3,iv_plain,p2_int,p2_bool,p2_string]) (by simp [pv_iv,pv_int,pv_bool,pv_string,pv_tup2,pv_tup3,iv_plain,p2_int,p2_bool,p2_string]) ?_
 have b4:=hb.get 4
 have b5:=hb.get 5
 have b6:=hb.get 6
 have b7:=hb.get 7
 have htk:(iv .u8 k).take 32=iv .u8 k:=tkL (by simp [hk])
 have g4:(iv .u8 k)[4]?=some (.int .u8 (k.getD 4 0)):=iv_getN _ _ _ (by omega)
 have g5:(iv .u8 k)[5]?=some (.int .u8 (k.getD 5 0)):=iv_getN _ _ _ (by omega)
 have g6:(iv .u8 k)[6]?=some (.int .u8 (k.getD 6 0)):=iv_getN _ _ _ (by omega)
 have g7:(iv .u8 k)[7]?=some (.int .u8 (k.getD 7 0)):=iv_getN _ _ _ (by omega)
 have hN:nmL (plN k)=116::101::114::109::k.getD 4 0::k.getD 5 0::k.getD 6 0::k.getD 7 0::zl 24:=by
  unfold nmL plN
  congr 8 <;> omega
 have lN:(nmL (plN k)).length=32:=rfl
 have hkN:(k==nmL (plN k))=decide (nmL (plN k)=k):=by rw [Bool.eq_iff_iff,beq_iff_eq,decide_eq_true_iff];exact eq_comm
 generalize k.getD 4 0=x4 at *
 generalize k.getD 5 0=x5 at *
 generalize k.getD 6 0=x6 at *
 generalize k.getD 7 0=x7 at *
 generalize nmL (plN k)=N at *
 have e:((((((((iv .u8 (zl 32)).set 0 (.int .u8 116)).set 1 (.int .u8 101)).set 2 (.int .u8 114)).set 3 (.int .u8 109)).set 4 (.int .u8 x4)).set 5 (.int .u8 x5)).set 6 (.int .u8 x6)).set 7 (.int .u8 x7)=iv .u8 N:=by rw [hN];rfl
 clear hN
 have htN:(iv .u8 N).take 32=iv .u8 N:=tkL (by simp [lN])
 have hsN:setR (iv .u8 (zl 32)) 0 (iv .u8 N)=iv .u8 N:=setR_all _ _ (by simp [lN])
 refine ac_of_aw Tryd.func56 rfl Tryd.ntmps56 Tryd.results56 (by simp) ?_
 (refine aso fun K hK=>?_;simp (disch:=first|omega|simp only [lnS];try omega) [-getElem?_pos,-getElem?_neg,htk];refine hK _ _ ?_;clear hK K)
 (refine aso fun K hK=>?_;simp (disch:=first|omega|simp only [lnS];try omega) [-getElem?_pos,-getElem?_neg,htk,g4,g5,g6,g7,e,lN,hsN];refine hK _ _ ?_;clear hK K)
 (refine aso fun K hK=>?_;simp (disch:=first|omega|simp only [lnS];try omega) [-getElem?_pos,-getElem?_neg,htk,htN,hkN];refine hK _ _ ?_;clear hK K)
 (refine aw_ret ?_;simp (disch:=first|omega|simp only [lnS];try omega) [-getElem?_pos,-getElem?_neg,hkN])
end
section
def ckAD:List (Option Nat):=[some 64,some 65,some 66,some 67,some 68,some 69,some 70,some 71,some 72,some 63,some 73,some 74,some 9,none,some 10]
def ckAP:List (List Nat):=[[],[0],[],[2],[3],[],[5],[6],[1,4,7],[8],[9],[9],[],[10,12],[11]]
def ckAV(n b jk:Nat)(kv:Value)(X Y N:List Int)(ok:Bool)(i:Nat)(v:Value):Prop:=match i with
 | 0=>v=.pointer (some ⟨n,0,none⟩)
 | 1=>v=.pointer (some ⟨b,0,none⟩)
 | 2=>v=kv
 | 3=>v=.pointer (some ⟨jk,0,none⟩)
 | 4=>v=.agg (iv .u8 X).toArray
 | 5=>v=kv
 | 6=>v=.pointer (some ⟨jk,32,none⟩)
 | 7=>v=.agg (iv .u8 Y).toArray
 | 8=>v=.tuple #[.agg (iv .u8 N).toArray,.bool ok]
 | 9=>v=.tuple #[.agg (iv .u8 N).toArray,.bool ok]
 | 10=>v=.agg (iv .u8 N).toArray
 | 11=>v=.bool ok
 | 14=>v=.bool ok
 | _=>True
theorem ckA_nd:∀i j t:Nat,ckAD[i]?=some (some t)→ckAD[j]?=some (some t)→i=j:=by
 have h:∀i<15,∀j<15,∀t:Nat,ckAD[i]?=some (some t)→ckAD[j]?=some (some t)→i=j:=by
  intro i hi j hj t h1 h2
  have h3:ckAD[i]?=ckAD[j]?:=h1.trans h2.symm
  have h4:(ckAD[i]?.bind id).isSome=true:=by rw [h1];rfl
  revert h3 h4
  clear h1 h2
  revert i j
  decide
 intro i j t hi hj
 exact h i (gsI.1 hi).1 j (gsI.1 hj).1 t hi hj
def ckBD:List (Option Nat):=[some 80,some 81,some 82,some 83,some 84,some 85,some 86,some 87,some 88,some 89,some 90,some 91,some 92,some 93,some 94,some 95,some 96,some 8]
def ckBP:List (List Nat):=[[],[0],[],[2],[],[4],[5],[],[7],[8],[],[10],[],[12],[3,6,9,11,13],[1,14],[15],[16]]
def ckBV(n b jk:Nat)(kv zv:Value)(tx:ByteArray)(X Y N:List Int)(i:Nat)(v:Value):Prop:=match i with
 | 0=>v=.pointer (some ⟨n,0,none⟩)
 | 1=>v=.pointer (some ⟨b,0,none⟩)
 | 2=>v=.pointer (some ⟨n,0,none⟩)
 | 3=>v=.pointer (some ⟨b,0,none⟩)
 | 4=>v=kv
 | 5=>v=.pointer (some ⟨jk,0,none⟩)
 | 6=>v=.agg (iv .u8 X).toArray
 | 7=>v=kv
 | 8=>v=.pointer (some ⟨jk,32,none⟩)
 | 9=>v=.agg (iv .u8 Y).toArray
 | 10=>v=.pointer (some ⟨n+1,2,none⟩)
 | 11=>v=.string tx
 | 12=>v=kv
 | 13=>v=zv
 | 14=>v=.string (strOfNums N)
 | 15=>v=.agg (iv .u8 N).toArray
 | _=>True
theorem ckB_nd:∀i j t:Nat,ckBD[i]?=some (some t)→ckBD[j]?=some (some t)→i=j:=by
 have h:∀i<18,∀j<18,∀t:Nat,ckBD[i]?=some (some t)→ckBD[j]?=some (some t)→i=j:=by
  intro i hi j hj t h1 h2
  have h3:ckBD[i]?=ckBD[j]?:=h1.trans h2.symm
  have h4:(ckBD[i]?.bind id).isSome=true:=by rw [h1];rfl
  revert h3 h4
  clear h1 h2
  revert i j
  decide
 intro i j t hi hj
 exact h i (gsI.1 hi).1 j (gsI.1 hj).1 t hi hj
def ckCD:List Nat:=[100,101,102,103,104,105,106,107,108,109,110,111,112,99,113,114,115,11,12,13]
def ckCP:List (List Nat):=[[],[0],[],[2],[3],[],[5],[6],[],[8],[9],[10],[1,4,7,11],[12],[13],[13],[13],[14],[15],[16]]
def ckCV(lo n b jk:Nat)(kv:Value)(X Y Z:List Int)(u:ByteArray)(nk:List (List Int))(ok:Bool)(G:AH)(i:Nat)(v:Value):Prop:=match i with
 | 0=>v=.pointer (some ⟨n,0,none⟩)
 | 1=>v=.pointer (some ⟨b,0,none⟩)
 | 2=>v=kv
 | 3=>v=.pointer (some ⟨jk,0,none⟩)
 | 4=>v=.agg (iv .u8 X).toArray
 | 5=>v=kv
 | 6=>v=.pointer (some ⟨jk,32,none⟩)
 | 7=>v=.agg (iv .u8 Y).toArray
 | 8=>v=kv
 | 9=>v=.pointer (some ⟨jk,64,none⟩)
 | 10=>v=.slice (some ⟨jk,64,none⟩) 32 33
 | 11=>v=.string (strOfNums Z)
 | 12=>∃w,v=.tuple #[.string u,w,.bool ok]∧OwnK lo G w nk
 | 13=>∃w,v=.tuple #[.string u,w,.bool ok]∧OwnK lo G w nk
 | 14=>v=.string u
 | 15=>OwnK lo G v nk
 | 16=>v=.bool ok
 | 17=>v=.string u
 | 18=>OwnK lo G v nk
 | 19=>v=.bool ok
 | _=>True
theorem lowFr{H0 B G:AH}{F Fc:List Nat}(h:Low H0.length H0 B)(hn:∀j∈F,H0.length≤j)(f:Fr B G F Fc):Low H0.length H0 G:=⟨fun j hj=>(f.out j (by have:=h.2;omega) (fun e=>by have:=hn j e;omega)).trans (h.1 j hj),by have:=h.2;have:=f.len;omega⟩
theorem Fr.lo{B G:AH}{F Fc:List Nat}(f:Fr B G F Fc){n:Nat}(hn:∀j∈F,n≤j)(hb:n≤B.length):∀j∈Fc,n≤j:=fun j hj=>by
 rcases f.new j hj with e | e
 ·exact hn j e
 ·omega
theorem ld_tb{G:AH}{n b:Nat}(h:hget G n=some ⟨[.pointer (some ⟨b,0,none⟩)], 27,none⟩):xload Tryd.prog 25 (.pointer (some ⟨n,0,none⟩)) G=some (.pointer (some ⟨b,0,none⟩)):=by simp [xload,h]
theorem ld_tx{H G:AH}{C:List Value}{x:CookD}{kv:Value}(h:CkC H C x kv)(hx:x.Wf){n:Nat}(hn:hget G n=some ⟨C, 43,none⟩):xload Tryd.prog 9 (.pointer (some ⟨n,2,none⟩)) G=some (.string x.text):=(h.loads hx hn).2.2.1
theorem key_str{G:AH}{j i:Nat}{ks:List (List Int)}{Z:List Int}(hk:K32 ks)(hZ:ks[i]?=some Z)(hb:hget G j=some ⟨kr ks, 41,some 32⟩) :
  xslice Tryd.prog 41 (.pointer (some ⟨j,i*32,none⟩)) none none G=some (.slice (some ⟨j,i*32,none⟩) 32 33)∧xconv Tryd.prog 96 9 (.slice (some ⟨j,i*32,none⟩) 32 33) G=some (.string (strOfNums Z)):=by
 have lZ:Z.length=32:=hk Z (moG hZ)
 have h1:und Tryd.prog 41 = .array 32 5 := by kernel_rfl
 have h2:und Tryd.prog 96 = .slice 5 := by kernel_rfl
 have h3:und Tryd.prog 5 = .int .u8:=by kernel_rfl
 have h4:und Tryd.prog 9 = .string:=by kernel_rfl
 have h5:szt Tryd.prog 5 = 1:=by kernel_rfl
 refine⟨?_,?_⟩
 ·unfold xslice
  simp only [h1,bnd,h5,hb]
  simp
 ·unfold xconv
  simp only [h2,h3,h4,hb,kr_get hk hZ,byteList_iv,lZ,if_true]
theorem own_at{B:AH}{kv:Value}{ks:List (List Int)}{Fk:List Nat}(h:OwnF B kv 41 32 (kr ks) Fk)(hk:K32 ks)(h0:0<ks.length):∃jk,kv=.slice (some ⟨jk,0,none⟩) ks.length ks.length∧hget B jk=some ⟨kr ks, 41,some 32⟩∧jk∈Fk:=by
 have hl:=kr_len hk
 rcases h with ⟨_,h2,_⟩ | ⟨j,len,rfl,h3,h4,rfl⟩
 ·rw [h2]at hl
  simp at hl
  omega
 ·obtain rfl:len=ks.length:=by omega
  exact⟨j,rfl,h3,by simp⟩
theorem Tbl.wf{H:AH}{b:Nat}{F:List Nat}{T:List TermD}(h:Tbl H b F T):∀x∈T,x.Wf:=by
 obtain⟨mb,tv,Ft,Fk,L,rfl,hL,_,_⟩:=h
 intro x hx
 obtain⟨p,hp,rfl⟩:=List.mem_map.1 hx
 exact hL.wf p hp
theorem AgreeQ.fr{H H':AH}{b:Nat}{F:List Nat}{T:List TermD}{s p:List Int}{v':Value}(hq:AgreeQ H b F T s p v' H')(ht:Tbl H b F T):v'=.tuple #[.agg (iv .u8 (agrK T s p)).toArray,.bool (agrB p)]∧∃F',Fr H H' F F'∧Tbl H' b F' (agrT2 T s p):=by
 unfold agrT2 agrK agrB
 rcases hq with ⟨h1,h2,h3⟩ | ⟨h1,v1,h2,h3⟩
 ·rw [if_pos h1,if_pos h1,decide_eq_true h1]
  exact⟨h2,F,low_fr F h3,ht.low (fun j hj=>h3.1 j (ht.bound j hj)) h3.2⟩
 ·rw [if_neg h1,if_neg h1,decide_eq_false h1]
  obtain⟨e,F',f,t⟩:=h3.fr
  exact⟨by rw [h2,e];rfl,F',f,t⟩
@[reducible] def CB (B:AH) (b:Nat) (F:List Nat) (T T1:List TermD) (N:List Int) (s:Array Bool) (α:Fm) (G:AH):Prop:=
 ∃Fc,Fr B G F Fc∧Tbl G b Fc (if s.getD 14 false=true then T1 else T)∧(s.getD 14 false=false→Low B.length B G)∧(s.getD 16 false=true→s.getD 15 false=true∧∃r,B.length≤r∧α 96=.slice (some ⟨r,0,none⟩) 1 1∧(s.getD 17 false=true→α 8=.slice (some ⟨r,0,none⟩) 1 1)∧r∉Fc∧hget G r=some ⟨iv .u8 N, 41,some 32⟩)
theorem CB.keep{B:AH}{b:Nat}{F:List Nat}{T T1:List TermD}{N:List Int}{s:Array Bool}{α:Fm}{G:AH}{i t:Nat}{v:Value}(hi:i∉[14,15,16,17])(ht:t∉[96,8])(h:CB B b F T T1 N s α G):CB B b F T T1 N (s.setIfInBounds i true) (α.put (some t) v) G:=by
 simp only [mcN,not_or]at hi ht
 obtain⟨Fc,w1,w2,w3,w4⟩:=h
 refine⟨Fc,w1,by rw [gs_ne hi.1];exact w2,fun a=>?_,fun a=>?_⟩
 ·rw [gs_ne hi.1]at a
  exact w3 a
 ·rw [gs_ne hi.2.2.1]at a
  rw [gs_ne hi.2.2.2,gs_ne hi.2.1]
  obtain⟨x4,r,x0,x1,x2,x3⟩:=w4 a
  exact⟨x4,r,x0,by simpa [put_at,Ne.symm ht.1] using x1,fun b=>by simpa [put_at,Ne.symm ht.2] using x2 b,x3⟩
theorem ckC_st'{lo n b jk:Nat}{kv:Value}{X Y Z:List Int}{u:ByteArray}{nk:List (List Int)}{ok:Bool}:∀ (G1 G2:AH) (i:Nat) (v:Value),G1.length≤G2.length→(∀j,j<G1.length→hget G2 j=hget G1 j)→ckCV lo n b jk kv X Y Z u nk ok G1 i v→ckCV lo n b jk kv X Y Z u nk ok G2 i v:=fun G1 G2 i v h1 h2 h=>by
 have up:∀w,OwnK lo G1 w nk→OwnK lo G2 w nk:=fun w hw=>hw.low (fun j _ hj=>h2 j hj)
 unfold ckCV at h ⊢
 split at h
 all_goals first | exact h | exact up _ h | (obtain⟨w,w1,w2⟩:=h;exact⟨w,w1,up _ w2⟩)
end
section
theorem cooked_ac{γ:Nat→Option Nat}{H0 H:AH}(hpw:Pw γ H0)(lw0:Low H0.length H0 H){b:Nat}{F:List Nat}{T:List TermD}(h:Tbl H b F T)(hnro:∀j∈F,H0.length≤j){sv kv:Value}{seen ks:List (List Int)}(hsv:KsP H F sv seen)(hs32:∀k∈seen,k.length=32){Fk:List Nat}(hkv:OwnF H kv 41 32 (kr ks) Fk)(hFk:∀j∈Fk,j∉F)(hk32:∀k∈ks,k.length=32∧By k)(hkm:ks.length≤1000)
  {C:List Value} {x:CookD} {xv:Value} (hc:CkC H C x xv) (hx:x.Wf) (hxt:x.text.size≤1000) (hneed:needN x.kind≤ks.length) (hT:T.length≤900000) :
  AC Tryd.prog H0.length γ 34 #[.agg #[.pointer (some ⟨b,0,none⟩)],sv,kv,.agg C.toArray] H (CkQ H b F (cookM T seen ks x).1 (cookM T seen ks x).2):=by
 have cl:=hc.len
 have hFl:=h.bound
 have k32:K32 ks:=fun k hk=>(hk32 k hk).1
 have kby:∀k∈ks,By k:=fun k hk=>(hk32 k hk).2
 obtain⟨B,hB⟩:∃B:AH,B=H++[some ⟨[.pointer (some ⟨b,0,none⟩)], 27,none⟩,some ⟨C, 43,none⟩]:=⟨_,rfl⟩
 have gT:hget B H.length=some ⟨[.pointer (some ⟨b,0,none⟩)], 27,none⟩:=by rw [hB,hget_app0];rfl
 have gC:hget B (H.length+1)=some ⟨C, 43,none⟩:=by rw [hB,hget_app];rfl
 have hBl:B.length=H.length+2:=by rw [hB];simp
 have lwB:Low H.length H B:=by rw [hB];exact Low.push (nlE _) _
 have f0:Fr H B F F:=low_fr F lwB
 have tB:Tbl B b F T:=h.low (fun j hj=>lwB.1 j (hFl j hj)) lwB.2
 have lwB0:Low H0.length H0 B:=lowFr lw0 hnro f0
 have pB:Pw γ B:=hpw.low lwB0
 have ksB:KsP B F kv ks:=(ownF_ksp hkv k32 hFk).fr f0
 have svB:KsP B F sv seen:=hsv.fr f0
 have okv:OwnF B kv 41 32 (kr ks) Fk:=hkv.low (fun j hj=>lwB.1 j (hkv.lt j hj))
 have hnH:=lw0.2
 have hnB:H0.length≤B.length:=by omega
 have ldT:xload Tryd.prog 25 (.pointer (some ⟨H.length,0,none⟩)) B=some (.pointer (some ⟨b,0,none⟩)):=by simp [xload,gT]
 obtain⟨ld0,ld1,ld2,_,ld4,_⟩:=hc.loads hx gC
 have hkacc:=ksB.now.acc k32
 obtain⟨knt,kcs,kxl,kat⟩:=hkacc
 have hsacc:=svB.now.acc hs32
 obtain⟨snt,scs,sxl,sat⟩:=hsacc
 have g0:0<ks.length→(ks.getD 0 []).length=32∧By (ks.getD 0 []):=fun h0=>by
  rw [gdD,geE h0]
  exact hk32 _ (List.getElem_mem _)
 have g1:1<ks.length→(ks.getD 1 []).length=32∧By (ks.getD 1 []):=fun h0=>by
  rw [gdD,geE h0]
  exact hk32 _ (List.getElem_mem _)
 have g2:2<ks.length→(ks.getD 2 []).length=32∧By (ks.getD 2 []):=fun h0=>by
  rw [gdD,geE h0]
  exact hk32 _ (List.getElem_mem _)
 have hpl:plain1 (.slice none 0 0)=true:=rfl
 unfold cookM
 refine ac_of_aw Tryd.func34 rfl Tryd.ntmps34 Tryd.results34 (by simp) ?_
 (refine aso fun K hK=>?_;simp (disch:=first|omega|simp only [lnS];try omega) [-getElem?_pos,-getElem?_neg,cl];refine hK _ _ ?_;clear hK K)
 rw [←hB]
 clear hB
 refine aw_seq (aw_seq ?_)
 (refine aoo fun K hK=>?_;simp (disch:=first|omega|simp only [lnS];try omega) [-getElem?_pos,-getElem?_neg,-xload,ld0,-notTuple];refine hK _ _ ?_;clear hK K)
 refine aw_block ?_
 refine aw_seq ?_
 by_cases h1:x.kind=1
 ·rw [h1]
  (refine aoo fun K hK=>?_;simp (disch:=first|omega|simp only [lnS];try omega) [-getElem?_pos,-getElem?_neg];refine hK _ _ ?_;clear hK K)
  refine awt (by simp<;>omega) ?_
  refine aw_seq ?_
  rw [if_pos rfl]
  by_cases hn0:0≤x.n
  ·by_cases hn1:x.n<seen.length
   ·rw [if_pos ⟨hn0,hn1⟩]
    obtain⟨w,hw⟩:=Int.eq_ofNat_of_zero_le hn0
    rw [hw]at ld1 hn1 ⊢
    have hw2:w<seen.length:=by omega
    obtain⟨qa,y,q1,q2,q3,rfl,q4⟩:=sat w hw2
    have q5:=q4 B (Low.refl (nlE _))
    have hY:(seen.getD w []).length=32:=hs32 _ (by rw [gdD,geE hw2];exact List.getElem_mem _)
    rw [show ((w:Nat):Int).toNat=w from rfl]
    generalize seen.getD w []=Y at *
    have htY:(iv .u8 Y).take 32=iv .u8 Y:=tkL (by simp [hY])
    have hrow1:setR (List.map (fun j=>(iv .u8 (zl 32))[j%32]?.getD undef) (List.range 32)) 0 (iv .u8 Y)=iv .u8 Y:=setR_all _ _ (by simp [hY])
    (refine aoo fun K hK=>?_;simp (disch:=first|omega|simp only [lnS];try omega) [-getElem?_pos,-getElem?_neg,-xload,ld1,-notTuple,snt,-xlen,sxl,hn1];refine hK _ _ ?_;clear hK K)
    refine awt (by simp<;>omega) ?_
    (refine aso fun K hK=>?_;simp (disch:=first|omega|simp only [lnS];try omega) [-getElem?_pos,-getElem?_neg,-xload,ld1,q5,-notTuple,snt,q1,q3,-xindexAddr,q2,hY,htY,hrow1,hpl];refine hK _ _ ?_;clear hK K)
    (refine aw_ret ?_;simp (disch:=first|omega|simp only [lnS];try omega) [-getElem?_pos,-getElem?_neg,-notTuple])
    exact ck_one f0 tB hY
   ·rw [if_neg (fun e=>hn1 e.2)]
    (refine aoo fun K hK=>?_;simp (disch:=first|omega|simp only [lnS];try omega) [-getElem?_pos,-getElem?_neg,-xload,ld1,-notTuple,snt,-xlen,sxl,hn0,hn1];refine hK _ _ ?_;clear hK K)
    refine awf (by simp<;>omega) ?_
    refine aw_skip (aw_seq ?_)
    (refine aoo fun K hK=>?_;simp (disch:=first|omega|simp only [lnS];try omega) [-getElem?_pos,-getElem?_neg];refine hK _ _ ?_;clear hK K)
    (refine aw_ret ?_;simp (disch:=first|omega|simp only [lnS];try omega) [-getElem?_pos,-getElem?_neg])
    exact ck_nil f0 tB
  ·rw [if_neg (fun e=>hn0 e.1)]
   (refine aoo fun K hK=>?_;simp (disch:=first|omega|simp only [lnS];try omega) [-getElem?_pos,-getElem?_neg,-xload,ld1,-notTuple,snt,-xlen,sxl,hn0];refine hK _ _ ?_;clear hK K)
   refine awf (by simp<;>omega) ?_
   refine aw_skip (aw_seq ?_)
   (refine aoo fun K hK=>?_;simp (disch:=first|omega|simp only [lnS];try omega) [-getElem?_pos,-getElem?_neg];refine hK _ _ ?_;clear hK K)
   (refine aw_ret ?_;simp (disch:=first|omega|simp only [lnS];try omega) [-getElem?_pos,-getElem?_neg])
   exact ck_nil f0 tB
 rw [if_neg h1]
 (refine aoo fun K hK=>?_;simp (disch:=first|omega|simp only [lnS];try omega) [-getElem?_pos,-getElem?_neg,h1];refine hK _ _ ?_;clear hK K)
 refine awf (by simp<;>omega) ?_
 refine aw_seq ?_
 by_cases h2:x.kind=2
 ·rw [if_pos (.inl h2)]
  have ht:ckT T ks x=⟨1,foeS++x.text,[]⟩:=by unfold ckT;rw [if_pos h2]
  rw [ht]
  have hdr:=draw_ac (nro:=H0.length) (γ:=γ) (s:=foeS++x.text) pB tB hnro hnB (by rw [ByteArray.size_append];show 4+_≤_;omega) (by omega)
  have hfs:(⟨#[102,111,101,32]⟩:ByteArray)++x.text=foeS++x.text:=rfl
  have hba:(⟨#[102,111,101,32]⟩:ByteArray).size+x.text.size≤9223372036854775807:=by show 4+x.text.size≤_;omega
  rw [h2]
  (refine aoo fun K hK=>?_;simp (disch:=first|omega|simp only [lnS];try omega) [-getElem?_pos,-getElem?_neg];refine hK _ _ ?_;clear hK K)
  refine awt (by simp<;>omega) ?_
  refine aso fun K hK=>?_
  simp (disch:=first|omega|simp only [lnS];try omega) [-getElem?_pos,-getElem?_neg,-xload,ldT,ld2,-notTuple,hba,hfs]
  refine⟨by kernel_rfl,AC.mono hdr ?_⟩
  intro v1 G hQ
  obtain⟨rfl,F1,f1,t1⟩:=hQ.fr
  have lN:(nmL (nameT ⟨1,foeS++x.text,[]⟩ T)).length=32:=rfl
  generalize nmL (nameT ⟨1,foeS++x.text,[]⟩ T)=N at *
  have htN:(iv .u8 N).take 32=iv .u8 N:=tkL (by simp [lN])
  have hrow1:setR (List.map (fun j=>(iv .u8 (zl 32))[j%32]?.getD undef) (List.range 32)) 0 (iv .u8 N)=iv .u8 N:=setR_all _ _ (by simp [lN])
  try simp (disch:=first|omega|simp only [lnS];try omega) [-getElem?_pos,-getElem?_neg,lN,htN,hrow1,hpl,-notTuple]
  refine hK _ _ ?_;clear hK K
  (refine aw_ret ?_;simp (disch:=first|omega|simp only [lnS];try omega) [-getElem?_pos,-getElem?_neg,-notTuple])
  exact ck_one (f0.trans f1) t1 lN
 (refine aoo fun K hK=>?_;simp (disch:=first|omega|simp only [lnS];try omega) [-getElem?_pos,-getElem?_neg,h2];refine hK _ _ ?_;clear hK K)
 refine awf (by simp<;>omega) ?_
 refine aw_seq ?_
 by_cases h3:x.kind=3
 ·rw [if_pos (.inr (.inl h3))]
  have ht:ckT T ks x=⟨2,x.text,ks⟩:=by unfold ckT;rw [if_neg h2,if_pos h3]
  rw [ht]
  have hw:TermD.Wf ⟨2,x.text,ks⟩:=⟨by show 2≤6;omega,by show x.text.size≤_;omega,k32,kby,by show ks.length≤_;omega,fun e=>(by cases e),fun e=>(by cases e),fun e=>(by cases e)⟩
  have hh:=hash_ac (nro:=H0.length) (γ:=γ) pB tB hnro hnB hw ksB (by omega)
  rw [h3]
  (refine aoo fun K hK=>?_;simp (disch:=first|omega|simp only [lnS];try omega) [-getElem?_pos,-getElem?_neg];refine hK _ _ ?_;clear hK K)
  refine awt (by simp<;>omega) ?_
  refine aso fun K hK=>?_
  simp (disch:=first|omega|simp only [lnS];try omega) [-getElem?_pos,-getElem?_neg,-xload,ldT,ld2,-notTuple,knt]
  refine⟨by kernel_rfl,AC.mono hh ?_⟩
  intro v1 G hQ
  obtain⟨rfl,F1,f1,t1⟩:=hQ.fr
  have lN:(nmL (nameT ⟨2,x.text,ks⟩ T)).length=32:=rfl
  generalize nmL (nameT ⟨2,x.text,ks⟩ T)=N at *
  have htN:(iv .u8 N).take 32=iv .u8 N:=tkL (by simp [lN])
  have hrow1:setR (List.map (fun j=>(iv .u8 (zl 32))[j%32]?.getD undef) (List.range 32)) 0 (iv .u8 N)=iv .u8 N:=setR_all _ _ (by simp [lN])
  try simp (disch:=first|omega|simp only [lnS];try omega) [-getElem?_pos,-getElem?_neg,lN,htN,hrow1,hpl,-notTuple]
  refine hK _ _ ?_;clear hK K
  (refine aw_ret ?_;simp (disch:=first|omega|simp only [lnS];try omega) [-getElem?_pos,-getElem?_neg,-notTuple])
  exact ck_one (f0.trans f1) t1 lN
 (refine aoo fun K hK=>?_;simp (disch:=first|omega|simp only [lnS];try omega) [-getElem?_pos,-getElem?_neg,h3];refine hK _ _ ?_;clear hK K)
 refine awf (by simp<;>omega) ?_
 refine aw_seq ?_
 by_cases h4:x.kind=4
 ·rw [if_pos (.inr (.inr (.inl h4)))]
  have ht:ckT T ks x=⟨3,⟨#[]⟩,[ks.getD 0 []]⟩:=by unfold ckT;rw [if_neg h2,if_neg h3,if_pos h4]
  rw [ht]
  have hl0:0<ks.length:=by rw [h4]at hneed;exact hneed
  obtain⟨l0,b0⟩:=g0 hl0
  obtain⟨qa,y,q1,q2,q3,rfl,q4⟩:=kat 0 hl0
  have q5:=q4 B (Low.refl (nlE _))
  have q2:xindexAddr Tryd.prog 34 kv (.int .i64 0)=some qa:=q2
  generalize ks.getD 0 []=Y at *
  have hh:=pubT_ac (nro:=H0.length) (γ:=γ) pB tB hnro hnB l0 b0 (by omega)
  rw [h4]
  (refine aoo fun K hK=>?_;simp (disch:=first|omega|simp only [lnS];try omega) [-getElem?_pos,-getElem?_neg];refine hK _ _ ?_;clear hK K)
  refine awt (by simp<;>omega) ?_
  refine aw_seq ?_
  (refine aw_plan [] [] [0,1,2,3,4] 5 3 (by kernel_rfl) (by kernel_rfl) (by kernel_rfl) (fun K hK=>?_));simp only [sel,gcS,gdZ];simp (disch:=first|omega|simp only [lnS];try omega) [-getElem?_pos,-getElem?_neg,-xload,ldT,q5,-notTuple,knt,q1,-xindexAddr,q2,hpl,Nat.add_assoc]
  refine⟨by kernel_rfl,AC.mono hh ?_⟩
  intro v1 G hQ
  obtain⟨rfl,F1,f1,t1⟩:=hQ.fr
  have lN:(nmL (nameT ⟨3,⟨#[]⟩,[Y]⟩ T)).length=32:=rfl
  generalize nmL (nameT ⟨3,⟨#[]⟩,[Y]⟩ T)=N at *
  have htN:(iv .u8 N).take 32=iv .u8 N:=tkL (by simp [lN])
  have hrow1:setR (List.map (fun j=>(iv .u8 (zl 32))[j%32]?.getD undef) (List.range 32)) 0 (iv .u8 N)=iv .u8 N:=setR_all _ _ (by simp [lN])
  try simp (disch:=first|omega|simp only [lnS];try omega) [-getElem?_pos,-getElem?_neg,lN,htN,hrow1,hpl,-notTuple]
  refine hK _ _ ?_;clear hK K
  (refine aw_ret ?_;simp (disch:=first|omega|simp only [lnS];try omega) [-getElem?_pos,-getElem?_neg,-notTuple])
  exact ck_one (f0.trans f1) t1 lN
 (refine aoo fun K hK=>?_;simp (disch:=first|omega|simp only [lnS];try omega) [-getElem?_pos,-getElem?_neg,h4];refine hK _ _ ?_;clear hK K)
 refine awf (by simp<;>omega) ?_
 refine aw_seq ?_
 by_cases h5:x.kind=5
 ·rw [if_neg (by simp [h2,h3,h4,h5]),if_pos h5]
  have ht:ckT T ks x=agreeT T (ks.getD 0 []) (ks.getD 1 []):=by unfold ckT;rw [if_neg h2,if_neg h3,if_neg h4,if_pos h5]
  rw [ht]
  have hl1:1<ks.length:=by rw [h5]at hneed;exact hneed
  obtain⟨lX,bX⟩:=g0 (by omega)
  obtain⟨lY,bY⟩:=g1 hl1
  have hX:ks[0]?=some (ks.getD 0 []):=by rw [gdD,geE (by omega:0<ks.length)];rfl
  have hY:ks[1]?=some (ks.getD 1 []):=by rw [gdD,geE hl1];rfl
  obtain⟨jk,hkvd,gk,hjk⟩:=own_at okv k32 (by omega)
  have nk:jk∉F:=hFk jk hjk
  have ax:xindexAddr Tryd.prog 34 kv (.int .i64 0)=some (.pointer (some ⟨jk,0,none⟩)):=by rw [hkvd];exact kr_addr (n:=ks.length) (b:=jk) (j:=0) (by omega)
  have ay:xindexAddr Tryd.prog 34 kv (.int .i64 1)=some (.pointer (some ⟨jk,32,none⟩)):=by rw [hkvd];exact kr_addr (n:=ks.length) (b:=jk) (j:=1) (by omega)
  obtain⟨n,hn⟩:∃n,n=H.length:=⟨_,rfl⟩
  rw [←hn]at gT gC
  have nT:n∉F:=fun e=>by have:=hFl _ e;omega
  generalize ks.getD 0 []=X at *
  generalize ks.getD 1 []=Y at *
  have lN:(agrK T X Y).length=32:=by unfold agrK;split <;> rfl
  have hN:agrB Y=true→agrK T X Y=nmL (nameT (agreeT T X Y) T:Nat)∧agrT2 T X Y=addT (agreeT T X Y) T:=fun e=>by
   have:Y≠zl 32:=by simpa [agrB] using e
   unfold agrK agrT2
   rw [if_neg this,if_neg this];exact⟨rfl,rfl⟩
  have hN0:agrB Y=false→Y=zl 32∧agrT2 T X Y=T:=fun e=>by
   have:Y=zl 32:=by simpa [agrB] using e
   unfold agrT2
   rw [if_pos this];exact⟨this,rfl⟩
  have hN1:agrB Y=true→Y≠zl 32:=fun e=>by simpa [agrB] using e
  rw [h5]
  generalize hNd:agrK T X Y=N at *
  generalize hOk:agrB Y=ok at *
  generalize hTd:agrT2 T X Y=T1 at *
  have sN:setR (iv .u8 (zl 32)) 0 (iv .u8 N)=iv .u8 N:=setR_all _ _ (by simp [lN])
  have tN:(iv .u8 N).take 32=iv .u8 N:=tkL (by simp [lN])
  have rN:setR (List.map (fun j=>(iv .u8 (zl 32))[j%32]?.getD undef) (List.range 32)) 0 (iv .u8 N)=iv .u8 N:=setR_all _ _ (by simp [lN])
  (refine aoo fun K hK=>?_;simp (disch:=first|omega|simp only [lnS];try omega) [-getElem?_pos,-getElem?_neg];refine hK _ _ ?_;clear hK K)
  refine awt (by simp<;>omega) ?_
  refine aw_seq ?_
  refine name_aw (fun β hβ=>?_)
  have e4:β 4=.pointer (some ⟨n,0,none⟩):=by rw [hβ,hn];(first|simp;done|rfl)
  have e7:β 7=.pointer (some ⟨n+1,0,none⟩):=by rw [hβ,hn];(first|simp;done|rfl)
  have e2:β 2=kv:=by rw [hβ];(first|simp;done|rfl)
  clear hβ
  refine aw_inv ckAP (JT ckAD (ckAV n b jk kv X Y N ok) β (CP B b F T T1 N)) (by kernel_rfl) (by kernel_rfl) (by kernel_rfl) ?_ ?_ ?_
  ·exact⟨by simp;rfl,fun _ _=>rfl,fun i t' hi h=>(by rw [gs_0]at h;cases h),F,Fr.refl _ _,(by rw [gs_0];exact tB),fun h=>(by rw [gs_0]at h;cases h)⟩
  ·intro i s α G k hJ hi0 hsi hd hcc hcont
   obtain⟨Fc,jf,jt,ja⟩:=hJ.hp
   have j4:=(hJ.lo 4 (by decide)).trans e4
   have j2:=(hJ.lo 2 (by decide)).trans e2
   have gT:=(jf.out _ (hget_lt gT) nT).trans gT
   have gk:=(jf.out _ (hget_lt gk) nk).trans gk
   have ldT:=ld_tb gT
   have ldX:=kr_load k32 hX gk
   have ldY:=kr_load k32 hY gk
   have jl:=jf.len
   have hi:i=0∨i=1∨i=2∨i=3∨i=4∨i=5∨i=6∨i=7∨i=8∨i=9∨i=10∨i=11∨i=12∨i=13∨i=14:=by have hi0:i<15:=hi0;omega
   rcases hi with rfl | rfl | rfl | rfl | rfl | rfl | rfl | rfl | rfl | rfl | rfl | rfl | rfl | rfl | rfl
   ·simp (disch:=first|omega|simp only [lnS];try omega) [-getElem?_pos,-getElem?_neg,-notTuple,knt,j4]
    exact hcont _ _ (hJ.put ckA_nd (t:=64) rfl rfl (hJ.hp.keep (by decide) (by decide)))
   ·have f0:α 64=.pointer (some ⟨n,0,none⟩):=hJ.val 0 64 rfl (hd 0 (by decide))
    simp (disch:=first|omega|simp only [lnS];try omega) [-getElem?_pos,-getElem?_neg,-notTuple,knt,-xload,ldT,f0]
    exact hcont _ _ (hJ.put ckA_nd (t:=65) rfl rfl (hJ.hp.keep (by decide) (by decide)))
   ·simp (disch:=first|omega|simp only [lnS];try omega) [-getElem?_pos,-getElem?_neg,-notTuple,knt,j2]
    exact hcont _ _ (hJ.put ckA_nd (t:=66) rfl rfl (hJ.hp.keep (by decide) (by decide)))
   ·have f2:α 66=kv:=hJ.val 2 66 rfl (hd 2 (by decide))
    simp (disch:=first|omega|simp only [lnS];try omega) [-getElem?_pos,-getElem?_neg,-notTuple,knt,-xindexAddr,ax,f2]
    exact hcont _ _ (hJ.put ckA_nd (t:=67) rfl rfl (hJ.hp.keep (by decide) (by decide)))
   ·have f3:α 67=.pointer (some ⟨jk,0,none⟩):=hJ.val 3 67 rfl (hd 3 (by decide))
    simp (disch:=first|omega|simp only [lnS];try omega) [-getElem?_pos,-getElem?_neg,-notTuple,knt,-xload,ldX,f3]
    exact hcont _ _ (hJ.put ckA_nd (t:=68) rfl rfl (hJ.hp.keep (by decide) (by decide)))
   ·simp (disch:=first|omega|simp only [lnS];try omega) [-getElem?_pos,-getElem?_neg,-notTuple,knt,j2]
    exact hcont _ _ (hJ.put ckA_nd (t:=69) rfl rfl (hJ.hp.keep (by decide) (by decide)))
   ·have f5:α 69=kv:=hJ.val 5 69 rfl (hd 5 (by decide))
    simp (disch:=first|omega|simp only [lnS];try omega) [-getElem?_pos,-getElem?_neg,-notTuple,knt,-xindexAddr,ay,f5]
    exact hcont _ _ (hJ.put ckA_nd (t:=70) rfl rfl (hJ.hp.keep (by decide) (by decide)))
   ·have f6:α 70=.pointer (some ⟨jk,32,none⟩):=hJ.val 6 70 rfl (hd 6 (by decide))
    simp (disch:=first|omega|simp only [lnS];try omega) [-getElem?_pos,-getElem?_neg,-notTuple,knt,-xload,ldY,f6]
    exact hcont _ _ (hJ.put ckA_nd (t:=71) rfl rfl (hJ.hp.keep (by decide) (by decide)))
   ·have f1:α 65=.pointer (some ⟨b,0,none⟩):=hJ.val 1 65 rfl (hd 1 (by decide))
    have f4:α 68=.agg (iv .u8 X).toArray:=hJ.val 4 68 rfl (hd 4 (by decide))
    have f7:α 71=.agg (iv .u8 Y).toArray:=hJ.val 7 71 rfl (hd 7 (by decide))
    simp (disch:=first|omega|simp only [lnS];try omega) [-getElem?_pos,-getElem?_neg,f1,f4,f7]
    have jt:Tbl G b Fc T:=by rw [hsi]at jt;exact jt
    refine⟨by kernel_rfl,AC.mono (agree_ac (nro:=H0.length) (γ:=γ) (hpw.low (lowFr lwB0 hnro jf)) jt (fun j hj=>jf.lo hnro hnB j hj) (by omega) lX bX lY bY (by omega)) ?_⟩
    intro v' G' hq
    obtain⟨hv,F1,f1,t1⟩:=hq.fr jt
    rw [hNd,hOk]at hv
    rw [hTd]at t1
    subst hv
    exact hcont _ _ (hJ.put ckA_nd (t:=72) rfl rfl ⟨F1,jf.trans f1,by rw [gs_eq (by rw [hJ.sz];decide)];exact t1,fun a=>by
     rw [gs_ne (by decide)]at a
     obtain⟨r,w1,w2,w3,w4⟩:=ja a
     refine⟨r,by (first|simp [w1];done|rfl),w2,fun e=>?_,by rw [gs_ne (by decide),f1.out r (hget_lt w4) w3];exact w4⟩
     rcases f1.new r e with e1 | e1
     ·exact w3 e1
     ·have:=hget_lt w4;omega⟩)
   ·have f8:α 72=.tuple #[.agg (iv .u8 N).toArray,.bool ok]:=hJ.val 8 72 rfl (hd 8 (by decide))
    simp (disch:=first|omega|simp only [lnS];try omega) [-getElem?_pos,-getElem?_neg,-notTuple,knt,f8]
    exact hcont _ _ (hJ.put ckA_nd (t:=63) rfl rfl (hJ.hp.keep (by decide) (by decide)))
   ·have f9:α 63=.tuple #[.agg (iv .u8 N).toArray,.bool ok]:=hJ.val 9 63 rfl (hd 9 (by decide))
    simp (disch:=first|omega|simp only [lnS];try omega) [-getElem?_pos,-getElem?_neg,-notTuple,knt,f9]
    exact hcont _ _ (hJ.put ckA_nd (t:=73) rfl rfl (hJ.hp.keep (by decide) (by decide)))
   ·have f9:α 63=.tuple #[.agg (iv .u8 N).toArray,.bool ok]:=hJ.val 9 63 rfl (hd 9 (by decide))
    simp (disch:=first|omega|simp only [lnS];try omega) [-getElem?_pos,-getElem?_neg,-notTuple,knt,f9]
    exact hcont _ _ (hJ.put ckA_nd (t:=74) rfl rfl (hJ.hp.keep (by decide) (by decide)))
   ·simp (disch:=first|omega|simp only [lnS];try omega) [-getElem?_pos,-getElem?_neg]
    exact hcont _ _ (hJ.put ckA_nd (t:=9) rfl trivial ⟨Fc,jf.push _,by rw [gs_ne (by decide)];exact jt.push _,fun _=>⟨G.length,by (first|simp;done|rfl),jl,fun e=>by have:=jt.bound _ e;omega,by rw [gs_ne (by decide),hcc 13 (by decide),hget_app0];rfl⟩⟩)
   ·have f10:α 73=.agg (iv .u8 N).toArray:=hJ.val 10 73 rfl (hd 10 (by decide))
    obtain⟨r,w1,w2,w3,w4⟩:=ja (hd 12 (by decide))
    rw [hsi]at w4
    have w4:hget G r=some ⟨iv .u8 (zl 32), 41,none⟩:=w4
    have wl:=hget_lt w4
    have wn:H0.length≤r:=by omega
    simp (disch:=first|omega|simp only [lnS];try omega) [-getElem?_pos,-getElem?_neg,w1,w4,wl,wn,f10,lN,sN]
    exact hcont _ _ (hJ.put0 rfl ⟨Fc,⟨by simp;omega,fun j hj hn=>(hget_set_ne (by omega)).trans (jf.out j hj hn),jf.new⟩,by rw [gs_ne (by decide)];exact jt.low (fun j hj=>hget_set_ne (fun e=>w3 (e▸hj))) (by simp),fun _=>⟨r,w1,w2,w3,by rw [gs_eq (by rw [hJ.sz];decide)];exact hget_set_eq wl⟩⟩)
   ·have f11:α 74=.bool ok:=hJ.val 11 74 rfl (hd 11 (by decide))
    simp (disch:=first|omega|simp only [lnS];try omega) [-getElem?_pos,-getElem?_neg,-notTuple,knt,f11]
    exact hcont _ _ (hJ.put ckA_nd (t:=10) rfl rfl (hJ.hp.keep (by decide) (by decide)))
  rintro s α G hJ hall
  have hsz:s.size=15:=hJ.sz
  have hg:∀i,i<15→s.getD i false=true:=fun i hi=>by
   rw [agD,Array.getElem?_eq_getElem (by omega)]
   exact Array.all_eq_true.1 hall i (by omega)
  obtain⟨Fc,jf,jt,ja⟩:=hJ.hp
  rw [hg 8 (by omega)]at jt
  obtain⟨r,w1,w2,w3,w4⟩:=ja (hg 12 (by omega))
  rw [hg 13 (by omega)]at w4
  have w4:hget G r=some ⟨iv .u8 N, 41,none⟩:=w4
  have jt:Tbl G b Fc T1:=jt
  have a10:α 10=.bool ok:=hJ.val 14 10 rfl (hg 14 (by omega))
  have wl:=hget_lt w4
  clear hall hsz hg hJ
  (refine aso fun K hK=>?_;simp (disch:=first|omega|simp only [lnS];try omega) [-getElem?_pos,-getElem?_neg,a10];refine hK _ _ ?_;clear hK K)
  cases ok with
  | true=>
   rw [if_neg (hN1 rfl)]
   obtain⟨rfl,rfl⟩:=hN rfl
   refine awt (by simp<;>omega) ?_
   (refine aso fun K hK=>?_;simp (disch:=first|omega|simp only [lnS];try omega) [-getElem?_pos,-getElem?_neg,w1,w4,wl,lN,tN,rN,hpl];refine hK _ _ ?_;clear hK K)
   (refine aw_ret ?_;simp (disch:=first|omega|simp only [lnS];try omega) [-getElem?_pos,-getElem?_neg,-notTuple])
   exact ck_one (f0.trans jf) jt lN
  | false=>
   obtain⟨hy,rfl⟩:=hN0 rfl
   rw [if_pos hy]
   refine awf (by simp<;>omega) ?_
   refine aw_skip (aw_seq ?_)
   (refine aoo fun K hK=>?_;simp (disch:=first|omega|simp only [lnS];try omega) [-getElem?_pos,-getElem?_neg];refine hK _ _ ?_;clear hK K)
   (refine aw_ret ?_;simp (disch:=first|omega|simp only [lnS];try omega) [-getElem?_pos,-getElem?_neg])
   exact ck_nil (f0.trans jf) jt
 (refine aoo fun K hK=>?_;simp (disch:=first|omega|simp only [lnS];try omega) [-getElem?_pos,-getElem?_neg,h5];refine hK _ _ ?_;clear hK K)
 refine awf (by simp<;>omega) ?_
 refine aw_seq ?_
 by_cases h6:x.kind=6
 ·rw [if_pos (.inr (.inr (.inr h6)))]
  have ht:ckT T ks x=⟨6,x.text,ks.getD 0 []::ks.getD 1 []::ks.drop 2⟩:=by unfold ckT;rw [if_neg h2,if_neg h3,if_neg h4,if_neg h5]
  rw [ht]
  have hl1:1<ks.length:=by rw [h6]at hneed;exact hneed
  obtain⟨lX,bX⟩:=g0 (by omega)
  obtain⟨lY,bY⟩:=g1 hl1
  have hX:ks[0]?=some (ks.getD 0 []):=by rw [gdD,geE (by omega:0<ks.length)];rfl
  have hY:ks[1]?=some (ks.getD 1 []):=by rw [gdD,geE hl1];rfl
  obtain⟨zv,z1,z2,z3,_,z5,_⟩:=suf_keys okv k32 hl1
  obtain⟨jk,hkvd,gk,hjk⟩:=own_at okv k32 (by omega)
  have nk:jk∉F:=hFk jk hjk
  have ax:xindexAddr Tryd.prog 34 kv (.int .i64 0)=some (.pointer (some ⟨jk,0,none⟩)):=by rw [hkvd];exact kr_addr (n:=ks.length) (b:=jk) (j:=0) (by omega)
  have ay:xindexAddr Tryd.prog 34 kv (.int .i64 1)=some (.pointer (some ⟨jk,32,none⟩)):=by rw [hkvd];exact kr_addr (n:=ks.length) (b:=jk) (j:=1) (by omega)
  obtain⟨n,hn⟩:∃n,n=H.length:=⟨_,rfl⟩
  rw [←hn]at gT gC
  have nT:n∉F:=fun e=>by have:=hFl _ e;omega
  have nC:n+1∉F:=fun e=>by have:=hFl _ e;omega
  generalize ks.getD 0 []=X at *
  generalize ks.getD 1 []=Y at *
  have hw:TermD.Wf ⟨6,x.text,X::Y::ks.drop 2⟩:=wf_seal (by omega) lX bX lY bY (fun z hz=>hk32 z (List.mem_of_mem_drop hz)) (by rw [List.length_drop];omega)
  have hT1:=addT_le ⟨6,x.text,X::Y::ks.drop 2⟩ T
  have lN:(nmL (nameT ⟨6,x.text,X::Y::ks.drop 2⟩ T)).length=32:=rfl
  have bN:By (nmL (nameT ⟨6,x.text,X::Y::ks.drop 2⟩ T)):=nmL_by _
  rw [h6]
  generalize htx:x.text=tx at *
  generalize hNd:nmL (nameT ⟨6,tx,X::Y::ks.drop 2⟩ T)=N at *
  generalize hTd:addT ⟨6,tx,X::Y::ks.drop 2⟩ T=T1 at *
  have tN:(iv .u8 N).take 32=iv .u8 N:=tkL (by simp [lN])
  have rN:setR (List.map (fun j=>(iv .u8 (zl 32))[j%32]?.getD undef) (List.range 32)) 0 (iv .u8 N)=iv .u8 N:=setR_all _ _ (by simp [lN])
  (refine aoo fun K hK=>?_;simp (disch:=first|omega|simp only [lnS];try omega) [-getElem?_pos,-getElem?_neg];refine hK _ _ ?_;clear hK K)
  refine awt (by simp<;>omega) ?_
  refine aw_seq ?_
  refine name_aw (fun β hβ=>?_)
  have e4:β 4=.pointer (some ⟨n,0,none⟩):=by rw [hβ,hn];(first|simp;done|rfl)
  have e7:β 7=.pointer (some ⟨n+1,0,none⟩):=by rw [hβ,hn];(first|simp;done|rfl)
  have e2:β 2=kv:=by rw [hβ];(first|simp;done|rfl)
  clear hβ
  refine aw_inv ckBP (JT ckBD (ckBV n b jk kv zv tx X Y N) β (CB B b F T T1 N)) (by kernel_rfl) (by kernel_rfl) (by kernel_rfl) ?_ ?_ ?_
  ·exact⟨by simp;rfl,fun _ _=>rfl,fun i t' hi h=>(by rw [gs_0]at h;cases h),F,Fr.refl _ _,(by rw [gs_0];exact tB),fun _=>Low.refl (nlE _),fun h=>(by rw [gs_0]at h;cases h)⟩
  ·intro i s α G k hJ hi0 hsi hd hcc hcont
   obtain⟨Fc,jf,jt,jlw,ja⟩:=hJ.hp
   have j4:=(hJ.lo 4 (by decide)).trans e4
   have j2:=(hJ.lo 2 (by decide)).trans e2
   have j7:=(hJ.lo 7 (by decide)).trans e7
   have gT:=(jf.out _ (hget_lt gT) nT).trans gT
   have gC:=(jf.out _ (hget_lt gC) nC).trans gC
   have gk:=(jf.out _ (hget_lt gk) nk).trans gk
   have ldT:=ld_tb gT
   have ldX:=kr_load k32 hX gk
   have ldY:=kr_load k32 hY gk
   have jl:=jf.len
   have ldS:=ld_tx hc hx gC
   rw [htx]at ldS
   have hi:i=0∨i=1∨i=2∨i=3∨i=4∨i=5∨i=6∨i=7∨i=8∨i=9∨i=10∨i=11∨i=12∨i=13∨i=14∨i=15∨i=16∨i=17:=by have hi0:i<18:=hi0;omega
   rcases hi with rfl | rfl | rfl | rfl | rfl | rfl | rfl | rfl | rfl | rfl | rfl | rfl | rfl | rfl | rfl | rfl | rfl | rfl
   ·simp (disch:=first|omega|simp only [lnS];try omega) [-getElem?_pos,-getElem?_neg,-notTuple,knt,j4]
    exact hcont _ _ (hJ.put ckB_nd (t:=80) rfl rfl (hJ.hp.keep (by decide) (by decide)))
   ·have f0:α 80=.pointer (some ⟨n,0,none⟩):=hJ.val 0 80 rfl (hd 0 (by decide))
    simp (disch:=first|omega|simp only [lnS];try omega) [-getElem?_pos,-getElem?_neg,-notTuple,knt,-xload,ldT,f0]
    exact hcont _ _ (hJ.put ckB_nd (t:=81) rfl rfl (hJ.hp.keep (by decide) (by decide)))
   ·simp (disch:=first|omega|simp only [lnS];try omega) [-getElem?_pos,-getElem?_neg,-notTuple,knt,j4]
    exact hcont _ _ (hJ.put ckB_nd (t:=82) rfl rfl (hJ.hp.keep (by decide) (by decide)))
   ·have f2:α 82=.pointer (some ⟨n,0,none⟩):=hJ.val 2 82 rfl (hd 2 (by decide))
    simp (disch:=first|omega|simp only [lnS];try omega) [-getElem?_pos,-getElem?_neg,-notTuple,knt,-xload,ldT,f2]
    exact hcont _ _ (hJ.put ckB_nd (t:=83) rfl rfl (hJ.hp.keep (by decide) (by decide)))
   ·simp (disch:=first|omega|simp only [lnS];try omega) [-getElem?_pos,-getElem?_neg,-notTuple,knt,j2]
    exact hcont _ _ (hJ.put ckB_nd (t:=84) rfl rfl (hJ.hp.keep (by decide) (by decide)))
   ·have f4:α 84=kv:=hJ.val 4 84 rfl (hd 4 (by decide))
    simp (disch:=first|omega|simp only [lnS];try omega) [-getElem?_pos,-getElem?_neg,-notTuple,knt,-xindexAddr,ax,f4]
    exact hcont _ _ (hJ.put ckB_nd (t:=85) rfl rfl (hJ.hp.keep (by decide) (by decide)))
   ·have f5:α 85=.pointer (some ⟨jk,0,none⟩):=hJ.val 5 85 rfl (hd 5 (by decide))
    simp (disch:=first|omega|simp only [lnS];try omega) [-getElem?_pos,-getElem?_neg,-notTuple,knt,-xload,ldX,f5]
    exact hcont _ _ (hJ.put ckB_nd (t:=86) rfl rfl (hJ.hp.keep (by decide) (by decide)))
   ·simp (disch:=first|omega|simp only [lnS];try omega) [-getElem?_pos,-getElem?_neg,-notTuple,knt,j2]
    exact hcont _ _ (hJ.put ckB_nd (t:=87) rfl rfl (hJ.hp.keep (by decide) (by decide)))
   ·have f7:α 87=kv:=hJ.val 7 87 rfl (hd 7 (by decide))
    simp (disch:=first|omega|simp only [lnS];try omega) [-getElem?_pos,-getElem?_neg,-notTuple,knt,-xindexAddr,ay,f7]
    exact hcont _ _ (hJ.put ckB_nd (t:=88) rfl rfl (hJ.hp.keep (by decide) (by decide)))
   ·have f8:α 88=.pointer (some ⟨jk,32,none⟩):=hJ.val 8 88 rfl (hd 8 (by decide))
    simp (disch:=first|omega|simp only [lnS];try omega) [-getElem?_pos,-getElem?_neg,-notTuple,knt,-xload,ldY,f8]
    exact hcont _ _ (hJ.put ckB_nd (t:=89) rfl rfl (hJ.hp.keep (by decide) (by decide)))
   ·simp (disch:=first|omega|simp only [lnS];try omega) [-getElem?_pos,-getElem?_neg,-notTuple,knt,j7]
    exact hcont _ _ (hJ.put ckB_nd (t:=90) rfl rfl (hJ.hp.keep (by decide) (by decide)))
   ·have f10:α 90=.pointer (some ⟨n+1,2,none⟩):=hJ.val 10 90 rfl (hd 10 (by decide))
    simp (disch:=first|omega|simp only [lnS];try omega) [-getElem?_pos,-getElem?_neg,-notTuple,knt,-xload,ldS,f10]
    exact hcont _ _ (hJ.put ckB_nd (t:=91) rfl rfl (hJ.hp.keep (by decide) (by decide)))
   ·simp (disch:=first|omega|simp only [lnS];try omega) [-getElem?_pos,-getElem?_neg,-notTuple,knt,j2]
    exact hcont _ _ (hJ.put ckB_nd (t:=92) rfl rfl (hJ.hp.keep (by decide) (by decide)))
   ·have f12:α 92=kv:=hJ.val 12 92 rfl (hd 12 (by decide))
    simp (disch:=first|omega|simp only [lnS];try omega) [-getElem?_pos,-getElem?_neg,-notTuple,knt,-xslice,z1,z2,z3,f12]
    exact hcont _ _ (hJ.put ckB_nd (t:=93) rfl rfl (hJ.hp.keep (by decide) (by decide)))
   ·have f3:α 83=.pointer (some ⟨b,0,none⟩):=hJ.val 3 83 rfl (hd 3 (by decide))
    have f6:α 86=.agg (iv .u8 X).toArray:=hJ.val 6 86 rfl (hd 6 (by decide))
    have f9:α 89=.agg (iv .u8 Y).toArray:=hJ.val 9 89 rfl (hd 9 (by decide))
    have f11:α 91=.string tx:=hJ.val 11 91 rfl (hd 11 (by decide))
    have f13:α 93=zv:=hJ.val 13 93 rfl (hd 13 (by decide))
    simp (disch:=first|omega|simp only [lnS];try omega) [-getElem?_pos,-getElem?_neg,f3,f6,f9,f11,f13]
    have jt:Tbl G b Fc T:=by rw [hsi]at jt;exact jt
    have lwG:=jlw hsi
    refine⟨by kernel_rfl,AC.mono (sealP_ac (nro:=H0.length) (γ:=γ) (hpw.low (lowFr lwB0 hnro jf)) jt (fun j hj=>jf.lo hnro hnB j hj) (by omega) lX lY hw (z5.keep (by omega) (fun j hj=>lwG.1 j hj)) (by omega)) ?_⟩
    rintro v' G' ⟨hv,hq⟩
    obtain⟨_,F1,f1,t1⟩:=hq.fr
    rw [hNd]at hv
    rw [hTd]at t1
    subst hv
    exact hcont _ _ (hJ.put ckB_nd (t:=94) rfl rfl ⟨F1,jf.trans f1,by rw [gs_eq (by rw [hJ.sz];decide)];exact t1,fun a=>(by rw [gs_eq (by rw [hJ.sz];decide)]at a;cases a),fun a=>(by rw [gs_ne (by decide)]at a;have:=(ja a).1;rw [hcc 15 (by decide)]at this;cases this)⟩)
   ·have f1:α 81=.pointer (some ⟨b,0,none⟩):=hJ.val 1 81 rfl (hd 1 (by decide))
    have f14:α 94=.string (strOfNums N):=hJ.val 14 94 rfl (hd 14 (by decide))
    simp (disch:=first|omega|simp only [lnS];try omega) [-getElem?_pos,-getElem?_neg,f1,f14]
    have d14:=hd 14 (by decide)
    have jt:Tbl G b Fc T1:=by rw [d14]at jt;exact jt
    refine⟨by kernel_rfl,AC.mono (mark_ac (nro:=H0.length) (γ:=γ) (s:=strOfNums N) (hpw.low (lowFr lwB0 hnro jf)) jt (fun j hj=>jf.lo hnro hnB j hj) (by omega) (by rw [sn_size,lN];omega) (by omega)) ?_⟩
    intro v' G' hq
    unfold MarkQ at hq
    rw [if_pos (by rw [sn_size,lN]),nums_of _ bN]at hq
    obtain⟨rfl,lw2⟩:=hq
    exact hcont _ _ (hJ.put ckB_nd (t:=95) rfl rfl ⟨Fc,jf.trans (low_fr Fc lw2),by rw [gs_ne (by decide),d14];exact jt.low (fun j hj=>lw2.1 j (jt.bound j hj)) lw2.2,fun a=>(by rw [gs_ne (by decide),d14]at a;cases a),fun a=>(by rw [gs_ne (by decide),hcc 16 (by decide)]at a;cases a)⟩)
   ·have f15:α 95=.agg (iv .u8 N).toArray:=hJ.val 15 95 rfl (hd 15 (by decide))
    simp (disch:=first|omega|simp only [lnS];try omega) [-getElem?_pos,-getElem?_neg,f15,lN,tN,rN,hpl]
    exact hcont _ _ (hJ.put ckB_nd (t:=96) rfl trivial ⟨Fc,jf.push _,by rw [gs_ne (by decide)];exact jt.push _,fun a=>(by rw [gs_ne (by decide)]at a;exact (jlw a).trans (Low.push (by have:=(jlw a).2;omega) _)),fun _=>⟨by rw [gs_ne (by decide)];exact hd 15 (by decide),G.length,jl,by (first|simp;done|rfl),fun a=>(by rw [gs_ne (by decide),hcc 17 (by decide)]at a;cases a),fun e=>by have:=jt.bound _ e;omega,by rw [hget_app0];rfl⟩⟩)
   ·obtain⟨wv,r,w0,w1,w2,w3,w4⟩:=ja (hd 16 (by decide))
    simp (disch:=first|omega|simp only [lnS];try omega) [-getElem?_pos,-getElem?_neg,w1]
    exact hcont _ _ (hJ.put ckB_nd (t:=8) rfl trivial ⟨Fc,jf,by rw [gs_ne (by decide)];exact jt,fun a=>(by rw [gs_ne (by decide)]at a;exact jlw a),fun _=>⟨by rw [gs_ne (by decide)];exact wv,r,w0,by (first|simp [w1];done|rfl),fun _=>by (first|simp;done|rfl),w3,w4⟩⟩)
  rintro s α G hJ hall
  have hsz:s.size=18:=hJ.sz
  have hg:∀i,i<18→s.getD i false=true:=fun i hi=>by
   rw [agD,Array.getElem?_eq_getElem (by omega)]
   exact Array.all_eq_true.1 hall i (by omega)
  obtain⟨Fc,jf,jt,_,ja⟩:=hJ.hp
  rw [hg 14 (by omega)]at jt
  have jt:Tbl G b Fc T1:=jt
  obtain⟨_,r,w0,_,w2,w3,w4⟩:=ja (hg 16 (by omega))
  have a8:=w2 (hg 17 (by omega))
  clear hall hsz hg hJ
  (refine aw_ret ?_;simp (disch:=first|omega|simp only [lnS];try omega) [-getElem?_pos,-getElem?_neg,a8,-notTuple])
  exact⟨Fc,f0.trans jf,jt,fun D hl hgg=>keys1 lN ((hgg r (by have:=lwB.2;omega) (hget_lt w4) w3).trans w4)⟩
 (refine aoo fun K hK=>?_;simp (disch:=first|omega|simp only [lnS];try omega) [-getElem?_pos,-getElem?_neg,h6];refine hK _ _ ?_;clear hK K)
 refine awf (by simp<;>omega) ?_
 refine aw_seq ?_
 rw [if_neg (by simp [h2,h3,h4,h6]),if_neg h5]
 by_cases h7:x.kind=7
 ·rw [if_pos h7]
  have hl2:2<ks.length:=by rw [h7]at hneed;exact hneed
  obtain⟨lX,bX⟩:=g0 (by omega)
  obtain⟨lY,bY⟩:=g1 (by omega)
  obtain⟨lZ,bZ⟩:=g2 hl2
  have hX:ks[0]?=some (ks.getD 0 []):=by rw [gdD,geE (by omega:0<ks.length)];rfl
  have hY:ks[1]?=some (ks.getD 1 []):=by rw [gdD,geE (by omega:1<ks.length)];rfl
  have hZ:ks[2]?=some (ks.getD 2 []):=by rw [gdD,geE hl2];rfl
  obtain⟨jk,hkvd,gk,hjk⟩:=own_at okv k32 (by omega)
  have ax:xindexAddr Tryd.prog 34 kv (.int .i64 0)=some (.pointer (some ⟨jk,0,none⟩)):=by rw [hkvd];exact kr_addr (n:=ks.length) (b:=jk) (j:=0) (by omega)
  have ay:xindexAddr Tryd.prog 34 kv (.int .i64 1)=some (.pointer (some ⟨jk,32,none⟩)):=by rw [hkvd];exact kr_addr (n:=ks.length) (b:=jk) (j:=1) (by omega)
  have az:xindexAddr Tryd.prog 34 kv (.int .i64 2)=some (.pointer (some ⟨jk,64,none⟩)):=by rw [hkvd];exact kr_addr (n:=ks.length) (b:=jk) (j:=2) (by omega)
  generalize ks.getD 0 []=X at *
  generalize ks.getD 1 []=Y at *
  generalize ks.getD 2 []=Z at *
  obtain⟨n,hn⟩:∃n,n=H.length:=⟨_,rfl⟩
  rw [←hn]at gT gC
  obtain⟨u,nk,ok,ho⟩:=opR_ex T X Y (strOfNums Z)
  have hnk:openK (openT T X Y (strOfNums Z))=nk:=by
   rcases ho with ⟨e,_,e2,_⟩ | ⟨e,_⟩
   ·rw [e,e2];rfl
   ·rw [e];rfl
  have hnkk:K32 nk:=by
   rcases ho with ⟨_,_,rfl,_⟩ | ⟨e,_⟩
   ·exact fun z hz=>by cases hz
   ·obtain⟨y,hy,rfl⟩:=openT_keys e
    exact fun z hz=>(h.wf y hy).k32 z (List.mem_of_mem_drop hz)
  rw [hnk,h7]
  (refine aoo fun K hK=>?_;simp (disch:=first|omega|simp only [lnS];try omega) [-getElem?_pos,-getElem?_neg];refine hK _ _ ?_;clear hK K)
  refine awt (by simp<;>omega) ?_
  refine aw_seq ?_
  refine name_aw (fun β hβ=>?_)
  have e4:β 4=.pointer (some ⟨n,0,none⟩):=by rw [hβ,hn];(first|simp;done|rfl)
  have e2:β 2=kv:=by rw [hβ];(first|simp;done|rfl)
  clear hβ
  have hND:ckCD.Nodup:=by decide
  have hST:=@ckC_st' B.length n b jk kv X Y Z u nk ok
  refine aw_inv ckCP (IJ ckCD (ckCV B.length n b jk kv X Y Z u nk ok) β B) (by kernel_rfl) (by kernel_rfl) (by kernel_rfl) (IJ.start rfl) ?_ ?_
  ·intro i s α G k hJ hi0 hsi hd hcc hcont
   have lwG:Low B.length B G:=⟨hJ.lw.2,hJ.lw.1⟩
   have j4:=(hJ.lo 4 (by decide)).trans e4
   have j2:=(hJ.lo 2 (by decide)).trans e2
   have gT:=(lwG.1 _ (hget_lt gT)).trans gT
   have gk:=(lwG.1 _ (hget_lt gk)).trans gk
   have ldT:=ld_tb gT
   have ldX:=kr_load k32 hX gk
   have ldY:=kr_load k32 hY gk
   obtain⟨szl,szc⟩:=key_str k32 hZ gk
   have jl:=lwG.2
   have hi:i=0∨i=1∨i=2∨i=3∨i=4∨i=5∨i=6∨i=7∨i=8∨i=9∨i=10∨i=11∨i=12∨i=13∨i=14∨i=15∨i=16∨i=17∨i=18∨i=19:=by have hi0:i<20:=hi0;omega
   rcases hi with rfl | rfl | rfl | rfl | rfl | rfl | rfl | rfl | rfl | rfl | rfl | rfl | rfl | rfl | rfl | rfl | rfl | rfl | rfl | rfl
   ·simp (disch:=first|omega|simp only [lnS];try omega) [-getElem?_pos,-getElem?_neg,-notTuple,knt,j4]
    exact hcont _ _ (hJ.put hND hST rfl (nlE _) (fun _ _=>rfl) rfl)
   ·have f0:α 100=.pointer (some ⟨n,0,none⟩):=hJ.val 0 100 rfl (hd 0 (by decide))
    simp (disch:=first|omega|simp only [lnS];try omega) [-getElem?_pos,-getElem?_neg,-notTuple,knt,-xload,ldT,f0]
    exact hcont _ _ (hJ.put hND hST rfl (nlE _) (fun _ _=>rfl) rfl)
   ·simp (disch:=first|omega|simp only [lnS];try omega) [-getElem?_pos,-getElem?_neg,-notTuple,knt,j2]
    exact hcont _ _ (hJ.put hND hST rfl (nlE _) (fun _ _=>rfl) rfl)
   ·have f2:α 102=kv:=hJ.val 2 102 rfl (hd 2 (by decide))
    simp (disch:=first|omega|simp only [lnS];try omega) [-getElem?_pos,-getElem?_neg,-notTuple,knt,-xindexAddr,ax,f2]
    exact hcont _ _ (hJ.put hND hST rfl (nlE _) (fun _ _=>rfl) rfl)
   ·have f3:α 103=.pointer (some ⟨jk,0,none⟩):=hJ.val 3 103 rfl (hd 3 (by decide))
    simp (disch:=first|omega|simp only [lnS];try omega) [-getElem?_pos,-getElem?_neg,-notTuple,knt,-xload,ldX,f3]
    exact hcont _ _ (hJ.put hND hST rfl (nlE _) (fun _ _=>rfl) rfl)
   ·simp (disch:=first|omega|simp only [lnS];try omega) [-getElem?_pos,-getElem?_neg,-notTuple,knt,j2]
    exact hcont _ _ (hJ.put hND hST rfl (nlE _) (fun _ _=>rfl) rfl)
   ·have f5:α 105=kv:=hJ.val 5 105 rfl (hd 5 (by decide))
    simp (disch:=first|omega|simp only [lnS];try omega) [-getElem?_pos,-getElem?_neg,-notTuple,knt,-xindexAddr,ay,f5]
    exact hcont _ _ (hJ.put hND hST rfl (nlE _) (fun _ _=>rfl) rfl)
   ·have f6:α 106=.pointer (some ⟨jk,32,none⟩):=hJ.val 6 106 rfl (hd 6 (by decide))
    simp (disch:=first|omega|simp only [lnS];try omega) [-getElem?_pos,-getElem?_neg,-notTuple,knt,-xload,ldY,f6]
    exact hcont _ _ (hJ.put hND hST rfl (nlE _) (fun _ _=>rfl) rfl)
   ·simp (disch:=first|omega|simp only [lnS];try omega) [-getElem?_pos,-getElem?_neg,-notTuple,knt,j2]
    exact hcont _ _ (hJ.put hND hST rfl (nlE _) (fun _ _=>rfl) rfl)
   ·have f8:α 108=kv:=hJ.val 8 108 rfl (hd 8 (by decide))
    simp (disch:=first|omega|simp only [lnS];try omega) [-getElem?_pos,-getElem?_neg,-notTuple,knt,-xindexAddr,az,f8]
    exact hcont _ _ (hJ.put hND hST rfl (nlE _) (fun _ _=>rfl) rfl)
   ·have f9:α 109=.pointer (some ⟨jk,64,none⟩):=hJ.val 9 109 rfl (hd 9 (by decide))
    simp (disch:=first|omega|simp only [lnS];try omega) [-getElem?_pos,-getElem?_neg,-notTuple,knt,-xslice,szl,f9]
    exact hcont _ _ (hJ.put hND hST rfl (nlE _) (fun _ _=>rfl) rfl)
   ·have f10:α 110=.slice (some ⟨jk,64,none⟩) 32 33:=hJ.val 10 110 rfl (hd 10 (by decide))
    simp (disch:=first|omega|simp only [lnS];try omega) [-getElem?_pos,-getElem?_neg,-notTuple,knt,-xconv,szc,f10]
    exact hcont _ _ (hJ.put hND hST rfl (nlE _) (fun _ _=>rfl) rfl)
   ·have f1:α 101=.pointer (some ⟨b,0,none⟩):=hJ.val 1 101 rfl (hd 1 (by decide))
    have f4:α 104=.agg (iv .u8 X).toArray:=hJ.val 4 104 rfl (hd 4 (by decide))
    have f7:α 107=.agg (iv .u8 Y).toArray:=hJ.val 7 107 rfl (hd 7 (by decide))
    have f11:α 111=.string (strOfNums Z):=hJ.val 11 111 rfl (hd 11 (by decide))
    simp (disch:=first|omega|simp only [lnS];try omega) [-getElem?_pos,-getElem?_neg,f1,f4,f7,f11]
    refine⟨by kernel_rfl,AC.mono (open_ac (nro:=H0.length) (γ:=γ) (k:=X) (y:=Y) (s:=strOfNums Z) (tB.low (fun j hj=>lwG.1 j (tB.bound j hj)) lwG.2) (by omega) lX lY (by rw [sn_size,lZ];omega)) ?_⟩
    rintro v' G' hq
    have lwq:=hq.1
    exact hcont _ _ (hJ.put hND hST (t:=112) rfl lwq.2 lwq.1 (openQ_w hq lwG.2 ho))
   ·have f12:=hJ.val 12 112 rfl (hd 12 (by decide))
    obtain⟨w,f,wo⟩:=f12
    have wn:=wo.nt
    simp (disch:=first|omega|simp only [lnS];try omega) [-getElem?_pos,-getElem?_neg,f,-notTuple,wn.1]
    exact hcont _ _ (hJ.put hND hST (t:=99) rfl (nlE _) (fun _ _=>rfl) ⟨w,rfl,wo⟩)
   ·have f13:=hJ.val 13 99 rfl (hd 13 (by decide))
    obtain⟨w,f,wo⟩:=f13
    have wn:=wo.nt
    simp (disch:=first|omega|simp only [lnS];try omega) [-getElem?_pos,-getElem?_neg,f,-notTuple,wn.1]
    exact hcont _ _ (hJ.put hND hST (t:=113) rfl (nlE _) (fun _ _=>rfl) rfl)
   ·have f13:=hJ.val 13 99 rfl (hd 13 (by decide))
    obtain⟨w,f,wo⟩:=f13
    have wn:=wo.nt
    simp (disch:=first|omega|simp only [lnS];try omega) [-getElem?_pos,-getElem?_neg,f,-notTuple,wn.1]
    exact hcont _ _ (hJ.put hND hST (t:=114) rfl (nlE _) (fun _ _=>rfl) wo)
   ·have f13:=hJ.val 13 99 rfl (hd 13 (by decide))
    obtain⟨w,f,wo⟩:=f13
    have wn:=wo.nt
    simp (disch:=first|omega|simp only [lnS];try omega) [-getElem?_pos,-getElem?_neg,f,-notTuple,wn.1]
    exact hcont _ _ (hJ.put hND hST (t:=115) rfl (nlE _) (fun _ _=>rfl) rfl)
   ·have f14:α 113=.string u:=hJ.val 14 113 rfl (hd 14 (by decide))
    simp (disch:=first|omega|simp only [lnS];try omega) [-getElem?_pos,-getElem?_neg,-notTuple,knt,f14]
    exact hcont _ _ (hJ.put hND hST rfl (nlE _) (fun _ _=>rfl) rfl)
   ·have f15:=hJ.val 15 114 rfl (hd 15 (by decide))
    have wn:=f15.nt
    simp (disch:=first|omega|simp only [lnS];try omega) [-getElem?_pos,-getElem?_neg,-notTuple,wn.1,wn.2]
    exact hcont _ _ (hJ.put hND hST (t:=12) rfl (nlE _) (fun _ _=>rfl) f15)
   ·have f16:α 115=.bool ok:=hJ.val 16 115 rfl (hd 16 (by decide))
    simp (disch:=first|omega|simp only [lnS];try omega) [-getElem?_pos,-getElem?_neg,-notTuple,knt,f16]
    exact hcont _ _ (hJ.put hND hST rfl (nlE _) (fun _ _=>rfl) rfl)
  rintro s α G hJ hall
  have hsz:s.size=20:=hJ.sz
  have hg:∀i,i<20→s.getD i false=true:=fun i hi=>by
   rw [agD,Array.getElem?_eq_getElem (by omega)]
   exact Array.all_eq_true.1 hall i (by omega)
  have lw8:Low B.length B G:=⟨hJ.lw.2,hJ.lw.1⟩
  have a12:OwnK B.length G (α 12) nk:=hJ.val 18 12 rfl (hg 18 (by omega))
  obtain⟨w1,hw1⟩:∃w1,w1=α 12:=⟨_,rfl⟩
  rw [←hw1]at a12
  have wn:=a12.nt
  clear hall hsz hg hJ
  (refine aso fun K hK=>?_;simp (disch:=first|omega|simp only [lnS];try omega) [-getElem?_pos,-getElem?_neg,←hw1,-notTuple,wn.1,wn.2];refine hK _ _ ?_;clear hK K)
  (refine aw_ret ?_;simp (disch:=first|omega|simp only [lnS];try omega) [-getElem?_pos,-getElem?_neg,-notTuple,wn.1,wn.2])
  exact⟨F,f0.trans (low_fr F lw8),tB.low (fun j hj=>lw8.1 j (tB.bound j hj)) lw8.2,ownK_ksf a12 hnkk (fun j hj=>by have:=hFl j hj;omega) lwB.2⟩
 rw [if_neg h7]
 (refine aoo fun K hK=>?_;simp (disch:=first|omega|simp only [lnS];try omega) [-getElem?_pos,-getElem?_neg,h7];refine hK _ _ ?_;clear hK K)
 refine awf (by simp<;>omega) ?_
 refine aw_seq ?_
 by_cases h8:x.kind=8
 ·rw [if_pos h8]
  have hmb:=maybe_vc hx.raw.1 hx.raw.2
  rw [h8]
  (refine aoo fun K hK=>?_;simp (disch:=first|omega|simp only [lnS];try omega) [-getElem?_pos,-getElem?_neg];refine hK _ _ ?_;clear hK K)
  refine awt (by simp<;>omega) ?_
  refine aso fun K hK=>?_
  simp (disch:=first|omega|simp only [lnS];try omega) [-getElem?_pos,-getElem?_neg,-xload,ld4,-notTuple]
  refine⟨by kernel_rfl,ac_of_vc (by simp [pv_iv,pv_int,pv_bool,pv_string,pv_tup2,pv_tup3,iv_plain,p2_int,p2_bool,p2_string]) hmb ?_⟩
  try simp (disch:=first|omega|simp only [lnS];try omega) [-getElem?_pos,-getElem?_neg,-notTuple]
  refine hK _ _ ?_;clear hK K
  have lR:=hx.raw.1
  generalize x.raw=R at *
  have htR:(iv .u8 R).take 32=iv .u8 R:=tkL (by simp [lR])
  have hrow1:setR (List.map (fun j=>(iv .u8 (zl 32))[j%32]?.getD undef) (List.range 32)) 0 (iv .u8 R)=iv .u8 R:=setR_all _ _ (by simp [lR])
  by_cases hr:nmL (plN R)=R
  ·rw [if_pos hr,decide_eq_true hr]
   refine awf (by simp<;>omega) ?_
   refine aw_skip (aw_seq ?_)
   (refine aoo fun K hK=>?_;simp (disch:=first|omega|simp only [lnS];try omega) [-getElem?_pos,-getElem?_neg];refine hK _ _ ?_;clear hK K)
   (refine aw_ret ?_;simp (disch:=first|omega|simp only [lnS];try omega) [-getElem?_pos,-getElem?_neg])
   exact ck_nil f0 tB
  ·rw [if_neg hr,decide_eq_false hr]
   refine awt (by simp<;>omega) ?_
   (refine aso fun K hK=>?_;simp (disch:=first|omega|simp only [lnS];try omega) [-getElem?_pos,-getElem?_neg,-xload,ld4,lR,htR,hrow1,hpl,-notTuple];refine hK _ _ ?_;clear hK K)
   (refine aw_ret ?_;simp (disch:=first|omega|simp only [lnS];try omega) [-getElem?_pos,-getElem?_neg,-notTuple])
   exact ck_one f0 tB lR
 ·rw [if_neg h8]
  (refine aoo fun K hK=>?_;simp (disch:=first|omega|simp only [lnS];try omega) [-getElem?_pos,-getElem?_neg,h8];refine hK _ _ ?_;clear hK K)
  refine awf (by simp<;>omega) ?_
  refine aw_skip (aw_seq ?_)
  (refine aoo fun K hK=>?_;simp (disch:=first|omega|simp only [lnS];try omega) [-getElem?_pos,-getElem?_neg];refine hK _ _ ?_;clear hK K)
  (refine aw_ret ?_;simp (disch:=first|omega|simp only [lnS];try omega) [-getElem?_pos,-getElem?_neg])
  exact ck_nil f0 tB
end
section
theorem KsP.part{H:AH}{F:List Nat}{v:Value}{ks:List (List Int)}(h:KsP H F v ks)(hk:∀k∈ks,k.length=32):PartK H H.length v ks:=h.now.part hk
theorem cookM_k{T:List TermD}{seen ks:List (List Int)}{c:CookD}(hw:∀x∈T,x.Wf)(hs:∀k∈seen,k.length=32∧By k)(hr:Key32 c.raw):∀k∈(cookM T seen ks c).2,k.length=32∧By k:=fun k hk=>by
 have hnm:∀n:Int,∀k∈[nmL n],k.length=32∧By k:=fun n k hk=>by
  rw [msG.1 hk]
  exact⟨rfl,nmL_by _⟩
 unfold cookM at hk
 split at hk
 ·simp only at hk
  split at hk
  ·rename_i h
   rw [msG.1 hk]
   refine hs _ ?_
   rw [gdD,geE (by omega:c.n.toNat<seen.length)]
   exact List.getElem_mem _
  ·cases hk
 split at hk
 ·exact hnm _ k hk
 split at hk
 ·split at hk
  ·cases hk
  ·exact hnm _ k hk
 split at hk
 ·simp only at hk
  cases ho:openT T (ks.getD 0 []) (ks.getD 1 []) (strOfNums (ks.getD 2 [])) with
  | none=>rw [ho]at hk;cases hk
  | some p=>
   rw [ho]at hk
   obtain⟨x,hx,e⟩:=openT_keys (u:=p.1) (ks:=p.2) ho
   have hk2:k∈p.2:=hk
   rw [e]at hk2
   have hk3:=List.mem_of_mem_drop hk2
   exact⟨(hw x hx).k32 k hk3,(hw x hx).by_ k hk3⟩
 split at hk
 ·simp only at hk
  split at hk
  ·cases hk
  ·rw [msG.1 hk];exact hr
 ·cases hk
theorem cookM_few{T:List TermD}{seen ks:List (List Int)}{c:CookD}{m:Nat}(hm:1≤m)(hw:∀x∈T,x.keys.length≤m):(cookM T seen ks c).2.length≤m:=by
 unfold cookM
 split
 ·simp only
  split
  ·exact hm
  ·exact Nat.zero_le _
 split
 ·exact hm
 split
 ·split
  ·exact Nat.zero_le _
  ·exact hm
 split
 ·simp only
  cases ho:openT T (ks.getD 0 []) (ks.getD 1 []) (strOfNums (ks.getD 2 [])) with
  | none=>exact Nat.zero_le _
  | some p=>
   obtain⟨x,hx,e⟩:=openT_keys (u:=p.1) (ks:=p.2) ho
   show p.2.length≤m
   rw [e,List.length_drop]
   have:=hw x hx
   omega
 split
 ·simp only
  split
  ·exact Nat.zero_le _
  ·exact hm
 ·exact Nat.zero_le _
theorem cookM_len{T:List TermD}{seen ks:List (List Int)}{c:CookD}:(cookM T seen ks c).1.length≤T.length+1:=by
 have h:=addT_le (ckT T ks c) T
 unfold cookM
 split
 ·simp
 split
 ·exact h
 split
 ·split
  ·simp
  ·exact h
 split
 ·simp
 split <;> simp
theorem more_ac{γ:Nat→Option Nat}{H0 H:AH}(hpw:Pw γ H0)(lw0:Low H0.length H0 H){b:Nat}{F:List Nat}{T:List TermD}(h:Tbl H b F T)(hnro:∀j∈F,H0.length≤j){sv mv:Value}{seen made:List (List Int)}(hsv:KsP H F sv seen)(hs32:∀k∈seen,k.length=32∧By k)(hmv:KsP H F mv made)(hk32:∀k∈made,k.length=32∧By k)(hmm:made.length≤100000)
  {C:List Value} {x:CookD} {xv:Value} (hc:CkC H C x xv) (hx:x.Wf) (hxt:x.text.size≤1000) (hxm:x.keys.length≤1000) (hT:T.length≤900000) (hfew:∀y∈T,y.keys.length≤1000) :
  AC Tryd.prog H0.length γ 12 #[.agg #[.pointer (some ⟨b,0,none⟩)],sv,mv,.agg C.toArray] H (CkQ H b F (moreM T seen made x).1 (moreM T seen made x).2):=by
 have cl:=hc.len
 have tC:C.take 36=C:=tkL (by omega)
 have hFl:=h.bound
 have mk32:∀k∈made,k.length=32:=fun k hk=>(hk32 k hk).1
 have sk32:∀k∈seen,k.length=32:=fun k hk=>(hs32 k hk).1
 have mnt:=hmv.nt
 have snt:=hsv.nt
 obtain⟨B,hB⟩:∃B:AH,B=H++[some ⟨[.pointer (some ⟨b,0,none⟩)], 27,none⟩,some ⟨C, 43,none⟩]:=⟨_,rfl⟩
 have gT:hget B H.length=some ⟨[.pointer (some ⟨b,0,none⟩)], 27,none⟩:=by rw [hB,hget_app0];rfl
 have gC:hget B (H.length+1)=some ⟨C, 43,none⟩:=by rw [hB,hget_app];rfl
 have hBl:B.length=H.length+2:=by rw [hB];simp
 have lwB:Low H.length H B:=by rw [hB];exact Low.push (nlE _) _
 have f0:Fr H B F F:=low_fr F lwB
 have tB:Tbl B b F T:=h.low (fun j hj=>lwB.1 j (hFl j hj)) lwB.2
 have lwB0:Low H0.length H0 B:=lowFr lw0 hnro f0
 have mvB:=hmv.fr f0
 have svB:=hsv.fr f0
 have hcB:=hc.low lwB
 have ldC:=(hcB.loads hx gC).2.2.2.2.2
 have hnB:H0.length≤B.length:=lwB0.2
 have hpk:=picked_ac (nro:=H0.length) (γ:=γ) hnB mvB.now mk32 (by omega) hcB hx hxm
 have hpl:plain1 (.slice none 0 0)=true:=rfl
 unfold moreM
 refine ac_of_aw Tryd.func12 rfl Tryd.ntmps12 Tryd.results12 (by simp) ?_
 (refine aso fun K hK=>?_;simp (disch:=first|omega|simp only [lnS];try omega) [-getElem?_pos,-getElem?_neg,cl];refine hK _ _ ?_;clear hK K)
 rw [←hB]
 clear hB
 refine aso fun K hK=>?_
 simp (disch:=first|omega|simp only [lnS];try omega) [-getElem?_pos,-getElem?_neg,-xload,ldC,-notTuple,mnt.1,mnt.2]
 refine⟨by kernel_rfl,AC.mono hpk ?_⟩
 rintro v1 B2 ⟨lw2,kv,rfl,knt,kcs,hok⟩
 try simp (disch:=first|omega|simp only [lnS];try omega) [-getElem?_pos,-getElem?_neg,-notTuple,knt,kcs]
 refine hK _ _ ?_;clear hK K
 have f2:Fr B B2 F F:=low_fr F lw2
 have tB2:Tbl B2 b F T:=tB.low (fun j hj=>lw2.1 j (tB.bound j hj)) lw2.2
 have lwB2:Low H0.length H0 B2:=lowFr lwB0 hnro f2
 have mvB2:=mvB.fr f2
 have svB2:=svB.fr f2
 have hcB2:=hcB.low lw2
 have gT2:=(lw2.1 _ (hget_lt gT)).trans gT
 have gC2:=(lw2.1 _ (hget_lt gC)).trans gC
 have ldC2:=(hcB2.loads hx gC2).2.2.2.2.2
 have ldF2:xload Tryd.prog 27 (.pointer (some ⟨H.length,0,none⟩)) B2=some (.agg #[.pointer (some ⟨b,0,none⟩)]):=by simp [xload,gT2]
 refine aw_seq (aw_seq ?_)
 by_cases hgo:inR made.length x.keys=true∧needN x.kind≤x.keys.length
 ·rw [if_pos hgo]
  obtain⟨Fk,hok,hFk⟩:=hok hgo.1
  have hd:(inR made.length x.keys&&decide (needN x.kind≤x.keys.length))=true:=by rw [hgo.1,decide_eq_true hgo.2];rfl
  rw [hd]
  have hck:=cooked_ac hpw lwB2 tB2 hnro svB2 sk32 hok (fun j hj e=>by have:=hFk j hj;have:=hFl j e;omega) (fun k hk=>hk32 k (pickL_mem hgo.1 k hk)) (by rw [pickL_len];exact hxm) hcB2 hx hxt (by rw [pickL_len];exact hgo.2) hT
  have hnk:=cookM_k (ks:=pickL made x.keys) (c:=x) tB2.wf hs32 hx.raw
  have hnf:=cookM_few (ks:=pickL made x.keys) (seen:=seen) (c:=x) (m:=1000) (by omega) hfew
  generalize cookM T seen (pickL made x.keys) x=R at *
  obtain⟨T1,new⟩:=R
  simp only at hck hnk hnf ⊢
  (refine aoo fun K hK=>?_;simp (disch:=first|omega|simp only [lnS];try omega) [-getElem?_pos,-getElem?_neg];refine hK _ _ ?_;clear hK K)
  refine awf (by simp<;>omega) ?_
  refine aw_skip (aw_seq ?_)
  refine aoo fun K hK=>?_
  simp (disch:=first|omega|simp only [lnS];try omega) [-getElem?_pos,-getElem?_neg,-xload,ldC2,ldF2,-notTuple,mnt.1,snt.1,knt]
  refine⟨by kernel_rfl,AC.mono hck ?_⟩
  rintro v2 G ⟨F1,f1,t1,knf⟩
  have kn:=knf.ksp
  have knn:=kn.nt
  have nk32:K32 new:=fun k hk=>(hnk k hk).1
  obtain⟨R,hR⟩:∃R:Option Blk,R=some ⟨[mv,v2], 34,some 1⟩:=⟨_,rfl⟩
  have gR:hget (G++[R]) G.length=some ⟨[mv,v2], 34,some 1⟩:=by rw [hget_app0];exact hR
  have mvG:=(mvB2.fr f1).fr ((Fr.refl G F1).push [R])
  have kvG:=kn.fr ((Fr.refl G F1).push [R])
  have hcc:=concatK_ac (nro:=H0.length) (γ:=γ) (H:=G++[R]) (v:=undef) (j:=G.length) (xs:=[mv,v2]) (L:=[made,new]) (fun l hl=>by
   simp only [mcN]at hl
   rcases hl with rfl | rfl
   ·exact mk32
   ·exact nk32) gR rfl (fun i x c hx1 hc1=>by
   match i,hx1,hc1 with
   | 0,hx1,hc1=>
    cases hx1
    cases hc1
    exact mvG.part mk32
   | 1,hx1,hc1=>
    cases hx1
    cases hc1
    exact kvG.part nk32
   | i+2,hx1,hc1=>simp at hx1) (by simp [sumK];omega) (by simp) (by have:=lwB2.2;have:=f1.len;simp;omega)
  have hfl:[made,new].flatten=made++new:=by simp
  rw [hfl]at hcc
  have r2:List.range 2=[0,1]:=rfl
  try simp (disch:=first|omega|simp only [lnS];try omega) [-getElem?_pos,-getElem?_neg,hpl,r2,-notTuple,knn.1,knn.2,mnt.1,mnt.2,←hR]
  refine⟨by kernel_rfl,AC.mono hcc ?_⟩
  rintro v3 G3 ⟨ho,hlG,hkG⟩
  have hvn:=ho.nt
  try simp (disch:=first|omega|simp only [lnS];try omega) [-getElem?_pos,-getElem?_neg,-notTuple,hvn.1,hvn.2]
  refine hK _ _ ?_;clear hK K
  have hlG':G.length+1≤G3.length:=by simpa using hlG
  have lw3:Low G.length G G3:=⟨fun j hj=>(hkG j (by simp;omega)).trans (hget_left hj),by omega⟩
  have fin:CkQ H b F T1 (made++new) v3 G3:=⟨F1,(f0.trans f2).trans (f1.trans (low_fr F1 lw3)),t1.low (fun j hj=>lw3.1 j (t1.bound j hj)) lw3.2,ownK_ksf ho (fun k hk=>by
   rcases maP.1 hk with e | e
   ·exact mk32 k e
   ·exact nk32 k e) (fun j hj=>by have:=t1.bound j hj;simp;omega) (by have:=(f0.trans f2).len;have:=f1.len;simp;omega)⟩
  (refine aw_ret ?_;simp (disch:=first|omega|simp only [lnS];try omega) [-getElem?_pos,-getElem?_neg,-notTuple,hvn.1,hvn.2])
  exact fin
 ·rw [if_neg hgo]
  have hd:(inR made.length x.keys&&decide (needN x.kind≤x.keys.length))=false:=by
   rw [Bool.eq_false_iff]
   intro e
   rw [Bool.and_eq_true]at e
   exact hgo ⟨e.1,of_decide_eq_true e.2⟩
  rw [hd]
  have hcl:=cloneP_ac (nro:=H0.length) (γ:=γ) (mvB2.part mk32) mk32 (by omega) lwB2.2
  (refine aoo fun K hK=>?_;simp (disch:=first|omega|simp only [lnS];try omega) [-getElem?_pos,-getElem?_neg];refine hK _ _ ?_;clear hK K)
  refine awt (by simp<;>omega) ?_
  refine aso fun K hK=>?_
  simp (disch:=first|omega|simp only [lnS];try omega) [-getElem?_pos,-getElem?_neg,-notTuple,mnt.1]
  refine⟨by kernel_rfl,AC.mono hcl ?_⟩
  rintro v2 G ⟨ho,lwG⟩
  have hvn:=ho.nt
  try simp (disch:=first|omega|simp only [lnS];try omega) [-getElem?_pos,-getElem?_neg,-notTuple,hvn.1,hvn.2]
  refine hK _ _ ?_;clear hK K
  have fin:CkQ H b F T made v2 G:=⟨F,(f0.trans f2).trans (low_fr F lwG),tB2.low (fun j hj=>lwG.1 j (tB2.bound j hj)) lwG.2,ownK_ksf ho mk32 (fun j hj=>tB2.bound j hj) (f0.trans f2).len⟩
  (refine aw_ret ?_;simp (disch:=first|omega|simp only [lnS];try omega) [-getElem?_pos,-getElem?_neg,-notTuple,hvn.1,hvn.2])
  exact fin
end
section
structure CkP (H:AH) (F:List Nat) (v:Value) (L:List CookD):Prop where
 nt:notTuple v=true
 cs:v.cells=#[v]
 len:xlen Tryd.prog 22 v=some (.int .i64 (L.length:Nat))
 at_:∀ (i:Nat) (x:CookD),L[i]?=some x→∃p C kv,notTuple p=true∧xindexAddr Tryd.prog 22 v (.int .i64 (i:Nat))=some p∧∀G:AH,H.length≤G.length→(∀j,j<H.length→j∉F→hget G j=hget H j)→xload Tryd.prog 43 p G=some (.agg C.toArray)∧CkC G C x kv
theorem CkP.fr{H H':AH}{F F':List Nat}{v:Value}{L:List CookD}(h:CkP H F v L)(f:Fr H H' F F'):CkP H' F' v L:=⟨h.nt,h.cs,h.len,fun i x hi=>by
 obtain⟨p,C,kv,h1,h2,h3⟩:=h.at_ i x hi
 refine⟨p,C,kv,h1,h2,fun G hl hg=>h3 G (Nat.le_trans f.len hl) (fun j hj hn=>?_)⟩
 rw [hg j (Nat.lt_of_lt_of_le hj f.len) (fun e=>?_),f.out j hj hn]
 rcases f.new j e with e1 | e1
 ·exact hn e1
 ·omega⟩
theorem CkV.ckp{H0 H:AH}{F:List Nat}{v:Value}{L:List CookD}(h:CkV H0 v L)(hL:∀x∈L,x.Wf)(lw:Low H0.length H0 H)(hF:∀j∈F,H0.length≤j):CkP H F v L:=by
 have ha:=h.acc hL
 refine⟨ha.nt,ha.cs,ha.len,fun i x hi=>?_⟩
 have hlt:=(gsI.1 hi).1
 obtain⟨p,y,h1,h2,_,⟨us,z,kv,rfl,hz,hc⟩,h3⟩:=ha.at_ i hlt
 rw [hi]at hz
 cases hz
 have up:∀G:AH,H.length≤G.length→(∀j,j<H.length→j∉F→hget G j=hget H j)→Low H0.length H0 G:=fun G hl hg=>⟨fun j hj=>(hg j (by have:=lw.2;omega) (fun e=>by have:=hF j e;omega)).trans (lw.1 j hj),by have:=lw.2;omega⟩
 exact⟨p,us,kv,h1,h2,fun G hl hg=>⟨h3 G (up G hl hg),hc.low (up G hl hg)⟩⟩
structure CookD.Ok (x:CookD):Prop where
 wf:x.Wf
 text:x.text.size≤1000
 keys:x.keys.length≤998
structure MkOk (T:List TermD) (made:List (List Int)) (n:Nat):Prop where
 k:∀k∈made,k.length=32∧By k
 m:made.length≤n*1000
 t:T.length≤n+10
 few:∀y∈T,y.keys.length≤1000
theorem ckT_few{T:List TermD}{ks:List (List Int)}{c:CookD}(hk:ks.length≤998)(hc:c.kind≠5):(ckT T ks c).keys.length≤1000:=by
 unfold ckT
 split
 ·exact Nat.zero_le _
 split
 ·show ks.length≤_
  omega
 split
 ·show 1≤1000
  omega
 show (ks.drop 2).length+1+1≤1000
 rw [List.length_drop]
 omega
theorem agree_few(T:List TermD)(s p:List Int):(agreeT T s p).keys.length≤1000:=by
 unfold agreeT
 split
 ·split
  ·split
   ·show 2≤1000
    omega
   ·show 2≤1000
    omega
  ·show 2≤1000
   omega
 ·show 2≤1000
  omega
theorem cookM_fewT{T:List TermD}{seen ks:List (List Int)}{c:CookD}(hk:ks.length≤998)(h:∀y∈T,y.keys.length≤1000):∀y∈(cookM T seen ks c).1,y.keys.length≤1000:=fun y hy=>by
 have hadd:(ckT T ks c).keys.length≤1000:=by
  by_cases h5:c.kind=5
  ·unfold ckT
   rw [if_neg (by omega),if_neg (by omega),if_neg (by omega),if_pos h5]
   exact agree_few _ _ _
  ·exact ckT_few hk h5
 have hm:∀y∈addT (ckT T ks c) T,y.keys.length≤1000:=fun y hy=>by
  rcases addT_mem hy with e | rfl
  ·exact h y e
  ·exact hadd
 unfold cookM at hy
 split at hy
 ·exact h y hy
 split at hy
 ·exact hm y hy
 split at hy
 ·split at hy
  ·exact h y hy
  ·exact hm y hy
 split at hy
 ·exact h y hy
 split at hy
 ·exact h y hy
 ·exact h y hy
theorem MkOk.more{T:List TermD}{seen made:List (List Int)}{n:Nat}{x:CookD}(h:MkOk T made n)(hT:∀y∈T,y.Wf)(hx:x.Ok)(hs:∀k∈seen,k.length=32∧By k):MkOk (moreM T seen made x).1 (moreM T seen made x).2 (n+1):=by
 unfold moreM
 by_cases hgo:inR made.length x.keys=true∧needN x.kind≤x.keys.length
 ·rw [if_pos hgo]
  have hk:=cookM_k (ks:=pickL made x.keys) (c:=x) hT hs hx.wf.raw
  have hf:=cookM_few (ks:=pickL made x.keys) (seen:=seen) (c:=x) (m:=1000) (by omega) h.few
  have hl:=cookM_len (T:=T) (ks:=pickL made x.keys) (seen:=seen) (c:=x)
  have hfT:=cookM_fewT (seen:=seen) (c:=x) (ks:=pickL made x.keys) (by rw [pickL_len];exact hx.keys) h.few
  refine⟨fun k hk2=>?_,?_,?_,hfT⟩
  ·rcases maP.1 hk2 with e | e
   ·exact h.k k e
   ·exact hk k e
  ·have:=h.m
   rw [laP]
   omega
  ·have:=h.t
   show (cookM T seen (pickL made x.keys) x).1.length≤_
   omega
 ·rw [if_neg hgo]
  exact⟨h.k,by have:=h.m;show made.length≤_;omega,by have:=h.t;show T.length≤_;omega,h.few⟩
theorem make_ac{γ:Nat→Option Nat}{H0 H:AH}(hpw:Pw γ H0)(lw0:Low H0.length H0 H){b:Nat}{F:List Nat}{T:List TermD}(h:Tbl H b F T)(hnro:∀j∈F,H0.length≤j){sv lv:Value}{seen:List (List Int)}(hsv:KsP H F sv seen)(hs32:∀k∈seen,k.length=32∧By k)
  {L:List CookD} (hlv:CkP H F lv L) (hL:∀x∈L,x.Ok) (hm:L.length≤60) (hT:T.length≤10) (hfew:∀y∈T,y.keys.length≤1000) :
  AC Tryd.prog H0.length γ 10 #[.agg #[.pointer (some ⟨b,0,none⟩)],sv,lv] H (fun v' H'=>CkQ H b F (makeM seen L (T,[])).1 (makeM seen L (T,[])).2 v' H'∧MkOk (makeM seen L (T,[])).1 (makeM seen L (T,[])).2 L.length):=by
 have hpl:plain1 (.slice none 0 0)=true:=rfl
 have hFl:=h.bound
 have snt:=hsv.nt
 have lnt:=hlv.nt
 have lcs:=hlv.cs
 have lln:=hlv.len
 obtain⟨n,hn⟩:∃n,n=H.length:=⟨_,rfl⟩
 obtain⟨B,hB⟩:∃B:AH,B=H++[some ⟨[.pointer (some ⟨b,0,none⟩)], 27,none⟩]:=⟨_,rfl⟩
 have gT:hget B n=some ⟨[.pointer (some ⟨b,0,none⟩)], 27,none⟩:=by rw [hB,hn,hget_app0];rfl
 have lwB:Low H.length H B:=by rw [hB];exact Low.push (nlE _) _
 have f0:Fr H B F F:=low_fr F lwB
 have tB:Tbl B b F T:=h.low (fun j hj=>lwB.1 j (hFl j hj)) lwB.2
 have nF:n∉F:=fun e=>by have:=hFl _ e;omega
 have mk0:MkOk T [] 0:=⟨fun k hk=>(by cases hk),Nat.zero_le _,by omega,hfew⟩
 refine ac_of_aw Tryd.func10 rfl Tryd.ntmps10 Tryd.results10 (by simp) ?_
 (refine aso fun K hK=>?_;simp (disch:=first|omega|simp only [lnS];try omega) [-getElem?_pos,-getElem?_neg];refine hK _ _ ?_;clear hK K)
 rw [←hn,←hB]
 clear hB
 (refine aso fun K hK=>?_;simp (disch:=first|omega|simp only [lnS];try omega) [-getElem?_pos,-getElem?_neg];refine hK _ _ ?_;clear hK K)
 refine aw_seq (aw_seq ?_)
 (refine aoo fun K hK=>?_;simp (disch:=first|omega|simp only [lnS];try omega) [-getElem?_pos,-getElem?_neg,-notTuple,lnt,lcs,-xlen,lln];refine hK _ _ ?_;clear hK K)
 refine aw_block ?_
 refine aw_loop (fun q α G=>∃ (i:Nat) (F1:List Nat) (out:Value),i+q=L.length∧α 1=sv∧α 3=.pointer (some ⟨n,0,none⟩)∧α 7=out∧α 10=lv∧α 11=.int .i64 (L.length:Nat)∧α 12=.int .i64 (i:Nat)∧n∉F1∧n<G.length∧hget G n=hget B n∧Fr B G F F1∧Tbl G b F1 (makeM seen (L.take i) (T,[])).1∧KsF n G F1 out (makeM seen (L.take i) (T,[])).2∧MkOk (makeM seen (L.take i) (T,[])).1 (makeM seen (L.take i) (T,[])).2 i) L.length ?_ ?_
 ·exact⟨0,F,.slice none 0 0,by omega,by (first|simp;done|rfl),by (first|simp;done|rfl),by (first|simp;done|rfl),by (first|simp;done|rfl),by (first|simp;done|rfl),by (first|simp;done|rfl),nF,hget_lt gT,rfl,Fr.refl _ _,tB,fun G _ _=>ks_nil G,mk0⟩
 rintro q α G ⟨i,F1,out,hiq,e1,e3,e7,e10,e11,e12,hnF,hnG,hgn,f1,t1,k1,mk1⟩
 have gT1:=hgn.trans gT
 have ont:=k1.ksp.nt
 refine aw_seq ?_
 by_cases hi:i<L.length
 ·have hi':(i:Int)<L.length:=by omega
  obtain⟨x,hx⟩:∃x,L[i]?=some x:=⟨_,geE hi⟩
  have hxo:=hL x (moG hx)
  have f01:=f0.trans f1
  obtain⟨p,C,kv,p1,p2,p3⟩:=(hlv.fr f01).at_ i x hx
  obtain⟨p4,p5⟩:=p3 G (nlE _) (fun _ _ _=>rfl)
  have cl:=p5.len
  have tC:C.take 36=C:=tkL (by omega)
  have sC:∀Z:List Value,Z.length=36→setR Z 0 C=C:=fun Z hZ=>setR_all _ _ (by omega)
  have hnG0:H0.length≤G.length:=(lowFr lw0 hnro f01).2
  have htk:=makeM_take (seen:=seen) hx (T,[])
  have hmt:=mk1.m
  have htt:=mk1.t
  have mk2:=mk1.more t1.wf hxo hs32
  obtain⟨G2,hG2⟩:∃G2:AH,G2=G++[some ⟨C, 43,none⟩]:=⟨_,rfl⟩
  have lw2:Low G.length G G2:=by rw [hG2];exact Low.push (nlE _) _
  have f2:Fr G G2 F1 F1:=low_fr F1 lw2
  have gC:hget G2 G.length=some ⟨C, 43,none⟩:=by rw [hG2,hget_app0];rfl
  have lG2:=hget_lt gC
  have lw02:Low H0.length H0 G2:=lowFr lw0 hnro (f01.trans f2)
  have hn1:∀j∈F1,H0.length≤j:=f01.lo hnro lw0.2
  have tG2:Tbl G2 b F1 (makeM seen (L.take i) (T,[])).1:=t1.low (fun j hj=>lw2.1 j (t1.bound j hj)) lw2.2
  have hmo:=more_ac hpw lw02 tG2 hn1 (hsv.fr (f01.trans f2)) hs32 (k1.ksp.fr f2) mk1.k (by omega) (p5.low lw2) hxo.wf hxo.text (by have:=hxo.keys;omega) (by omega) mk1.few
  have gT2:=(lw2.1 _ hnG).trans gT1
  have ldF:xload Tryd.prog 27 (.pointer (some ⟨n,0,none⟩)) G2=some (.agg #[.pointer (some ⟨b,0,none⟩)]):=by simp [xload,gT2]
  have ldC:xload Tryd.prog 43 (.pointer (some ⟨G.length,0,none⟩)) G2=some (.agg C.toArray):=((p5.low lw2).loads hxo.wf gC).2.2.2.2.2
  rw [←htk]at hmo mk2
  (refine aoo fun K hK=>?_;simp (disch:=first|omega|simp only [lnS];try omega) [-getElem?_pos,-getElem?_neg,e11,e12,hi'];refine hK _ _ ?_;clear hK K)
  refine aw_seq ?_
  refine awt (by simp<;>omega) ?_
  refine aw_skip (aw_seq ?_)
  refine aw_block ?_
  (refine aso fun K hK=>?_;simp (disch:=first|omega|simp only [lnS];try omega) [-getElem?_pos,-getElem?_neg,e10,e12,-xload,p4,-xindexAddr,p2,p1,-notTuple,lnt,cl,tC,sC,hpl,hnG0];refine hK _ _ ?_;clear hK K)
  rw [←hG2]
  refine aoo fun K hK=>?_
  simp (disch:=first|omega|simp only [lnS];try omega) [-getElem?_pos,-getElem?_neg,e1,e3,e7,-xload,ldF,ldC,-notTuple,snt.1,ont.1]
  refine⟨by kernel_rfl,AC.mono hmo ?_⟩
  rintro v2 G3 ⟨F3,f3,t3,k3⟩
  have nt3:=k3.ksp.nt
  try simp (disch:=first|omega|simp only [lnS];try omega) [-getElem?_pos,-getElem?_neg,-notTuple,nt3.1,nt3.2]
  refine hK _ _ ?_;clear hK K
  (refine aoo fun K hK=>?_;simp (disch:=first|omega|simp only [lnS];try omega) [-getElem?_pos,-getElem?_neg,e12];refine hK _ _ ?_;clear hK K)
  have hnF2:n∉F3:=fun e=>by
   rcases f3.new n e with e' | e'
   ·exact hnF e'
   ·have:=lw2.2;omega
  exact⟨q-1,by omega,i+1,F3,v2,by omega,by (first|simp [e1];done|rfl),by (first|simp [e3];done|rfl),by (first|simp;done|rfl),by (first|simp [e10];done|rfl),by (first|simp [e11];done|rfl),by (first|simp;done|rfl),hnF2,by have:=f3.len;have:=lw2.2;omega,((f3.out n (by have:=lw2.2;omega) hnF).trans (lw2.1 n hnG)).trans hgn,(f1.trans f2).trans f3,t3,k3.less (by have:=lw2.2;omega),mk2⟩
 ·obtain rfl:i=L.length:=by omega
  rw [tkL (nlE _)]at t1 k1 mk1
  (refine aoo fun K hK=>?_;simp (disch:=first|omega|simp only [lnS];try omega) [-getElem?_pos,-getElem?_neg,e11,e12];refine hK _ _ ?_;clear hK K)
  refine aw_seq ?_
  refine awf (by simp<;>omega) ?_
  refine aw_exit (aw_seq ?_)
  (refine aoo fun K hK=>?_;simp (disch:=first|omega|simp only [lnS];try omega) [-getElem?_pos,-getElem?_neg,e7,-notTuple,ont.1,ont.2];refine hK _ _ ?_;clear hK K)
  have fin:CkQ H b F (makeM seen L (T,[])).1 (makeM seen L (T,[])).2 out G∧MkOk (makeM seen L (T,[])).1 (makeM seen L (T,[])).2 L.length:=⟨⟨F1,f0.trans f1,t1,k1.less (by omega)⟩,mk1⟩
  (refine aw_ret ?_;simp (disch:=first|omega|simp only [lnS];try omega) [-getElem?_pos,-getElem?_neg,-notTuple,ont.1,ont.2])
  exact fin
end
section
def greatC(x:CookD):Bool:=decide (200<x.text.size)||decide (10<x.keys.length)
theorem CkV.fld{H:AH}{v:Value}{L:List CookD}(h:CkV H v L)(hL:∀x∈L,x.Wf){i:Nat}{x:CookD}(hi:L[i]?=some x) :
  ∃j kv,xindexAddr Tryd.prog 22 v (.int .i64 (i:Nat))=some (.pointer (some ⟨j,i*36,none⟩))∧InV H kv x.keys∧∀G:AH,Low H.length H G→xload Tryd.prog 3 (.pointer (some ⟨j,i*36,none⟩)) G=some (.int .i64 x.kind)∧xload Tryd.prog 9 (.pointer (some ⟨j,i*36+2,none⟩)) G=some (.string x.text)∧xload Tryd.prog 39 (.pointer (some ⟨j,i*36+3,none⟩)) G=some kv:=by
 have hzw:=hL x (moG hi)
 obtain⟨j,b,us,hv,hb,hle,hx,hus,hul,hle2,hc,hval⟩:=val_at (P:=Tryd.prog) (t := 22) (e := 43) (sz:=36) h (by kernel_rfl) (by kernel_rfl) (by omega) (fun row hr=>by
  obtain⟨y,hy,rfl⟩:=List.mem_map.1 hr
  have h1:=(hL y hy).raw.1
  simp [CookD.row,kd,h1]) (i:=i) (row:=x.row) (by rw [gmP,hi];rfl)
 obtain⟨kv,hcc⟩:=cook_c hzw hval
 have c0:=(hc 0 (by omega)).trans hcc.c0
 have c2:=(hc 2 (by omega)).trans hcc.c2
 have c3:=(hc 3 (by omega)).trans hcc.c3
 rw [Nat.add_zero]at c0
 refine⟨j,kv,hx,hcc.kv,fun G hg=>?_⟩
 have hbG:hget G j=some b:=(hg.1 j (hget_lt hb)).trans hb
 exact⟨by simp [xload,hbG,c0],by simp [xload,hbG,c2],by simp [xload,hbG,c3]⟩
theorem great_rc{γ:Nat→Option Nat}{H:AH}{v:Value}{L:List CookD}(h:CkV H v L)(hL:∀x∈L,x.Wf)(hm:L.length≤maxLen):AC Tryd.prog H.length γ 7 #[v] H (fun v' _=>v'=.bool (decide (60<L.length)||L.any greatC)):=by
 obtain⟨D,hD⟩:∃D:Bool,D=(decide (60<L.length)||L.any greatC):=⟨_,rfl⟩
 rw [←hD]
 obtain⟨hnt,hcs,hln,_⟩:=h.acc hL
 have hm9:L.length≤9223372036854775807:=by simp only [maxLen]at hm;omega
 by_cases h60:60<L.length
 ·have h60':(60:Int)<L.length:=by omega
  have hy:D=true:=by rw [hD,decide_eq_true h60];rfl
  refine ac_of_aw Tryd.func7 rfl Tryd.ntmps7 Tryd.results7 (by simp) ?_
  (refine aso fun K hK=>?_;simp (disch:=first|omega|simp only [lnS];try omega) [-getElem?_pos,-getElem?_neg];refine hK _ _ ?_;clear hK K)
  refine aw_seq (aw_seq ?_)
  (refine aoo fun K hK=>?_;simp (disch:=first|omega|simp only [lnS];try omega) [-getElem?_pos,-getElem?_neg,-notTuple,hnt,hcs,-xlen,hln,h60'];refine hK _ _ ?_;clear hK K)
  refine awt (by simp<;>omega) ?_
  (refine aso fun K hK=>?_;simp (disch:=first|omega|simp only [lnS];try omega) [-getElem?_pos,-getElem?_neg];refine hK _ _ ?_;clear hK K)
  (refine aw_ret ?_;simp (disch:=first|omega|simp only [lnS];try omega) [-getElem?_pos,-getElem?_neg,hy])
 ·have h60':¬ (60:Int)<L.length:=by omega
  refine ac_of_aw Tryd.func7 rfl Tryd.ntmps7 Tryd.results7 (by simp) ?_
  (refine aso fun K hK=>?_;simp (disch:=first|omega|simp only [lnS];try omega) [-getElem?_pos,-getElem?_neg];refine hK _ _ ?_;clear hK K)
  refine aw_seq (aw_seq ?_)
  (refine aoo fun K hK=>?_;simp (disch:=first|omega|simp only [lnS];try omega) [-getElem?_pos,-getElem?_neg,-notTuple,hnt,hcs,-xlen,hln,h60'];refine hK _ _ ?_;clear hK K)
  refine awf (by simp<;>omega) ?_
  refine aw_skip ?_
  refine aw_seq (aw_seq ?_)
  (refine aoo fun K hK=>?_;simp (disch:=first|omega|simp only [lnS];try omega) [-getElem?_pos,-getElem?_neg];refine hK _ _ ?_;clear hK K)
  refine aw_block ?_
  refine aw_loop (fun q α G=>∃i:Nat,i+q=L.length∧α 0=v∧α 3=.int .i64 (i:Nat)∧(L.take i).any greatC=false∧G=H) L.length ?_ ?_
  ·exact⟨0,by omega,by (first|simp;done|rfl),by (first|simp;done|rfl),rfl,rfl⟩
  rintro q α G ⟨i,hiq,e0,e3,hno,rfl⟩
  refine aw_seq (aw_seq ?_)
  by_cases hi:i<L.length
  ·have hi':(i:Int)<L.length:=by omega
   obtain⟨x,hx⟩:∃x,L[i]?=some x:=⟨_,geE hi⟩
   have hxw:=hL x (moG hx)
   obtain⟨j,kv,p1,hkv,p2⟩:=h.fld hL hx
   obtain⟨_,p4,p5⟩:=p2 G (Low.refl (nlE _))
   obtain⟨knt,kcs,kln,_⟩:=hkv.acc
   have hkm:x.keys.length≤9223372036854775807:=by have:=hxw.klen;simp only [maxLen]at this;omega
   have htm:x.text.size≤9223372036854775807:=by have:=hxw.text;simp only [maxLen]at this;omega
   have xst:xlen Tryd.prog 9 (.string x.text)=some (.int .i64 (x.text.size:Nat)):=by
    have hu:und Tryd.prog 9 = .string:=by kernel_rfl
    simp [xlen,hu]
   have htk:(L.take (i+1)).any greatC=greatC x:=by rw [List.take_add_one,hx,List.any_append,hno];simp
   (refine aoo fun K hK=>?_;simp (disch:=first|omega|simp only [lnS];try omega) [-getElem?_pos,-getElem?_neg,e0,e3,-notTuple,hnt,hcs,-xlen,hln,hi'];refine hK _ _ ?_;clear hK K)
   refine awt (by simp<;>omega) ?_
   refine aw_skip (aw_seq ?_)
   refine aw_block ?_
   refine aw_seq ?_
   have hyes:greatC x=true→D=true:=fun e=>by
    rw [hD,Bool.or_eq_true]
    exact .inr (List.any_eq_true.2 ⟨x,moG hx,e⟩)
   by_cases ht:200<x.text.size
   ·have ht':(200:Int)<x.text.size:=by omega
    have hy:=hyes (by unfold greatC;rw [decide_eq_true ht];rfl)
    (refine aoo fun K hK=>?_;simp (disch:=first|omega|simp only [lnS];try omega) [-getElem?_pos,-getElem?_neg,e0,e3,-xload,p4,-notTuple,hnt,-xindexAddr,p1,htm,ht'];refine hK _ _ ?_;clear hK K)
    refine awt (by simp<;>omega) ?_
    (refine aso fun K hK=>?_;simp (disch:=first|omega|simp only [lnS];try omega) [-getElem?_pos,-getElem?_neg];refine hK _ _ ?_;clear hK K)
    (refine aw_ret ?_;simp (disch:=first|omega|simp only [lnS];try omega) [-getElem?_pos,-getElem?_neg,hy])
   ·have ht':¬ (200:Int)<x.text.size:=by omega
    by_cases hk:10<x.keys.length
    ·have hk':(10:Int)<x.keys.length:=by omega
     have hy:=hyes (by unfold greatC;rw [decide_eq_true hk,Bool.or_true])
     (refine aoo fun K hK=>?_;simp (disch:=first|omega|simp only [lnS];try omega) [-getElem?_pos,-getElem?_neg,e0,e3,-xload,p4,p5,-notTuple,hnt,-xindexAddr,p1,htm,ht',knt,-xlen,kln,xst,hk'];refine hK _ _ ?_;clear hK K)
     refine awt (by simp<;>omega) ?_
     (refine aso fun K hK=>?_;simp (disch:=first|omega|simp only [lnS];try omega) [-getElem?_pos,-getElem?_neg];refine hK _ _ ?_;clear hK K)
     (refine aw_ret ?_;simp (disch:=first|omega|simp only [lnS];try omega) [-getElem?_pos,-getElem?_neg,hy])
    ·have hk':¬ (10:Int)<x.keys.length:=by omega
     (refine aoo fun K hK=>?_;simp (disch:=first|omega|simp only [lnS];try omega) [-getElem?_pos,-getElem?_neg,e0,e3,-xload,p4,p5,-notTuple,hnt,-xindexAddr,p1,htm,ht',knt,-xlen,kln,xst,hk'];refine hK _ _ ?_;clear hK K)
     refine awf (by simp<;>omega) ?_
     refine aw_skip ?_
     (refine aoo fun K hK=>?_;simp (disch:=first|omega|simp only [lnS];try omega) [-getElem?_pos,-getElem?_neg,e3];refine hK _ _ ?_;clear hK K)
     exact⟨q-1,by omega,i+1,by omega,by (first|simp [e0];done|rfl),by (first|simp;done|rfl),by rw [htk];unfold greatC;rw [decide_eq_false ht,decide_eq_false hk];rfl,rfl⟩
  ·obtain rfl:i=L.length:=by omega
   rw [tkL (nlE _)]at hno
   (refine aoo fun K hK=>?_;simp (disch:=first|omega|simp only [lnS];try omega) [-getElem?_pos,-getElem?_neg,e0,e3,-notTuple,hnt,hcs,-xlen,hln];refine hK _ _ ?_;clear hK K)
   refine awf (by simp<;>omega) ?_
   refine aw_exit (aw_seq ?_)
   (refine aoo fun K hK=>?_;simp (disch:=first|omega|simp only [lnS];try omega) [-getElem?_pos,-getElem?_neg];refine hK _ _ ?_;clear hK K)
   have hn:D=false:=by rw [hD,hno,decide_eq_false h60];rfl
   (refine aw_ret ?_;simp (disch:=first|omega|simp only [lnS];try omega) [-getElem?_pos,-getElem?_neg,hn])
theorem tbl_new{H:AH}{b mb:Nat}(h:TblF H b mb (.slice none 0 0) [] [] []):Tbl H b [b,mb] []:=⟨mb,_,[],[],[],rfl,h,rfl,fun j hj=>by
 simp only [mcN]at hj
 rcases hj with rfl | rfl
 ·exact hget_lt h.hb
 ·exact hget_lt h.hm⟩
theorem newfree_ac{γ:Nat→Option Nat}{nro:Nat}{H:AH}(hn:nro≤H.length):AC Tryd.prog nro γ 8 #[] H (fun v' H'=>∃b F,v'=.agg #[.pointer (some ⟨b,0,none⟩)]∧Low H.length H H'∧Tbl H' b F []∧∀j∈F,H.length≤j):=by
 have hne:=tnew_ac (nro:=nro) (γ:=γ) (H:=H++[some ⟨[.pointer none], 27,none⟩]) (by simp;omega)
 refine ac_of_aw Tryd.func8 rfl Tryd.ntmps8 Tryd.results8 (by simp) ?_
 (refine aso fun K hK=>?_;simp (disch:=first|omega|simp only [lnS];try omega) [-getElem?_pos,-getElem?_neg];refine hK _ _ ?_;clear hK K)
 refine aso fun K hK=>?_
 simp (disch:=first|omega|simp only [lnS];try omega) [-getElem?_pos,-getElem?_neg]
 refine⟨by kernel_rfl,AC.mono hne ?_⟩
 rintro v1 G ⟨rfl,lw,ht⟩
 have lw':Low H.length H G:=⟨fun j hj=>(lw.1 j (by simp;omega)).trans (hget_left hj),by have:=lw.2;simp at this;omega⟩
 have g0:hget G H.length=some ⟨[.pointer none], 27,none⟩:=(lw.1 _ (by simp)).trans (by rw [hget_app0];rfl)
 have l0:=hget_lt g0
 have hpp:plain1 (.pointer none)=true:=rfl
 have hnG:nro≤H.length:=hn
 try simp (disch:=first|omega|simp only [lnS];try omega) [-getElem?_pos,-getElem?_neg,g0,l0,hnG,hpp,-notTuple]
 refine hK _ _ ?_;clear hK K
 (refine aw_ret ?_;simp (disch:=first|omega|simp only [lnS];try omega) [-getElem?_pos,-getElem?_neg,l0,-notTuple])
 have w1:=tbl_new ht
 simp only [laP,List.length_cons,List.length_nil,Nat.zero_add]at w1
 refine⟨⟨fun j hj=>(hget_set_ne (by omega)).trans (lw'.1 j hj),by have:=lw'.2;simpa using this⟩,[H.length+1+1,H.length+1],?_,fun j hj=>?_⟩
 ·refine w1.low (fun j hj=>hget_set_ne ?_) (by simp)
  simp only [mcN]at hj
  omega
 ·simp only [mcN]at hj
  omega
end
end
section
def sA:TermD:=⟨1,⟨#[97]⟩,[]⟩
def sB:TermD:=⟨1,⟨#[98]⟩,[]⟩
def sX:TermD:=⟨6,⟨#[116,101,120,116]⟩,[n0,zl 32,n1]⟩
def sP:TermD:=⟨3,⟨#[]⟩,[n1]⟩
def sH:TermD:=⟨2,⟨#[104]⟩,[n0]⟩
def sT1:List TermD:=[sA]
def sT2:List TermD:=[sA,sB]
def sT3:List TermD:=[sA,sB,sX]
def sT4:List TermD:=[sA,sB,sX,sP]
def sT5:List TermD:=[sA,sB,sX,sP,sH]
theorem sA_wf:sA.Wf:=wf_atom (by decide)
theorem sB'_wf:sB.Wf:=wf_atom (by decide)
theorem sB_wf:TermD.Wf ⟨6,⟨#[116,101,120,116]⟩,n0::zl 32::[n1]⟩:=wf_seal (by decide) rfl n0_by rfl zl_by32 (fun z hz=>by rw [msG.1 hz];exact⟨rfl,n1_by⟩) (by decide)
theorem sP_wf:sP.Wf:=wf_pub rfl n1_by
theorem sH_wf:sH.Wf:=⟨by decide,by decide,fun k hk=>(by rw [msG.1 hk];rfl),fun k hk=>(by rw [msG.1 hk];exact n0_by),by decide,fun e=>(by cases e),fun e=>(by cases e),fun e=>(by cases e)⟩
theorem sT5_wf:∀x∈sT5,x.Wf:=fun x hx=>by
 simp only [sT5,mcN]at hx
 rcases hx with rfl | rfl | rfl | rfl | rfl
 ·exact sA_wf
 ·exact sB'_wf
 ·exact sB_wf
 ·exact sP_wf
 ·exact sH_wf
theorem kne{x y:TermD}(h:x.kind≠y.kind):x≠y:=fun e=>h (congrArg TermD.kind e)
theorem sT5_nd:sT5.Nodup:=by
 have h1:sA≠sB:=fun e=>absurd (congrArg TermD.text e) (by decide)
 have h2:sA≠sX:=kne (by decide)
 have h3:sA≠sP:=kne (by decide)
 have h4:sA≠sH:=kne (by decide)
 have h5:sB≠sX:=kne (by decide)
 have h6:sB≠sP:=kne (by decide)
 have h7:sB≠sH:=kne (by decide)
 have h8:sX≠sP:=kne (by decide)
 have h9:sX≠sH:=kne (by decide)
 have hA:sP≠sH:=kne (by decide)
 simp [sT5,h1,h2,h3,h4,h5,h6,h7,h8,h9,hA]
theorem s_add{x:TermD}{l:List TermD}{r:List TermD}(h:l++(x::r)=sT5):addT x l=l++[x]∧nameT x l=l.length:=by
 have hw:=sT5_wf
 have hn:=sT5_nd
 rw [←h]at hw hn
 exact add_new (hw x (by simp)) (fun y hy=>hw y (by simp [hy])) (fun hm=>(List.nodup_append.1 hn).2.2 x hm x (by simp) rfl)
theorem sD1:addT sA []=sT1:=(s_add (l:=[]) (r:=[sB,sX,sP,sH]) rfl).1
theorem sD2:addT sB sT1=sT2:=(s_add (l:=sT1) (r:=[sX,sP,sH]) rfl).1
theorem sD3:addT sX sT2=sT3:=(s_add (l:=sT2) (r:=[sP,sH]) rfl).1
theorem sD4:addT sP sT3=sT4:=(s_add (l:=sT3) (r:=[sH]) rfl).1
theorem sD5:addT sH sT4=sT5:=(s_add (l:=sT4) (r:=[]) rfl).1
theorem sV1:nmV sA []=.agg (iv .u8 n0).toArray:=by unfold nmV;rw [(s_add (x:=sA) (l:=[]) (r:=[sB,sX,sP,sH]) rfl).2];rfl
theorem sV2:nmV sB sT1=.agg (iv .u8 n1).toArray:=by unfold nmV;rw [(s_add (x:=sB) (l:=sT1) (r:=[sX,sP,sH]) rfl).2];rfl
theorem sV3:nmL (nameT sX sT2:Nat)=n2:=by rw [(s_add (x:=sX) (l:=sT2) (r:=[sP,sH]) rfl).2];rfl
theorem sV4:nmV sP sT3=.agg (iv .u8 n3).toArray:=by unfold nmV;rw [(s_add (x:=sP) (l:=sT3) (r:=[sH]) rfl).2];rfl
theorem sV5:nmV sH sT4=.agg (iv .u8 n4).toArray:=by unfold nmV;rw [(s_add (x:=sH) (l:=sT4) (r:=[]) rfl).2];rfl
@[reducible] def SP1 (H0 B:AH) (S:List Nat) (tb rb:Nat) (s:Array Bool) (α:Fm) (G:AH):Prop:=
 ∃r5 r6 S2,Pl H0 S2 G tb rb (.slice none 0 0) (if s.getD 5 false=true then sT2 else if s.getD 2 false=true then sT1 else []) [] []∧(∀j∈S,j∈S2∧hget G j=hget B j∧j<B.length)∧r5≠r6 ∧
  (s.getD 6 false=true→α 5=.pointer (some ⟨r5,0,none⟩)∧r5∈S2∧B.length≤r5∧hget G r5=some ⟨iv .u8 (if s.getD 8 false=true then n0 else zl 32), 41,none⟩) ∧
  (s.getD 7 false=true→α 6=.pointer (some ⟨r6,0,none⟩)∧r6∈S2∧B.length≤r6∧hget G r6=some ⟨iv .u8 (if s.getD 9 false=true then n1 else zl 32), 41,none⟩)
theorem SP1.keep{H0 B:AH}{S:List Nat}{tb rb:Nat}{s:Array Bool}{α:Fm}{G:AH}{i t:Nat}{v:Value}(hi:i∉[2,5,6,7,8,9])(ht:t∉[5,6])(h:SP1 H0 B S tb rb s α G):SP1 H0 B S tb rb (s.setIfInBounds i true) (α.put (some t) v) G:=by
 simp only [mcN,not_or]at hi ht
 obtain⟨h1,h2,h3,h4,h5,h6⟩:=hi
 obtain⟨r5,r6,S2,w1,w2,w3,w4,w5⟩:=h
 refine⟨r5,r6,S2,by rw [gs_ne h2,gs_ne h1];exact w1,w2,w3,fun a=>?_,fun a=>?_⟩
 ·rw [gs_ne h3]at a
  rw [gs_ne h5]
  obtain⟨x1,x2⟩:=w4 a
  exact⟨by simpa [put_at,Ne.symm ht.1] using x1,x2⟩
 ·rw [gs_ne h4]at a
  rw [gs_ne h6]
  obtain⟨x1,x2⟩:=w5 a
  exact⟨by simpa [put_at,Ne.symm ht.2] using x1,x2⟩
@[reducible] def SP2 (H0 B:AH) (S:List Nat) (tb rb:Nat) (s:Array Bool) (α:Fm) (G:AH):Prop:=
 ∃r7 rA S2,Pl H0 S2 G tb rb (.slice none 0 0) (if s.getD 8 false=true then sT3 else sT2) sT2 []∧(∀j∈S,j∈S2∧hget G j=hget B j∧j<B.length) ∧
  (s.getD 7 false=true→s.getD 8 false=false→α 27=.slice (some ⟨r7,0,none⟩) 1 1∧r7∈S2∧hget G r7=some ⟨iv .u8 n1, 41,some 32⟩) ∧
  (s.getD 10 false=true→α 7=.pointer (some ⟨rA,0,none⟩)∧rA∈S2∧(H0.length≤rA∧rA∉S)∧hget G rA=some ⟨iv .u8 (if s.getD 11 false=true then n2 else zl 32), 41,none⟩)
theorem SP2.keep{H0 B:AH}{S:List Nat}{tb rb:Nat}{s:Array Bool}{α:Fm}{G:AH}{i t:Nat}{v:Value}(hi:i∉[7,8,10,11])(ht:t∉[27,7])(h:SP2 H0 B S tb rb s α G):SP2 H0 B S tb rb (s.setIfInBounds i true) (α.put (some t) v) G:=by
 simp only [mcN,not_or]at hi ht
 obtain⟨h1,h2,h3,h4⟩:=hi
 obtain⟨r7,rA,S2,w1,w2,w3,w4⟩:=h
 refine⟨r7,rA,S2,by rw [gs_ne h2];exact w1,w2,fun a b=>?_,fun a=>?_⟩
 ·rw [gs_ne h1]at a
  rw [gs_ne h2]at b
  obtain⟨x1,x2⟩:=w3 a b
  exact⟨by simpa [put_at,Ne.symm ht.1] using x1,x2⟩
 ·rw [gs_ne h3]at a
  rw [gs_ne h4]
  obtain⟨x1,x2⟩:=w4 a
  exact⟨by simpa [put_at,Ne.symm ht.2] using x1,x2⟩
def scAD:List (Option Nat):=[some 10,some 11,some 12,some 13,some 14,some 15,some 5,some 6,none,none]
def scAP:List (List Nat):=[[],[0],[1],[],[3],[2,4],[],[],[0,1,2,5,6,7],[0,1,2,3,4,5,6,7,8]]
def scAV(n tb:Nat)(i:Nat)(v:Value):Prop:=match i with
 | 0=>v=.pointer (some ⟨n,0,none⟩)
 | 1=>v=.pointer (some ⟨tb,0,none⟩)
 | 2=>v=.agg (iv .u8 n0).toArray
 | 3=>v=.pointer (some ⟨n,0,none⟩)
 | 4=>v=.pointer (some ⟨tb,0,none⟩)
 | 5=>v=.agg (iv .u8 n1).toArray
 | _=>True
theorem scA_nd:∀i j t:Nat,scAD[i]?=some (some t)→scAD[j]?=some (some t)→i=j:=by
 have h:∀i<10,∀j<10,∀t:Nat,scAD[i]?=some (some t)→scAD[j]?=some (some t)→i=j:=by
  intro i hi j hj t h1 h2
  have h3:scAD[i]?=scAD[j]?:=h1.trans h2.symm
  have h4:(scAD[i]?.bind id).isSome=true:=by rw [h1];rfl
  revert h3 h4
  clear h1 h2
  revert i j
  decide
 intro i j t hi hj
 exact h i (gsI.1 hi).1 j (gsI.1 hj).1 t hi hj
def scBD:List (Option Nat):=[some 20,some 21,some 22,some 23,some 24,some 25,some 26,some 27,some 28,some 29,some 7,none]
def scBP:List (List Nat):=[[],[0],[],[2],[],[],[],[6],[3,4,5,7],[1,8],[],[0,1,2,3,4,5,6,7,8,9,10]]
def scBV(n tb b5 b6:Nat)(i:Nat)(v:Value):Prop:=match i with
 | 0=>v=.pointer (some ⟨n,0,none⟩)
 | 1=>v=.pointer (some ⟨tb,0,none⟩)
 | 2=>v=.pointer (some ⟨n,0,none⟩)
 | 3=>v=.pointer (some ⟨tb,0,none⟩)
 | 4=>v=.agg (iv .u8 n0).toArray
 | 5=>v=.agg (iv .u8 (zl 32)).toArray
 | 6=>v=.agg (iv .u8 n1).toArray
 | 8=>v=.string (strOfNums n2)
 | 9=>v=.agg (iv .u8 n2).toArray
 | _=>True
theorem scB_nd:∀i j t:Nat,scBD[i]?=some (some t)→scBD[j]?=some (some t)→i=j:=by
 have h:∀i<12,∀j<12,∀t:Nat,scBD[i]?=some (some t)→scBD[j]?=some (some t)→i=j:=by
  intro i hi j hj t h1 h2
  have h3:scBD[i]?=scBD[j]?:=h1.trans h2.symm
  have h4:(scBD[i]?.bind id).isSome=true:=by rw [h1];rfl
  revert h3 h4
  clear h1 h2
  revert i j
  decide
 intro i j t hi hj
 exact h i (gsI.1 hi).1 j (gsI.1 hj).1 t hi hj
end
end Go.Proofs.YtlaglpnbmkoakaaDoor
