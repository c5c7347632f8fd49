/-
  Both come to one secret, greeting by greeting.
-/
import Derived.Test.YtcidhpandnjmoaaDoorMqD
import Derived.Test.YtcidhpandnjmoaaDoorMqC
namespace Go.Proofs.YtcidhpandnjmoaaDoor
open Go Go.RowKit
set_option linter.unusedSimpArgs false
set_option linter.unusedVariables false
set_option maxRecDepth 100000
set_option maxHeartbeats 8000000
section
def MtH(H0:AH)(n5 n6 n7 b i:Nat)(H:AH):Prop:=
 ∃ (Y:List Nat) (T:List TermD) (R Rp:List Nat) (sI sP bI bP:List Int) (os ps:List (List Int)) (ov pv:Value),
  Kt H0 Y H b T∧MS T sI sP os bI bP ps∧hget H n5=some ⟨[.pointer (some ⟨b,0,none⟩)], 43,none⟩∧hget H n6=some ⟨bnC sI sP ov, 99,none⟩∧hget H n7=some ⟨bnC bI bP pv, 101,none⟩∧KoV R H ov os∧KoV Rp H pv ps ∧
  (n5∈Y∧n6∈Y∧n7∈Y)∧(∀j,j∈R∨j∈Rp→j∈Y∧j≠n5∧j≠n6∧j≠n7)∧os.length≤8∧T.length≤30+50*i
attribute [local simp] wb_bool wb_undef with_lit XL_nil XL_cons XLc_val XLc_call step1_eq stepW_t stepW_f stepC_n stepC_s stepX_s stepX_n stepN_s calleeX xrecv oneV xop_eq xopR_s xopR_n wantedA_eq wantedG_n wantedG_s plain1_int plain1_bool plain1_string bits_i64 bits_u64 bits_u32 bits_u16 bits_u8 xeqA xagg xcmp xarr allK_iv num_iv calleeOf xread xeff xbin xint xnil xun xstr xload xconv xpart xfield xfieldAddr xindexAddr xindex bnd asInt? xslice xlen xmin xmax xbuild xfill xappend xapp2 xappstr xappmk xcap xcopy xcells eval_tmp eval_const put_at put_none fr0_at cells_agg cells_int cells_bool cells_string cells_ptr cells_slice notTuple tab iv_all hget_app hget_app0 hget_cons0 hget_cons set_app set_app0 setR setR_one QL_nil QL_cons QLc_val stepQ_t stepQ_f stepQC_n stepQC_s stepQX_s SL_nil SL_cons SLc_val stepS_t stepS_f ltT ltF leT leF eqT eqF ltTn ltFn leTn leFn eqTn eqFn beqT beqF bneT bneF wi64 wu64 wu32 wu16 wu8 tmodP tdivP hgetL hgetNe hgetEq setL nums_def nums_len Nat.succ_le_of_lt List.getElem?_cons_zero List.getElem?_cons_succ Option.getD_some Int.toNat_add Int.toNat_mul agM okM agB agI agS agP agL agA okB okI okS okP okSl okA PL_nil plainB_lit PL_cons PLc_val PLc_new stepP_t stepP_f stepPC_n stepPC_s stepPX_s stepPX_n stepPV_n stepPV_s stepPA_t stepPA_c stepPA_l stepPN_s allocOp reloc_sl reloc_ptr thenQ_ret scopeQ_ret inBlockQ_ret RQ resL resV
theorem meets_rc{γ:Nat→Option Nat}{H0:AH}(hpw:Pw γ H0){a c:Nat}(ha:a<256)(hc:c<256):AC Tryd.prog H0.length γ 10 #[.int .u8 (a:Nat),.int .u8 (c:Nat)] H0 (fun v' _=>v'=.bool true):=by
 have hpl:plain1 (.slice none 0 0)=true:=rfl
 have hpp:plain1 (.pointer none)=true:=rfl
 have hal:=fun (G:AH) (hP:Pw γ G)=>alive28_rc (γ:=γ) (H0:=G) hP
 obtain⟨n,hn⟩:∃n,n=a%8:=⟨_,rfl⟩
 obtain⟨M,hM⟩:∃M,M=c%12:=⟨_,rfl⟩
 have hn8:n<8:=by omega
 have hna:(a:Int)%8=(n:Nat):=by omega
 have hMc:(c:Int)%12=(M:Nat):=by omega
 have hM12:M<12:=by omega
 obtain⟨gd0,okI,okP,okO,nd,hTl⟩:=sto_ok (n:=n) (by omega)
 have k32:K32 (stO n):=fun k hk=>(okO k hk).1
 have ol:=stO_len n
 refine ac_of_aw Tryd.func10 rfl Tryd.ntmps10 Tryd.results10 (by simp) ?_
 (refine aso fun K hK=>?_;simp (disch:=first|omega|simp only [lnS];try omega) [-getElem?_pos,-getElem?_neg];refine hK _ _ ?_;clear hK K)
 refine aw_seq (aw_seq ?_)
 refine aoo fun K hK=>?_
 simp (disch:=first|omega|simp only [lnS];try omega) [-getElem?_pos,-getElem?_neg]
 refine⟨by kernel_rfl,ac_of_rc (hal H0 hpw) (by simp [pv_iv,pv_int,pv_bool,pv_string,pv_tup2,pv_tup3,iv_plain,p2_int,p2_bool,p2_string]) ?_⟩
 simp (disch:=first|omega|simp only [lnS];try omega) [-getElem?_pos,-getElem?_neg]
 refine hK _ _ ?_;clear hK K
 refine awf (by simp [eval_tmp,put_at]<;>omega) ?_
 refine aw_skip (aw_seq ?_)
 refine aoo fun K hK=>?_
 simp (disch:=first|omega|simp only [lnS];try omega) [-getElem?_pos,-getElem?_neg]
 refine⟨by kernel_rfl,AC.mono (newfree28_ac (nlE _)) ?_⟩
 rintro v1 G1 ⟨b,F,rfl,lw1,t1,f1⟩
 have k1:=kt_new lw1 t1 f1
 have hn1:=k1.le
 try simp (disch:=first|omega|simp only [lnS];try omega) [-getElem?_pos,-getElem?_neg,hpp,hn1,nt_ptrG,nt_aggG,-notTuple]
 refine hK _ _ ?_;clear hK K
 obtain⟨n5,hn5'⟩:∃n5,n5=G1.length:=⟨_,rfl⟩
 obtain⟨G2,hG2⟩:∃G2:AH,G2=G1++[some ⟨[.pointer (some ⟨b,0,none⟩)], 43,none⟩]:=⟨_,rfl⟩
 have k2:Kt H0 [n5] G2 b []:=by rw [hG2,hn5'];exact k1.push _
 have g5:hget G2 n5=some ⟨[.pointer (some ⟨b,0,none⟩)], 43,none⟩:=by rw [hG2,hn5',hget_app0];rfl
 rw [←hn5',←hG2]
 clear hG2 k1 t1 f1 lw1 hn1
 have hst:=store_ac hpw k2 (n:=n) (by omega) (by simp)
 unfold kitV at hst
 have hif:ifcOk (und Tryd.prog 43)=true:=by kernel_rfl
 have nt_ifcG:∀ (t:Nat) (v:Value),notTuple (.iface t v)=true:=fun _ _=>rfl
 refine aso fun K hK=>?_
 simp (disch:=first|omega|simp only [lnS];try omega) [-getElem?_pos,-getElem?_neg,g5,nt_aggG,nt_ifcG,hif,hna,-notTuple]
 refine⟨by kernel_rfl,AC.mono hst ?_⟩
 rintro v2 G3 ⟨R,ov,rfl,fk,hov⟩
 rw [show onT n (addT preD (addT idD []))=stT0 n from rfl]at fk
 rw [show nN idD []=stI from rfl,show nN preD (addT idD [])=stP from rfl]
 rw [show onN n (addT preD (addT idD []))=stO n from rfl]at hov
 generalize stT0 n=T0 at *
 generalize stI=sI at *
 generalize stP=sP at *
 generalize stO n=os at *
 have lI:=okI.1
 have lP:=okP.1
 have hn3:=fk.kt.le
 have bS:=bnC_set (v:=ov) (C:=iv .u8 (zl 64)++[.slice none 0 0]) lI lP (by simp)
 try simp (disch:=first|omega|simp only [lnS];try omega) [-getElem?_pos,-getElem?_neg,nt_aggG,-notTuple,hn3,hpl,bS,bnC_len (v:=ov) lI lP]
 refine hK _ _ ?_;clear hK K
 obtain⟨n6,hn6'⟩:∃n6,n6=G3.length:=⟨_,rfl⟩
 obtain⟨G4,hG4⟩:∃G4:AH,G4=G3++[some ⟨bnC sI sP ov, 99,none⟩]:=⟨_,rfl⟩
 have k4:Kt H0 (n6::(R++[n5])) G4 b T0:=by rw [hG4,hn6'];exact fk.kt.push _
 have g6:hget G4 n6=some ⟨bnC sI sP ov, 99,none⟩:=by rw [hG4,hn6',hget_app0];rfl
 have s4:∀j,j<G3.length→hget G4 j=hget G3 j:=fun j hj=>by rw [hG4];exact hget_left hj
 have g5':hget G4 n5=some ⟨[.pointer (some ⟨b,0,none⟩)], 43,none⟩:=(s4 n5 (fk.kt.y n5 (by simp)).2).trans ((fk.st n5 (by simp)).trans g5)
 have hov4:KoV R G4 ov os:=hov.step (fun j hj=>⟨hj,s4 j (fk.kt.y j (by simp [hj])).2⟩)
 rw [←hn6',←hG4]
 have R5:∀j∈R,n5<j:=fun j hj=>by have:=fk.nw j hj;have:=(k2.y n5 (by simp)).2;omega
 have R6:∀j∈R,j<n6:=fun j hj=>by have:=(fk.kt.y j (by simp [hj])).2;omega
 have n56:n5<n6:=by have:=(fk.kt.y n5 (by simp)).2;omega
 clear hG4 g5 fk hov hn3 hst bS
 have g5:=g5'
 clear g5'
 obtain⟨hms,up1,ltc⟩:=ms_show gd0 okI okP okO nd (by omega)
 have hks:KsX H0.length (n6::(R++[n5])) G4 ov os:=(hov4.step (R':=n6::(R++[n5])) (fun j hj=>⟨by simp [hj],rfl⟩)).ksx k32
 have hsh:=show_ac hpw k4 okI.1 okI.2 okP.1 okP.2 hks okO (by omega) (by omega)
 generalize pubsT os (addT (pubD sP) (addT (pubD sI) T0))=Tc at *
 generalize nN (pubD sI) T0=bI at *
 generalize nN (pubD sP) (addT (pubD sI) T0)=bP at *
 generalize pubsN os (addT (pubD sP) (addT (pubD sI) T0))=ps at *
 have oI:=hms.nI.k32
 have oP:=hms.nP.k32
 unfold kitV at hsh
 refine aso fun K hK=>?_
 simp (disch:=first|omega|simp only [lnS];try omega) [-getElem?_pos,-getElem?_neg,g5,g6,bnC_all (v:=ov) lI lP,bnC_len (v:=ov) lI lP,nt_aggG,nt_ifcG,hif,-notTuple]
 refine⟨by kernel_rfl,AC.mono hsh ?_⟩
 rintro v3 G5 ⟨Rp,pv,rfl,fk,hpv⟩
 have hn5:=fk.kt.le
 have bS:=bnC_set (v:=pv) (C:=iv .u8 (zl 64)++[.slice none 0 0]) oI.1 oP.1 (by simp)
 try simp (disch:=first|omega|simp only [lnS];try omega) [-getElem?_pos,-getElem?_neg,nt_aggG,-notTuple,hn5,hpl,bS,bnC_len (v:=pv) oI.1 oP.1]
 refine hK _ _ ?_;clear hK K
 obtain⟨n7,hn7'⟩:∃n7,n7=G5.length:=⟨_,rfl⟩
 obtain⟨G6,hG6⟩:∃G6:AH,G6=G5++[some ⟨bnC bI bP pv, 101,none⟩]:=⟨_,rfl⟩
 have k6:Kt H0 (n7::(Rp++(n6::(R++[n5])))) G6 b Tc:=by rw [hG6,hn7'];exact fk.kt.push _
 have g7:hget G6 n7=some ⟨bnC bI bP pv, 101,none⟩:=by rw [hG6,hn7',hget_app0];rfl
 have s6:∀j,j<G5.length→hget G6 j=hget G5 j:=fun j hj=>by rw [hG6];exact hget_left hj
 have o6:∀j∈n6::(R++[n5]),hget G6 j=hget G4 j:=fun j hj=>(s6 j (fk.kt.y j (List.mem_append_right _ hj)).2).trans (fk.st j hj)
 have g5:=(o6 n5 (by simp)).trans g5
 have g6:=(o6 n6 (by simp)).trans g6
 have n67:n6<n7:=by have:=(fk.kt.y n6 (by simp)).2;omega
 have Rp6:∀j∈Rp,n6<j:=fun j hj=>by have:=fk.nw j hj;have:=(k4.y n6 (by simp)).2;omega
 have Rp7:∀j∈Rp,j<n7:=fun j hj=>by have:=(fk.kt.y j (by simp [hj])).2;omega
 have hI:MtH H0 n5 n6 n7 b 0 G6:=by
  refine⟨_,Tc,R,Rp,sI,sP,bI,bP,os,ps,ov,pv,k6,hms,g5,g6,g7,hov4.step (fun j hj=>⟨hj,o6 j (by simp [hj])⟩),hpv.step (fun j hj=>⟨hj,s6 j (fk.kt.y j (by simp [hj])).2⟩),⟨by simp,by simp,by simp⟩,fun j hj=>?_,by omega,by omega⟩
  rcases hj with hj | hj
  ·have:=R5 j hj;have:=R6 j hj
   exact⟨by simp [hj],by omega,by omega,by omega⟩
  ·have:=Rp6 j hj;have:=Rp7 j hj
   exact⟨by simp [hj],by omega,by omega,by omega⟩
 rw [←hn7',←hG6]
 clear hG6 g7 o6 s6 k6 fk hpv bS hn5 hsh hks hov4 hms k4 s4 R5 R6 Rp6 Rp7
 refine aw_seq (aw_seq ?_)
 (refine aoo fun K hK=>?_;simp (disch:=first|omega|simp only [lnS];try omega) [-getElem?_pos,-getElem?_neg];refine hK _ _ ?_;clear hK K)
 refine aw_block ?_
 refine aw_loop (fun q α H=>∃i:Nat,i+q=M∧α 1=.int .u8 (c:Nat)∧α 5=.pointer (some ⟨n5,0,none⟩)∧α 6=.pointer (some ⟨n6,0,none⟩)∧α 7=.pointer (some ⟨n7,0,none⟩)∧α 8=.int .i64 (i:Nat)∧MtH H0 n5 n6 n7 b i H) M ?_ ?_
 ·exact⟨0,by omega,by (first|simp [put_at,put_none,fr0_at];done|rfl),by (first|simp [put_at,put_none,fr0_at];done|rfl),by (first|simp [put_at,put_none,fr0_at];done|rfl),by (first|simp [put_at,put_none,fr0_at];done|rfl),by (first|simp [put_at,put_none,fr0_at];done|rfl),hI⟩
 clear hI
 rintro q α H ⟨ii,hiq,e1,e5,e6,e7,e8,hI⟩
 refine aw_seq (aw_seq ?_)
 by_cases hi:ii<M
 ·have hi':(ii:Int)<(M:Nat):=by omega
  (refine aoo fun K hK=>?_;simp (disch:=first|omega|simp only [lnS];try omega) [-getElem?_pos,-getElem?_neg,e8,e1,hMc,hi',hi];refine hK _ _ ?_;clear hK K)
  refine awt (by simp [eval_tmp,put_at]<;>omega) ?_
  refine aw_skip (aw_seq ?_)
  refine aw_block ?_
  refine aso fun K hK=>?_
  simp (disch:=first|omega|simp only [lnS];try omega) [-getElem?_pos,-getElem?_neg,e8]
  refine⟨by kernel_rfl,ac_of_vc (by simp [pv_iv,pv_int,pv_bool,pv_string,pv_tup2,pv_tup3,iv_plain,p2_int,p2_bool,p2_string]) (digits_dg (by omega)) ?_⟩
  refine hK _ _ ?_;clear hK K
  obtain⟨Y,T,R,Rp,sI,sP,bI,bP,os,ps,ov,pv,kt,hms,g5,g6,g7,kov,kpv,⟨y5,y6,y7⟩,hR,ol,hTl⟩:=hI
  have okI:=hms.okI
  have okP:=hms.okP
  have okO:=hms.okO
  have k32:K32 os:=fun k hk=>(okO k hk).1
  have lI:=okI.1
  have lP:=okP.1
  have hds:=dg_size ii
  have hsa:(mAB++dg ii).size≤100000000:=by rw [ByteArray.size_append];show 2+_≤_;omega
  have hsb:(mBB++dg ii).size≤100000000:=by rw [ByteArray.size_append];show 2+_≤_;omega
  have hza:(⟨#[97,32]⟩:ByteArray).size+(dg ii).size≤9223372036854775807:=by show 2+_≤_;omega
  have hzb:(⟨#[98,32]⟩:ByteArray).size+(dg ii).size≤9223372036854775807:=by show 2+_≤_;omega
  have hea:(⟨#[97,32]⟩:ByteArray)++dg ii=mAB++dg ii:=rfl
  have heb:(⟨#[98,32]⟩:ByteArray)++dg ii=mBB++dg ii:=rfl
  obtain⟨Ta,hTa⟩:∃Ta,Ta=addT ⟨1,mAB++dg ii,[]⟩ T:=⟨_,rfl⟩
  obtain⟨Tb,hTb⟩:∃Tb,Tb=addT ⟨1,mBB++dg ii,[]⟩ Ta:=⟨_,rfl⟩
  obtain⟨Na,hNa⟩:∃Na,Na=nN ⟨1,mAB++dg ii,[]⟩ T:=⟨_,rfl⟩
  obtain⟨Nb,hNb⟩:∃Nb,Nb=nN ⟨1,mBB++dg ii,[]⟩ Ta:=⟨_,rfl⟩
  have la:Ta.length≤T.length+1:=by rw [hTa];exact addT_len _ _
  have lb:Tb.length≤Ta.length+1:=by rw [hTb];exact addT_len _ _
  have upa:T <+: Ta:=by rw [hTa];exact add_up _ _
  have upb:Ta <+: Tb:=by rw [hTb];exact add_up _ _
  obtain⟨gdA,iA⟩:=hms.gd.add (x:=⟨1,mAB++dg ii,[]⟩) (wf_atom hsa) (by omega)
  rw [←hTa,←hNa]at iA
  rw [←hTa]at gdA
  obtain⟨gdB,iB⟩:=gdA.add (x:=⟨1,mBB++dg ii,[]⟩) (wf_atom hsb) (by omega)
  rw [←hTb,←hNb]at iB
  rw [←hTb]at gdB
  have oA:Ok32 Na:=⟨iA.k32.1,iA.k32.2.1⟩
  have oB:Ok32 Nb:=⟨iB.k32.1,iB.k32.2.1⟩
  have hmsb:=hms.up (upa.trans upb) gdB
  have hNl:ps.length=os.length:=hms.nS.len
  have oN1:=hms.nI.k32
  have oN2:=hms.nP.k32
  have m1:=oN1.1
  have m2:=oN2.1
  have oNS:∀k∈ps,k.length=32∧By k∧k≠zl 32:=fun k hk=>by
   obtain⟨o,_,h⟩:=hms.nS.mem hk
   exact h.k32
  have k32p:K32 ps:=fun k hk=>(oNS k hk).1
  obtain⟨hgr,up2,ltd⟩:=beg_names hmsb oA oB (by omega)
  have hbeg0:=fun {Y:List Nat} {G:AH} {w0:Value} (ko:Kt H0 Y G b Tb) (kw:KoV Y G w0 ps)=>begin28_ac hpw ko oA.1 oA.2 oB.1 oB.2 m1 oN1.2.1 oN1.2.2 m2 oN2.2.1 oN2.2.2 kw oNS (by omega) (by omega)
  obtain⟨Td,hTd⟩:∃Td,Td=begT Na Nb bI bP ps Tb:=⟨_,rfl⟩
  obtain⟨NI,hNI⟩:∃NI,NI=nN (pubD Na) (begT0 Na Nb bI bP ps Tb):=⟨_,rfl⟩
  obtain⟨NE,hNE⟩:∃NE,NE=nN (pubD Nb) (addT (pubD Na) (begT0 Na Nb bI bP ps Tb)):=⟨_,rfl⟩
  obtain⟨xx,hxx⟩:∃xx,xx=begN Na Nb bI bP ps Tb:=⟨_,rfl⟩
  obtain⟨one,hone⟩:∃one,one=oneOf ps:=⟨_,rfl⟩
  obtain⟨RS,hRS⟩:∃RS,RS=ps.drop 1:=⟨_,rfl⟩
  have hbeg:∀ {Y:List Nat} {G:AH} {w0:Value},Kt H0 Y G b Tb→KoV Y G w0 ps→AC Tryd.prog H0.length γ 45 #[kitV b,.agg (iv .u8 Na).toArray,.agg (iv .u8 Nb).toArray,.agg (bnC bI bP w0).toArray] G (Beg28Q H0 Y G b Td NI NE one xx bI bP ps):=by
   intro Y G w0 ko kw
   rw [hTd,hNI,hNE,hxx,hone]
   exact hbeg0 ko kw
  clear hbeg0
  rw [show pubD Na=mU Na from rfl,show pubD Nb=mU Nb from rfl]at *
  rw [←hTd,←hNI,←hNE,←hxx]at hgr
  rw [←hTd]at up2 ltd
  clear hTd hNI hNE hxx
  have hms2:=hmsb.up up2 hgr.gd
  obtain⟨T1,hpk,hx1,gdE,up3,lte⟩:=pick_names hms2 hgr oA oB (by omega)
  rw [←hone]at hpk
  have mI:=hgr.gi.k32.1
  have mE:=hgr.ge.k32.1
  have mo:one.length=32:=by
   rw [hone]
   cases hNS:ps with
   | nil=>simp [oneOf]
   | cons p l=>exact (oNS p (by simp [hNS])).1
  have ox:xx.length=32∧By xx∧xx≠zl 32:=by
   obtain⟨ks,_,h⟩:=hgr.gx
   exact h.k32
  have bo:By one:=by
   rw [hone]
   cases hNS:ps with
   | nil=>exact fun x hx=>by have:=List.eq_of_mem_replicate hx;omega
   | cons p l=>exact (oNS p (by simp [hNS])).2.1
  have mx:=ox.1
  have sx:setR (iv .u8 (zl 32)) 0 (iv .u8 xx)=iv .u8 xx:=setR_all _ _ (by simp [mx])
  have hle4:=kt.le
  obtain⟨lo,hlo⟩:∃lo,lo=H.length:=⟨_,rfl⟩
  refine aw_seq ?_
  refine name_aw (fun β hβ=>?_)
  have e5:β 5=.pointer (some ⟨n5,0,none⟩):=by rw [hβ];(first|simp [put_at,put_none,fr0_at,e5];done|rfl)
  have e6:β 6=.pointer (some ⟨n6,0,none⟩):=by rw [hβ];(first|simp [put_at,put_none,fr0_at,e6];done|rfl)
  have e7:β 7=.pointer (some ⟨n7,0,none⟩):=by rw [hβ];(first|simp [put_at,put_none,fr0_at,e7];done|rfl)
  have e8:β 8=.int .i64 (ii:Nat):=by rw [hβ];(first|simp [put_at,put_none,fr0_at,e8];done|rfl)
  have e1:β 1=.int .u8 (c:Nat):=by rw [hβ];(first|simp [put_at,put_none,fr0_at,e1];done|rfl)
  have e9:β 9=.string (dg ii):=by rw [hβ];(first|simp [put_at,put_none,fr0_at];done|rfl)
  clear hβ
  have hob:=kt_obj (H0:=H0) (b:=b) (l:=[(6,Ta),(11,Tb),(13,Td)]) (T0:=T)
  have hsh:shapeK mtD (mtS H0.length b n5 n7 ii lo pv bI bP Na Nb NI NE one xx RS) [6,11,13]=true:=rfl
  have hst:StV H0.length (mtV H0.length b n5 n7 ii lo pv bI bP Na Nb NI NE one xx RS):=by
   intro G G' X X' i v hl hn hx hv
   unfold mtV at hv ⊢
   split at hv <;> first | exact hv | (obtain⟨ov,h1,h2⟩:=hv;exact⟨ov,h1,h2.step hx⟩)
  have hsc:∀k∈mtS H0.length b n5 n7 ii lo pv bI bP Na Nb NI NE one xx RS,StC H0.length k.c:=by
   intro k hk
   simp only [mtS,mcN]at hk
   rcases hk with rfl | rfl | rfl <;> intro G G' X X' cs hl hn hx hv
   ·exact hv
   ·exact hv
   ·obtain⟨ov,h1,h2⟩:=hv
    exact⟨ov,h1,h2.step hx⟩
  refine aw_inv mtP (JkE H0.length mtD mtP (mtV H0.length b n5 n7 ii lo pv bI bP Na Nb NI NE one xx RS) (mtS H0.length b n5 n7 ii lo pv bI bP Na Nb NI NE one xx RS) (fun s Y G=>Kt H0 Y G b (stT [(6,Ta),(11,Tb),(13,Td)] T s)) β ([n5,n6,n7]++(R++Rp)) H) (by kernel_rfl) (by kernel_rfl) (by kernel_rfl) ?_ ?_ ?_
  ·refine JK.start (Y:=Y) (by show Kt H0 _ H b (stT _ _ _);rw [stT_0];exact kt) (fun i hi=>?_) (fun q=>0) ?_ ?_
   ·simp only [maP,mcN]at hi
    rcases hi with (rfl | rfl | rfl) | h
    ·exact y5
    ·exact y6
    ·exact y7
    ·exact (hR i h).1
   ·intro k sk hk ha
    match k,hk with
    | 0,hk=>cases hk;cases ha
    | 1,hk=>cases hk;cases ha
    | 2,hk=>cases hk;cases ha
   ·intro k k' sk sk' hk hk' hne ha
    match k,hk with
    | 0,hk=>cases hk;cases ha
    | 1,hk=>cases hk;cases ha
    | 2,hk=>cases hk;cases ha
  ·intro i s α G k hJ hi0 hsi hd hcc hcont
   obtain⟨X,Y,rs,hJ⟩:=hJ
   have g5:=(hJ.ss n5 (by simp)).2.trans g5
   have g7:=(hJ.ss n7 (by simp)).2.trans g7
   have lg5:=hget_lt g5
   have lg7:=hget_lt g7
   have j5:=(hJ.lo 5 (by decide)).trans e5
   have j7:=(hJ.lo 7 (by decide)).trans e7
   have j9:=(hJ.lo 9 (by decide)).trans e9
   have hle:=hJ.le
   have hnG:=(hob.lo _ _ _ hJ.o).1
   have hi:i=0∨i=1∨i=2∨i=3∨i=4∨i=5∨i=6∨i=7∨i=8∨i=9∨i=10∨i=11∨i=12∨i=13∨i=14∨i=15∨i=16∨i=17∨i=18∨i=19∨i=20∨i=21∨i=22∨i=23∨i=24∨i=25:=by have hi0:i<26:=hi0;omega
   rcases hi with rfl | rfl | rfl | rfl | rfl | rfl | rfl | rfl | rfl | rfl | rfl | rfl | rfl | rfl | rfl | rfl | rfl | rfl | rfl | rfl | rfl | rfl | rfl | rfl | rfl | rfl
   ·unfold XOm
    simp only [gcS]
    simp (disch:=first|omega|simp only [lnS];try omega) [-getElem?_pos,-getElem?_neg,-notTuple,nt_boolG,nt_aggG,nt_intG,nt_ptrG,nt_slG,nt_strG,j5,g5,XO_s,XO_z,XLk_val,XLk_call,headsO,behind,List.length_cons,List.length_nil,mcN,forall_eq_or_imp,forall_eq,List.contains_cons,List.contains_nil]
    exact hcont _ _ ⟨X,Y,rs,hJ.plain hsh hob (i:=0) (t:=44) rfl (by decide) (by simp [mtS]) rfl hd⟩
   ·have f0:α 44=.agg #[.pointer (some ⟨b,0,none⟩)]:=hJ.val 0 44 rfl (hd 0 (by decide))
    unfold XOm
    simp only [gcS]
    simp (disch:=first|omega|simp only [lnS];try omega) [-getElem?_pos,-getElem?_neg,-notTuple,nt_boolG,nt_aggG,nt_intG,nt_ptrG,nt_slG,nt_strG,f0,XO_s,XO_z,XLk_val,XLk_call,headsO,behind,List.length_cons,List.length_nil,mcN,forall_eq_or_imp,forall_eq,List.contains_cons,List.contains_nil]
    exact hcont _ _ ⟨X,Y,rs,hJ.plain hsh hob (i:=1) (t:=45) rfl (by decide) (by simp [mtS]) rfl hd⟩
   ·unfold XOm
    simp only [gcS]
    simp (disch:=first|omega|simp only [lnS];try omega) [-getElem?_pos,-getElem?_neg,-notTuple,nt_boolG,nt_aggG,nt_intG,nt_ptrG,nt_slG,nt_strG,j5,XO_s,XO_z,XLk_val,XLk_call,headsO,behind,List.length_cons,List.length_nil,mcN,forall_eq_or_imp,forall_eq,List.contains_cons,List.contains_nil]
    exact hcont _ _ ⟨X,Y,rs,hJ.plain hsh hob (i:=2) (t:=46) rfl (by decide) (by simp [mtS]) rfl hd⟩
   ·have f2:α 46=.pointer (some ⟨n5,0,none⟩):=hJ.val 2 46 rfl (hd 2 (by decide))
    unfold XOm
    simp only [gcS]
    simp (disch:=first|omega|simp only [lnS];try omega) [-getElem?_pos,-getElem?_neg,-notTuple,nt_boolG,nt_aggG,nt_intG,nt_ptrG,nt_slG,nt_strG,g5,f2,XO_s,XO_z,XLk_val,XLk_call,headsO,behind,List.length_cons,List.length_nil,mcN,forall_eq_or_imp,forall_eq,List.contains_cons,List.contains_nil]
    exact hcont _ _ ⟨X,Y,rs,hJ.plain hsh hob (i:=3) (t:=47) rfl (by decide) (by simp [mtS]) rfl hd⟩
   ·unfold XOm
    simp only [gcS]
    simp (disch:=first|omega|simp only [lnS];try omega) [-getElem?_pos,-getElem?_neg,-notTuple,nt_boolG,nt_aggG,nt_intG,nt_ptrG,nt_slG,nt_strG,j9,XO_s,XO_z,XLk_val,XLk_call,headsO,behind,List.length_cons,List.length_nil,mcN,forall_eq_or_imp,forall_eq,List.contains_cons,List.contains_nil]
    exact hcont _ _ ⟨X,Y,rs,hJ.plain hsh hob (i:=4) (t:=48) rfl (by decide) (by simp [mtS]) rfl hd⟩
   ·have f4:α 48=.string (dg ii):=hJ.val 4 48 rfl (hd 4 (by decide))
    unfold XOm
    simp only [gcS]
    simp (disch:=first|omega|simp only [lnS];try omega) [-getElem?_pos,-getElem?_neg,-notTuple,nt_boolG,nt_aggG,nt_intG,nt_ptrG,nt_slG,nt_strG,hza,hea,f4,XO_s,XO_z,XLk_val,XLk_call,headsO,behind,List.length_cons,List.length_nil,mcN,forall_eq_or_imp,forall_eq,List.contains_cons,List.contains_nil]
    exact hcont _ _ ⟨X,Y,rs,hJ.plain hsh hob (i:=5) (t:=49) rfl (by decide) (by simp [mtS]) rfl hd⟩
   ·have f3:α 47=.pointer (some ⟨b,0,none⟩):=hJ.val 3 47 rfl (hd 3 (by decide))
    have f5:α 49=.string (mAB++dg ii):=hJ.val 5 49 rfl (hd 5 (by decide))
    unfold XOm
    simp only [gcS]
    simp (disch:=first|omega|simp only [lnS];try omega) [-getElem?_pos,-getElem?_neg,f3,f5,nt_aggG,nt_ptrG,nt_strG,-notTuple,XO_s,XO_z,XLk_val,XLk_call,headsO,behind,List.length_cons,List.length_nil,mcN,forall_eq_or_imp,forall_eq,List.contains_cons,List.contains_nil]
    have ko:Kt H0 Y G b T:=by have:=hJ.o;simp only [stT,hsi,if_true,Bool.false_eq_true,if_false]at this;exact this
    refine⟨by kernel_rfl,AC.mono (kt_draw hpw ko hsa (by omega)) ?_⟩
    rintro v' G' ⟨rfl,q1,q2,q3⟩
    have kold:=ko.old ⟨q1,q2,q3⟩
    rw [show addT ⟨1,mAB++dg ii,[]⟩ T=Ta from hTa.symm]at q1
    exact hcont _ _ ⟨_,_,rs,hJ.call (R:=[]) (Y':=Y) hsh hst hsc (by have e:stT [(6,Ta),(11,Tb),(13,Td)] T (s.setIfInBounds 6 true)=Ta:=(by simp only [stT,sgE (show 6<s.size from by rw [hJ.sz];decide),sgN (show (6:Nat)≠11 by decide),hcc 11 (by decide),if_true,Bool.false_eq_true,if_false]);show Kt H0 _ G' b (stT [(6,Ta),(11,Tb),(13,Td)] T _);rw [e];exact q1) q3 kold (fun j hj=>⟨hj,q2 j hj⟩) (fun j hj=>by cases hj) (i:=6) (t:=50) rfl (by simp [mtS]) (by show _=_;rw [hNa]) hd⟩
   ·unfold XOm
    simp only [gcS]
    simp (disch:=first|omega|simp only [lnS];try omega) [-getElem?_pos,-getElem?_neg,-notTuple,nt_boolG,nt_aggG,nt_intG,nt_ptrG,nt_slG,nt_strG,j5,XO_s,XO_z,XLk_val,XLk_call,headsO,behind,List.length_cons,List.length_nil,mcN,forall_eq_or_imp,forall_eq,List.contains_cons,List.contains_nil]
    exact hcont _ _ ⟨X,Y,rs,hJ.plain hsh hob (i:=7) (t:=51) rfl (by decide) (by simp [mtS]) rfl hd⟩
   ·have f7:α 51=.pointer (some ⟨n5,0,none⟩):=hJ.val 7 51 rfl (hd 7 (by decide))
    unfold XOm
    simp only [gcS]
    simp (disch:=first|omega|simp only [lnS];try omega) [-getElem?_pos,-getElem?_neg,-notTuple,nt_boolG,nt_aggG,nt_intG,nt_ptrG,nt_slG,nt_strG,g5,f7,XO_s,XO_z,XLk_val,XLk_call,headsO,behind,List.length_cons,List.length_nil,mcN,forall_eq_or_imp,forall_eq,List.contains_cons,List.contains_nil]
    exact hcont _ _ ⟨X,Y,rs,hJ.plain hsh hob (i:=8) (t:=52) rfl (by decide) (by simp [mtS]) rfl hd⟩
   ·unfold XOm
    simp only [gcS]
    simp (disch:=first|omega|simp only [lnS];try omega) [-getElem?_pos,-getElem?_neg,-notTuple,nt_boolG,nt_aggG,nt_intG,nt_ptrG,nt_slG,nt_strG,j9,XO_s,XO_z,XLk_val,XLk_call,headsO,behind,List.length_cons,List.length_nil,mcN,forall_eq_or_imp,forall_eq,List.contains_cons,List.contains_nil]
    exact hcont _ _ ⟨X,Y,rs,hJ.plain hsh hob (i:=9) (t:=53) rfl (by decide) (by simp [mtS]) rfl hd⟩
   ·have f9:α 53=.string (dg ii):=hJ.val 9 53 rfl (hd 9 (by decide))
    unfold XOm
    simp only [gcS]
    simp (disch:=first|omega|simp only [lnS];try omega) [-getElem?_pos,-getElem?_neg,-notTuple,nt_boolG,nt_aggG,nt_intG,nt_ptrG,nt_slG,nt_strG,hzb,heb,f9,XO_s,XO_z,XLk_val,XLk_call,headsO,behind,List.length_cons,List.length_nil,mcN,forall_eq_or_imp,forall_eq,List.contains_cons,List.contains_nil]
    exact hcont _ _ ⟨X,Y,rs,hJ.plain hsh hob (i:=10) (t:=54) rfl (by decide) (by simp [mtS]) rfl hd⟩
   ·have f8:α 52=.pointer (some ⟨b,0,none⟩):=hJ.val 8 52 rfl (hd 8 (by decide))
    have f10:α 54=.string (mBB++dg ii):=hJ.val 10 54 rfl (hd 10 (by decide))
    unfold XOm
    simp only [gcS]
    simp (disch:=first|omega|simp only [lnS];try omega) [-getElem?_pos,-getElem?_neg,f8,f10,nt_aggG,nt_ptrG,nt_strG,-notTuple,XO_s,XO_z,XLk_val,XLk_call,headsO,behind,List.length_cons,List.length_nil,mcN,forall_eq_or_imp,forall_eq,List.contains_cons,List.contains_nil]
    have ko:Kt H0 Y G b Ta:=by have:=hJ.o;simp only [stT,(hd 6 (by decide)),hsi,if_true,Bool.false_eq_true,if_false]at this;exact this
    refine⟨by kernel_rfl,AC.mono (kt_draw hpw ko hsb (by omega)) ?_⟩
    rintro v' G' ⟨rfl,q1,q2,q3⟩
    have kold:=ko.old ⟨q1,q2,q3⟩
    rw [show addT ⟨1,mBB++dg ii,[]⟩ Ta=Tb from hTb.symm]at q1
    exact hcont _ _ ⟨_,_,rs,hJ.call (R:=[]) (Y':=Y) hsh hst hsc (by have e:stT [(6,Ta),(11,Tb),(13,Td)] T (s.setIfInBounds 11 true)=Tb:=(by simp only [stT,sgE (show 11<s.size from by rw [hJ.sz];decide),sgN (show (11:Nat)≠6 by decide),(hd 6 (by decide)),sgN (show (11:Nat)≠13 by decide),hcc 13 (by decide),if_true,Bool.false_eq_true,if_false]);show Kt H0 _ G' b (stT [(6,Ta),(11,Tb),(13,Td)] T _);rw [e];exact q1) q3 kold (fun j hj=>⟨hj,q2 j hj⟩) (fun j hj=>by cases hj) (i:=11) (t:=55) rfl (by simp [mtS]) (by show _=_;rw [hNb]) hd⟩
   ·unfold XOm
    simp only [gcS]
    simp (disch:=first|omega|simp only [lnS];try omega) [-getElem?_pos,-getElem?_neg,-notTuple,nt_boolG,nt_aggG,nt_intG,nt_ptrG,nt_slG,nt_strG,j7,g7,bnC_all (v:=pv) m1 m2,bnC_len (v:=pv) m1 m2,XO_s,XO_z,XLk_val,XLk_call,headsO,behind,List.length_cons,List.length_nil,mcN,forall_eq_or_imp,forall_eq,List.contains_cons,List.contains_nil]
    exact hcont _ _ ⟨X,Y,rs,hJ.plain hsh hob (i:=12) (t:=56) rfl (by decide) (by simp [mtS]) rfl hd⟩
   ·have f1:α 45=.iface 43 (.agg #[.pointer (some ⟨b,0,none⟩)]):=hJ.val 1 45 rfl (hd 1 (by decide))
    have f6:α 50=.agg (iv .u8 Na).toArray:=hJ.val 6 50 rfl (hd 6 (by decide))
    have f11:α 55=.agg (iv .u8 Nb).toArray:=hJ.val 11 55 rfl (hd 11 (by decide))
    have f12:α 56=.agg (bnC bI bP pv).toArray:=hJ.val 12 56 rfl (hd 12 (by decide))
    unfold XOm
    simp only [gcS]
    simp (disch:=first|omega|simp only [lnS];try omega) [-getElem?_pos,-getElem?_neg,f1,f6,f11,f12,nt_aggG,nt_ptrG,nt_strG,-notTuple,XO_s,XO_z,XLk_val,XLk_call,headsO,behind,List.length_cons,List.length_nil,mcN,forall_eq_or_imp,forall_eq,List.contains_cons,List.contains_nil]
    have kw:KoV Y G pv ps:=kpv.step (R':=Y) (G':=G) (fun j hj=>⟨hJ.xy j (hJ.ss j (by simp [hj])).1,(hJ.ss j (by simp [hj])).2⟩)
    have ko:Kt H0 Y G b Tb:=by have:=hJ.o;simp only [stT,(hJ.cl 11 (hd 11 (by decide)) 6 (by decide)),(hd 11 (by decide)),hsi,if_true,Bool.false_eq_true,if_false]at this;exact this
    refine⟨by kernel_rfl,AC.mono (hbeg ko kw) ?_⟩
    rintro v' G' ⟨R,w,rfl,fk,kov⟩
    rw [←hRS]at kov
    exact hcont _ _ ⟨_,_,rs,hJ.call (R:=R) (Y':=R++Y) hsh hst hsc (by have e:stT [(6,Ta),(11,Tb),(13,Td)] T (s.setIfInBounds 13 true)=Td:=(by simp only [stT,sgE (show 13<s.size from by rw [hJ.sz];decide),sgN (show (13:Nat)≠6 by decide),(hJ.cl 11 (hd 11 (by decide)) 6 (by decide)),sgN (show (13:Nat)≠11 by decide),(hd 11 (by decide)),if_true,Bool.false_eq_true,if_false]);show Kt H0 _ G' b (stT [(6,Ta),(11,Tb),(13,Td)] T _);rw [e];exact fk.kt) fk.le (fun j hj=>(fk.kt.lw.1 j hj).trans (ko.lw.1 j hj).symm) (fun j hj=>⟨List.mem_append_right _ hj,fk.st j hj⟩) (fun j hj=>⟨List.mem_append_left _ hj,fun e=>by have:=fk.nw j hj;have:=(ko.y j e).2;omega⟩) (i:=13) (t:=57) rfl (by simp [mtS]) ⟨w,rfl,kov_kon kov (fun j hj=>⟨List.mem_append_left _ hj,by have:=fk.nw j hj;omega⟩)⟩ hd⟩
   ·have f13:=hJ.val 13 57 rfl (hd 13 (by decide))
    obtain⟨w,e12,k12⟩:=f13
    unfold XOm
    simp only [gcS]
    simp (disch:=first|omega|simp only [lnS];try omega) [-getElem?_pos,-getElem?_neg,e12,XO_s,XO_z,XLk_val,XLk_call,headsO,behind,List.length_cons,List.length_nil,mcN,forall_eq_or_imp,forall_eq,List.contains_cons,List.contains_nil]
    exact hcont _ _ ⟨X,Y,rs,hJ.plain hsh hob (i:=14) (t:=43) rfl (by decide) (by simp [mtS]) ⟨w,rfl,k12⟩ hd⟩
   ·have f14:=hJ.val 14 43 rfl (hd 14 (by decide))
    obtain⟨w,e13,k13⟩:=f14
    unfold XOm
    simp only [gcS]
    simp (disch:=first|omega|simp only [lnS];try omega) [-getElem?_pos,-getElem?_neg,e13,XO_s,XO_z,XLk_val,XLk_call,headsO,behind,List.length_cons,List.length_nil,mcN,forall_eq_or_imp,forall_eq,List.contains_cons,List.contains_nil]
    exact hcont _ _ ⟨X,Y,rs,hJ.plain hsh hob (i:=15) (t:=58) rfl (by decide) (by simp [mtS]) rfl hd⟩
   ·have f14:=hJ.val 14 43 rfl (hd 14 (by decide))
    obtain⟨w,e13,k13⟩:=f14
    unfold XOm
    simp only [gcS]
    simp (disch:=first|omega|simp only [lnS];try omega) [-getElem?_pos,-getElem?_neg,e13,XO_s,XO_z,XLk_val,XLk_call,headsO,behind,List.length_cons,List.length_nil,mcN,forall_eq_or_imp,forall_eq,List.contains_cons,List.contains_nil]
    exact hcont _ _ ⟨X,Y,rs,hJ.plain hsh hob (i:=16) (t:=59) rfl (by decide) (by simp [mtS]) rfl hd⟩
   ·have f14:=hJ.val 14 43 rfl (hd 14 (by decide))
    obtain⟨w,e13,k13⟩:=f14
    unfold XOm
    simp only [gcS]
    simp (disch:=first|omega|simp only [lnS];try omega) [-getElem?_pos,-getElem?_neg,e13,XO_s,XO_z,XLk_val,XLk_call,headsO,behind,List.length_cons,List.length_nil,mcN,forall_eq_or_imp,forall_eq,List.contains_cons,List.contains_nil]
    exact hcont _ _ ⟨X,Y,rs,hJ.plain hsh hob (i:=17) (t:=60) rfl (by decide) (by simp [mtS]) ⟨w,rfl,k13⟩ hd⟩
   ·have f14:=hJ.val 14 43 rfl (hd 14 (by decide))
    obtain⟨w,e13,k13⟩:=f14
    unfold XOm
    simp only [gcS]
    simp (disch:=first|omega|simp only [lnS];try omega) [-getElem?_pos,-getElem?_neg,e13,XO_s,XO_z,XLk_val,XLk_call,headsO,behind,List.length_cons,List.length_nil,mcN,forall_eq_or_imp,forall_eq,List.contains_cons,List.contains_nil]
    exact hcont _ _ ⟨X,Y,rs,hJ.plain hsh hob (i:=18) (t:=61) rfl (by decide) (by simp [mtS]) rfl hd⟩
   ·unfold XOm
    simp only [gcS]
    simp (disch:=first|omega|simp only [lnS];try omega) [-getElem?_pos,-getElem?_neg,-notTuple,nt_boolG,nt_aggG,nt_intG,nt_ptrG,nt_slG,nt_strG,hnG,XO_s,XO_z,XLk_val,XLk_call,headsO,behind,List.length_cons,List.length_nil,mcN,forall_eq_or_imp,forall_eq,List.contains_cons,List.contains_nil]
    exact hcont _ _ ⟨X,_,_,hJ.alloc hsh hob hst hsc (k:=0) rfl rfl (hcc 22 (by decide)) trivial hd⟩
   ·unfold XOm
    simp only [gcS]
    simp (disch:=first|omega|simp only [lnS];try omega) [-getElem?_pos,-getElem?_neg,-notTuple,nt_boolG,nt_aggG,nt_intG,nt_ptrG,nt_slG,nt_strG,hnG,XO_s,XO_z,XLk_val,XLk_call,headsO,behind,List.length_cons,List.length_nil,mcN,forall_eq_or_imp,forall_eq,List.contains_cons,List.contains_nil]
    exact hcont _ _ ⟨X,_,_,hJ.alloc hsh hob hst hsc (k:=1) rfl rfl (hcc 23 (by decide)) trivial hd⟩
   ·unfold XOm
    simp only [gcS]
    simp (disch:=first|omega|simp only [lnS];try omega) [-getElem?_pos,-getElem?_neg,-notTuple,nt_boolG,nt_aggG,nt_intG,nt_ptrG,nt_slG,nt_strG,hnG,hpl,XO_s,XO_z,XLk_val,XLk_call,headsO,behind,List.length_cons,List.length_nil,mcN,forall_eq_or_imp,forall_eq,List.contains_cons,List.contains_nil]
    exact hcont _ _ ⟨X,_,_,hJ.alloc hsh hob hst hsc (k:=2) rfl rfl (hcc 24 (by decide)) trivial hd⟩
   ·have f15:α 58=.agg (hlC NI NE one).toArray:=hJ.val 15 58 rfl (hd 15 (by decide))
    obtain⟨w1,w2,w3,cs0,w4,w5⟩:=hJ.sla 0 _ rfl (hd 19 (by decide))
    rw [hsi]at w5
    have w5:cs0=iv .u8 (zl 96):=w5
    subst w5
    have wl:=(hob.lo _ _ _ hJ.o).2 _ w2
    have w1:α 10=.pointer (some ⟨rs 0,0,none⟩):=w1
    have w4:hget G (rs 0)=some ⟨iv .u8 (zl 96), 104,none⟩:=w4
    have wl1:=wl.1
    have wl2:=wl.2
    unfold XOm
    simp only [gcS]
    simp (disch:=first|omega|simp only [lnS];try omega) [-getElem?_pos,-getElem?_neg,-notTuple,nt_boolG,nt_aggG,nt_intG,nt_ptrG,nt_slG,nt_strG,f15,w1,w4,wl1,wl2,hlC_len mI mE mo,hlC_set (C:=iv .u8 (zl 96)) mI mE mo (by simp),XO_s,XO_z,XLk_val,XLk_call,headsO,behind,List.length_cons,List.length_nil,mcN,forall_eq_or_imp,forall_eq,List.contains_cons,List.contains_nil]
    exact hcont _ _ ⟨X,Y,rs,hJ.store hsh hob hst hsc (k:=0) rfl (hd 19 (by decide)) rfl hd⟩
   ·have f16:α 59=.agg (iv .u8 xx).toArray:=hJ.val 16 59 rfl (hd 16 (by decide))
    obtain⟨w1,w2,w3,cs0,w4,w5⟩:=hJ.sla 1 _ rfl (hd 20 (by decide))
    rw [hsi]at w5
    have w5:cs0=iv .u8 (zl 32):=w5
    subst w5
    have wl:=(hob.lo _ _ _ hJ.o).2 _ w2
    have w1:α 11=.pointer (some ⟨rs 1,0,none⟩):=w1
    have w4:hget G (rs 1)=some ⟨iv .u8 (zl 32), 26,none⟩:=w4
    have wl1:=wl.1
    have wl2:=wl.2
    unfold XOm
    simp only [gcS]
    simp (disch:=first|omega|simp only [lnS];try omega) [-getElem?_pos,-getElem?_neg,-notTuple,nt_boolG,nt_aggG,nt_intG,nt_ptrG,nt_slG,nt_strG,f16,w1,w4,wl1,wl2,mx,sx,XO_s,XO_z,XLk_val,XLk_call,headsO,behind,List.length_cons,List.length_nil,mcN,forall_eq_or_imp,forall_eq,List.contains_cons,List.contains_nil]
    exact hcont _ _ ⟨X,Y,rs,hJ.store hsh hob hst hsc (k:=1) rfl (hd 20 (by decide)) rfl hd⟩
   ·have f17:=hJ.val 17 60 rfl (hd 17 (by decide))
    obtain⟨w,e16,k16⟩:=f17
    obtain⟨w1,w2,w3,cs0,w4,w5⟩:=hJ.sla 2 _ rfl (hd 21 (by decide))
    rw [hsi]at w5
    have w5:cs0=iv .u8 (zl 64)++[.slice none 0 0]:=w5
    subst w5
    have wl:=(hob.lo _ _ _ hJ.o).2 _ w2
    have w1:α 12=.pointer (some ⟨rs 2,0,none⟩):=w1
    have w4:hget G (rs 2)=some ⟨iv .u8 (zl 64)++[.slice none 0 0], 101,none⟩:=w4
    have wl1:=wl.1
    have wl2:=wl.2
    unfold XOm
    simp only [gcS]
    simp (disch:=first|omega|simp only [lnS];try omega) [-getElem?_pos,-getElem?_neg,-notTuple,nt_boolG,nt_aggG,nt_intG,nt_ptrG,nt_slG,nt_strG,w1,w4,wl1,wl2,e16,bnC_len (v:=w) m1 m2,bnC_set (v:=w) (C:=iv .u8 (zl 64)++[.slice none 0 0]) m1 m2 (by simp),XO_s,XO_z,XLk_val,XLk_call,headsO,behind,List.length_cons,List.length_nil,mcN,forall_eq_or_imp,forall_eq,List.contains_cons,List.contains_nil]
    exact hcont _ _ ⟨X,Y,rs,hJ.store hsh hob hst hsc (k:=2) rfl (hd 21 (by decide)) ⟨w,rfl,k16⟩ hd⟩
   ·have f18:α 61=.int .i64 0:=hJ.val 18 61 rfl (hd 18 (by decide))
    unfold XOm
    simp only [gcS]
    simp (disch:=first|omega|simp only [lnS];try omega) [-getElem?_pos,-getElem?_neg,-notTuple,nt_boolG,nt_aggG,nt_intG,nt_ptrG,nt_slG,nt_strG,f18,XO_s,XO_z,XLk_val,XLk_call,headsO,behind,List.length_cons,List.length_nil,mcN,forall_eq_or_imp,forall_eq,List.contains_cons,List.contains_nil]
    exact hcont _ _ ⟨X,Y,rs,hJ.plain hsh hob (i:=25) (t:=13) rfl (by decide) (by simp [mtS]) rfl hd⟩
  rintro s α G hJ hall
  obtain⟨X,Y2,rs,hJ⟩:=hJ
  have hd:∀i,i<26→s.getD i false=true:=fun i hi=>all_done hall (by rw [hJ.sz];exact hi)
  have sl:∀ (q:Nat) (sk:Slot),(mtS H0.length b n5 n7 ii lo pv bI bP Na Nb NI NE one xx RS)[q]?=some sk→sk.st<26→al s sk=true→α sk.t=.pointer (some ⟨rs q,0,none⟩)∧∃cs,hget G (rs q)=some ⟨cs,sk.ty,none⟩∧sk.c G X cs:=fun q sk hq hs ha=>by
   obtain⟨w1,w2,w3,cs,w4,w5⟩:=hJ.sla q sk hq ha
   rw [hd _ hs,if_pos rfl]at w5
   exact⟨w1,cs,w4,w5⟩
  obtain⟨w10,cs3,g10,rfl⟩:=sl 0 _ rfl (by show 22<26;omega) (hd 19 (by omega))
  obtain⟨w11,cs4,g11,rfl⟩:=sl 1 _ rfl (by show 23<26;omega) (hd 20 (by omega))
  obtain⟨w12,cs5,g12,lv,rfl,klv⟩:=sl 2 _ rfl (by show 24<26;omega) (hd 21 (by omega))
  have w10:α 10=.pointer (some ⟨rs 0,0,none⟩):=w10
  have w11:α 11=.pointer (some ⟨rs 1,0,none⟩):=w11
  have w12:α 12=.pointer (some ⟨rs 2,0,none⟩):=w12
  have w13:α 13=.int .i64 0:=hJ.val 25 13 rfl (hd 25 (by omega))
  have w1:=(hJ.lo 1 (by decide)).trans e1
  have w5:=(hJ.lo 5 (by decide)).trans e5
  have w6:=(hJ.lo 6 (by decide)).trans e6
  have w7:=(hJ.lo 7 (by decide)).trans e7
  have w8:=(hJ.lo 8 (by decide)).trans e8
  have g10:hget G (rs 0)=some ⟨hlC NI NE one, 104,none⟩:=g10
  have g11:hget G (rs 1)=some ⟨iv .u8 xx, 26,none⟩:=g11
  have g12:hget G (rs 2)=some ⟨bnC bI bP lv, 101,none⟩:=g12
  have g5:=(hJ.ss n5 (by simp)).2.trans g5
  have g6:=(hJ.ss n6 (by simp)).2.trans g6
  have g7:=(hJ.ss n7 (by simp)).2.trans g7
  have ko:Kt H0 Y2 G b Td:=by
   have:=hJ.o
   simp only [stT,hd 6 (by omega),hd 11 (by omega),hd 13 (by omega),if_true]at this
   exact this
  have hX:∀j∈X,j∈Y2:=hJ.xy
  have yy5:n5∈Y2:=hX _ (hJ.ss n5 (by simp)).1
  have yy6:n6∈Y2:=hX _ (hJ.ss n6 (by simp)).1
  have yy7:n7∈Y2:=hX _ (hJ.ss n7 (by simp)).1
  have hRY:∀j,j∈R∨j∈Rp→j∈Y2∧hget G j=hget H j:=fun j hj=>by
   have:=hJ.ss j (List.mem_append_right _ (maP.2 hj))
   exact⟨hX j this.1,this.2⟩
  have kovY:KoV Y2 G ov os:=kov.step (fun j hj=>hRY j (.inl hj))
  have kpvY:KoV Y2 G pv ps:=kpv.step (fun j hj=>hRY j (.inr hj))
  obtain⟨RL,klv,klr⟩:=klv
  have XA:n5∈X∧n6∈X∧n7∈X:=⟨(hJ.ss n5 (by simp)).1,(hJ.ss n6 (by simp)).1,(hJ.ss n7 (by simp)).1⟩
  have hr:∀q<3,rs q∈Y2:=by
   intro q hq
   match q,hq with
   | 0,_=>exact (hJ.sla 0 _ rfl (hd 19 (by omega))).2.1
   | 1,_=>exact (hJ.sla 1 _ rfl (hd 20 (by omega))).2.1
   | 2,_=>exact (hJ.sla 2 _ rfl (hd 21 (by omega))).2.1
  have hrx:∀q<3,rs q∉X:=by
   intro q hq
   match q,hq with
   | 0,_=>exact (hJ.sla 0 _ rfl (hd 19 (by omega))).2.2.1
   | 1,_=>exact (hJ.sla 1 _ rfl (hd 20 (by omega))).2.2.1
   | 2,_=>exact (hJ.sla 2 _ rfl (hd 21 (by omega))).2.2.1
  have hans:=ans_ac hpw ko okI.1 okI.2 okP.1 okP.2 hgr.gi.k32.1 hgr.gi.k32.2.1 hgr.gi.k32.2.2 hgr.ge.k32.1 hgr.ge.k32.2.1 hgr.ge.k32.2.2 mo bo kovY okO (by omega) (by omega) hpk
  rw [hx1]at hans
  unfold kitV at hans
  generalize hTe:ansT sI sP NI NE (os.take 1) T1=Te at *
  clear hTe hpk hx1 hbeg hst hsc hsh hob sl
  refine aso fun K hK=>?_
  simp (disch:=first|omega|simp only [lnS];try omega) [-getElem?_pos,-getElem?_neg,w5,w6,w10,g5,g6,g10,bnC_all (v:=ov) lI lP,bnC_len (v:=ov) lI lP,hlC_all mI mE mo,hlC_len mI mE mo,nt_aggG,nt_ifcG,hif,-notTuple]
  refine⟨by kernel_rfl,AC.mono hans ?_⟩
  rintro v' G5 ⟨R2,qv,rfl,fk,hqv⟩
  have hn5:=fk.kt.le
  have bS2:=bnC_set (v:=qv) (C:=iv .u8 (zl 64)++[.slice none 0 0]) lI lP (by simp)
  try simp (disch:=first|omega|simp only [lnS];try omega) [-getElem?_pos,-getElem?_neg,nt_aggG,nt_intG,-notTuple,hn5,hpl,bS2,bnC_len (v:=qv) lI lP,mx,sx]
  refine hK _ _ ?_;clear hK K
  obtain⟨t7,ht7⟩:∃t7,t7=G5.length:=⟨_,rfl⟩
  obtain⟨G6,hG6⟩:∃G6:AH,G6=G5++[some ⟨bnC sI sP qv, 99,none⟩,some ⟨iv .u8 xx, 26,none⟩]:=⟨_,rfl⟩
  have kt6:Kt H0 ([t7,t7+1]++(R2++Y2)) G6 b Te:=fk.kt.grow (by rw [hG6];exact⟨fun j hj=>hget_left hj,by simp⟩) (fun j hj=>by
   simp only [mcN]at hj
   rw [hG6];simp only [laP,List.length_cons,List.length_nil];omega)
  have s6:∀j,j<G5.length→hget G6 j=hget G5 j:=fun j hj=>by rw [hG6];exact hget_left hj
  have old:∀j∈Y2,hget G6 j=hget G j:=fun j hj=>(s6 j (fk.kt.y j (by simp [hj])).2).trans (fk.st j hj)
  have g14:hget G6 t7=some ⟨bnC sI sP qv, 99,none⟩:=by rw [hG6,ht7,hget_app0];rfl
  have g15:hget G6 (t7+1)=some ⟨iv .u8 xx, 26,none⟩:=by rw [hG6,ht7,hget_app];rfl
  have g5:=(old _ yy5).trans g5
  have g6:=(old _ yy6).trans g6
  have g7:=(old _ yy7).trans g7
  have g10:=(old _ (hr 0 (by omega))).trans g10
  have g11:=(old _ (hr 1 (by omega))).trans g11
  have g12:=(old _ (hr 2 (by omega))).trans g12
  have kl6:KoV RL G6 lv RS:=klv.step (fun j hj=>⟨hj,old j (hX j (klr j hj).1)⟩)
  have kq6:KoV R2 G6 qv (os.drop 1):=hqv.step (fun j hj=>⟨hj,s6 j (fk.kt.y j (by simp [hj])).2⟩)
  have kp6:KoV Rp G6 pv ps:=kpv.step (fun j hj=>⟨hj,(old j (hRY j (.inr hj)).1).trans (hRY j (.inr hj)).2⟩)
  have R2n:∀j∈R2,G.length≤j∧j<t7:=fun j hj=>⟨fk.nw j hj,by have:=(fk.kt.y j (by simp [hj])).2;omega⟩
  have Y2l:∀j∈Y2,j<G.length:=fun j hj=>(ko.y j hj).2
  have GG5:=fk.le
  rw [←ht7,←hG6]
  have hdl:(os.drop 1).length=RS.length:=by rw [hRS,List.length_drop,List.length_drop,hNl]
  obtain⟨L,hL⟩:∃L:Int,L=(RS.length:Nat):=⟨_,rfl⟩
  have len1:xlen Tryd.prog 23 lv=some (.int .i64 L):=by rw [hL];exact kl6.len
  have len2:xlen Tryd.prog 23 qv=some (.int .i64 L):=by rw [hL,←hdl];exact kq6.len
  have len3:=kp6.len
  have nq:=kq6.nt
  have nl:=kl6.nt
  have np:=kp6.nt
  obtain⟨D,z,hob,hlp,hz1,hz2,hzD⟩:∃ (D:Bool) (z:Int),(one==zl 32)=D∧xlen Tryd.prog 23 pv=some (.int .i64 z)∧(z==0)=D∧decide (z=0)=D∧(D=true↔one=zl 32):=by
   refine⟨one==zl 32,_,rfl,len3,?_,?_,by simp⟩
   all_goals
    cases hps:ps with
    | nil=>rw [hone,hps];rfl
    | cons p l=>
     have h1:one≠zl 32:=by rw [hone,hps];exact (oNS p (by simp [hps])).2.2
     have h2:(one==zl 32)=false:=by rw [beq_eq_false_iff_ne];exact h1
     rw [h2]
     simp only [List.length_cons,beq_eq_false_iff_ne,decide_eq_false_iff_not,ne_eq]
     omega
  have hu:und Tryd.prog 23 = .slice 26 := by kernel_rfl
  have lda:∀ (V:AH) (n:Nat) (v:Value) (x y:List Int) (ty:Nat),x.length=32→y.length=32→hget V n=some ⟨bnC x y v,ty,none⟩→xload Tryd.prog 23 (.pointer (some ⟨n,64,none⟩)) V=some v:=by
   intro V n v x y ty hx hy hg
   simp [xload,hg,bnC_3 (v:=v) hx hy,isAggD,okD,hu]
  have ldk:∀ (n:Nat),hget G6 n=some ⟨iv .u8 xx, 26,none⟩→xload Tryd.prog 26 (.pointer (some ⟨n,0,none⟩)) G6=some (.agg (iv .u8 xx).toArray):=by
   intro n hg
   have ht:(iv .u8 xx).take 32=iv .u8 xx:=tkL (by simp [mx])
   simp [xload,hg,mx,ht]
  have ldh:∀ (V:AH),hget V (rs 0)=some ⟨hlC NI NE one, 104,none⟩→xload Tryd.prog 26 (.pointer (some ⟨rs 0,64,none⟩)) V=some (.agg (iv .u8 one).toArray):=by
   intro V hg
   have h3:=hlC_3 mI mE mo
   have hl96:=hlC_len mI mE mo
   simp [xload,hg,h3,hl96]
  have ld11:=ldk _ g11
  have ld15:=ldk _ g15
  have ld14:=lda _ _ qv sI sP _ lI lP g14
  have ld12:=lda _ _ lv bI bP _ m1 m2 g12
  have ld7:=lda _ _ pv bI bP _ m1 m2 g7
  have ld10:=ldh _ g10
  have hag:=again_ac hpw kt6 (hms2.up up3 gdE) (hgr.up up3 gdE) oA oB hone mo bo (w:=qv) (kq6.step (fun j hj=>⟨List.mem_append_right _ (List.mem_append_left _ hj),rfl⟩)) ol (by omega)
  unfold kitV at hag
  obtain⟨e2,he2⟩:∃e2:Int,e2=if one=zl 32 then 0 else 22:=⟨_,rfl⟩
  rw [←he2]at hag
  refine aw_seq (aw_seq ?_)
  (refine aw_plan [] [] [0,1,2,3,4,5,6,7,8,9,10,11,12,13,14,15,16,17,18,19,20,21,22,23,24,25,26,27,28,29,30] 31 0 (by kernel_rfl) (by kernel_rfl) (by kernel_rfl) (fun K hK=>?_));simp only [sel,gcS,gdZ];simp (disch:=first|omega|simp only [lnS];try omega) [-getElem?_pos,-getElem?_neg,w13,w10,w11,w12,w7,ld11,ld15,ld14,ld12,ld7,ld10,len1,len2,hlp,hob,hz1,hz2,mo,nq.1,nl.1,np.1,nt_aggG,nt_intG,nt_ptrG,nt_boolG,-notTuple,-xlen,-xload,Nat.add_assoc]
  refine hK _ _ ?_;clear hK K
  refine awf (by simp [eval_tmp,put_at]<;>omega) ?_
  refine aw_skip (aw_seq ?_)
  refine aoo fun K hK=>?_
  simp (disch:=first|omega|simp only [lnS];try omega) [-getElem?_pos,-getElem?_neg,w5,w10,g5,g14,g10,bnC_all (v:=qv) lI lP,bnC_len (v:=qv) lI lP,hlC_all mI mE mo,hlC_len mI mE mo,nt_aggG,nt_ifcG,hif,-notTuple]
  refine⟨by kernel_rfl,AC.mono hag ?_⟩
  rintro v' G7 ⟨A2,K2,T2,R3,rfl,lA,lK,fk2,up4,gd2,lt2⟩
  have hn7:=fk2.kt.le
  have bA2:setR (iv .u8 (zl 64)++[.slice none 0 0]) 0 A2=A2:=setR_all _ _ (by simp [lA])
  have sK2:setR (iv .u8 (zl 32)) 0 (iv .u8 K2)=iv .u8 K2:=setR_all _ _ (by simp [lK])
  try simp (disch:=first|omega|simp only [lnS];try omega) [-getElem?_pos,-getElem?_neg,nt_aggG,nt_intG,-notTuple,hn7,hpl,bA2,lA,lK,sK2]
  refine hK _ _ ?_;clear hK K
  obtain⟨t8,ht8⟩:∃t8,t8=G7.length:=⟨_,rfl⟩
  obtain⟨G8,hG8⟩:∃G8:AH,G8=G7++[some ⟨A2, 99,none⟩,some ⟨iv .u8 K2, 26,none⟩]:=⟨_,rfl⟩
  have kt8:Kt H0 ([t8,t8+1]++(R3++([t7,t7+1]++(R2++Y2)))) G8 b T2:=fk2.kt.grow (by rw [hG8];exact⟨fun j hj=>hget_left hj,by simp⟩) (fun j hj=>by
   simp only [mcN]at hj
   rw [hG8];simp only [laP,List.length_cons,List.length_nil];omega)
  have old8:∀j∈[t7,t7+1]++(R2++Y2),hget G8 j=hget G6 j:=fun j hj=>(show hget G8 j=hget G7 j by rw [hG8];exact hget_left (fk2.kt.y j (List.mem_append_right _ hj)).2).trans (fk2.st j hj)
  have o8:∀j∈Y2,hget G8 j=hget G6 j:=fun j hj=>old8 j (by simp [hj])
  have g5:=(o8 _ yy5).trans g5
  have g6:=(o8 _ yy6).trans g6
  have g7:=(o8 _ yy7).trans g7
  have g10:=(o8 _ (hr 0 (by omega))).trans g10
  have g12:=(o8 _ (hr 2 (by omega))).trans g12
  have g14:=(old8 t7 (by simp)).trans g14
  have kl8:KoV RL G8 lv RS:=kl6.step (fun j hj=>⟨hj,o8 j (hX j (klr j hj).1)⟩)
  have kq8:KoV R2 G8 qv (os.drop 1):=kq6.step (fun j hj=>⟨hj,old8 j (by simp [hj])⟩)
  have ld10:=ldh _ g10
  rw [←ht8,←hG8]
  clear hG8 hag
  refine aw_seq (aw_seq ?_)
  have hE:e2=if D then 0 else 22:=by
   rw [he2]
   by_cases h:one=zl 32
   ·rw [if_pos h,if_pos (hzD.2 h)]
   ·rw [if_neg h,if_neg (fun e=>h (hzD.1 e))]
  clear he2
  have v5:=(kt.y n5 y5).2
  have v6:=(kt.y n6 y6).2
  have v7:=(kt.y n7 y7).2
  have p6:=(kt.y n6 y6).1
  have p7:=(kt.y n7 y7).1
  have u5:=Y2l _ yy5
  have u6:=Y2l _ yy6
  have u7:=Y2l _ yy7
  have x6:=hget_lt g6
  have x7:=hget_lt g7
  have sS:setR (bnC sI sP ov) 0 (bnC sI sP qv)=bnC sI sP qv:=setR_all _ _ (by rw [bnC_len lI lP,bnC_len lI lP])
  have sB:setR (bnC bI bP pv) 0 (bnC bI bP lv)=bnC bI bP lv:=setR_all _ _ (by rw [bnC_len m1 m2,bnC_len m1 m2])
  obtain⟨G9,hG9⟩:∃G9:AH,G9=G8.set n6 (some ⟨bnC sI sP qv, 99,none⟩):=⟨_,rfl⟩
  obtain⟨G0,hG0⟩:∃G0:AH,G0=G9.set n7 (some ⟨bnC bI bP lv, 101,none⟩):=⟨_,rfl⟩
  have l9:G9.length=G8.length:=by rw [hG9];simp
  have s9:∀j,j≠n6→hget G9 j=hget G8 j:=fun j hj=>by rw [hG9];exact hget_set_ne (Ne.symm hj)
  have s0:∀j,j≠n7→hget G0 j=hget G9 j:=fun j hj=>by rw [hG0];exact hget_set_ne (Ne.symm hj)
  have g9:hget G9 n6=some ⟨bnC sI sP qv, 99,none⟩:=by rw [hG9];exact hget_set_eq x6
  have x79:n7<G9.length:=by omega
  have g79:=(s9 n7 (by omega)).trans g7
  have hr2:rs 2≠n6:=fun e=>hrx 2 (by omega) (e▸XA.2.1)
  have g129:=(s9 (rs 2) hr2).trans g12
  have g0:hget G0 n7=some ⟨bnC bI bP lv, 101,none⟩:=by rw [hG0];exact hget_set_eq x79
  have kt0:Kt H0 ([t8,t8+1]++(R3++([t7,t7+1]++(R2++Y2)))) G0 b T2:=by
   rw [hG0,hG9]
   exact (kt8.set (by simp [yy6]) _).set (by simp [yy7]) _
  have hI':MtH H0 n5 n6 n7 b (ii+1) G0:=by
   refine⟨_,T2,R2,RL,sI,sP,bI,bP,os.drop 1,RS,qv,lv,kt0,hRS▸(hms2.up (up3.trans up4) gd2).drop,?_,?_,g0,kq8.step (fun j hj=>⟨hj,?_⟩),kl8.step (fun j hj=>⟨hj,?_⟩),⟨by simp [yy5],by simp [yy6],by simp [yy7]⟩,fun j hj=>?_,by rw [List.length_drop];omega,by omega⟩
   ·exact (s0 _ (by omega)).trans ((s9 _ (by omega)).trans g5)
   ·exact (s0 _ (by omega)).trans g9
   ·have:=R2n j hj
    exact (s0 _ (by omega)).trans (s9 _ (by omega))
   ·have:=(klr j hj).2
    exact (s0 _ (by omega)).trans (s9 _ (by omega))
   ·rcases hj with hj | hj
    ·have:=R2n j hj
     exact⟨by simp [hj],by omega,by omega,by omega⟩
    ·have:=(klr j hj).2
     exact⟨by simp [hX j (klr j hj).1],by omega,by omega,by omega⟩
  clear kt0 kq8 kl8
  rcases D with _ | _
  ·have hE:e2=22:=hE
   subst hE
   (refine aoo fun K hK=>?_;simp (disch:=first|omega|simp only [lnS];try omega) [-getElem?_pos,-getElem?_neg,w10,-xload,ld10,hob,mo,nt_aggG,nt_intG,nt_ptrG,nt_boolG,-notTuple];refine hK _ _ ?_;clear hK K)
   refine awf (by simp [eval_tmp,put_at]<;>omega) ?_
   refine aw_skip (aw_seq ?_)
   (refine aoo fun K hK=>?_;simp (disch:=first|omega|simp only [lnS];try omega) [-getElem?_pos,-getElem?_neg,w6,g14,g6,bnC_all (v:=qv) lI lP,bnC_len (v:=qv) lI lP,bnC_len (v:=ov) lI lP,sS,x6,p6,nt_aggG];refine hK _ _ ?_;clear hK K)
   rw [←hG9]
   (refine aoo fun K hK=>?_;simp (disch:=first|omega|simp only [lnS];try omega) [-getElem?_pos,-getElem?_neg,w12,w7,g129,g79,bnC_all (v:=lv) m1 m2,bnC_len (v:=lv) m1 m2,bnC_len (v:=pv) m1 m2,sB,x79,p7,nt_aggG];refine hK _ _ ?_;clear hK K)
   rw [←hG0]
   (refine aoo fun K hK=>?_;simp (disch:=first|omega|simp only [lnS];try omega) [-getElem?_pos,-getElem?_neg,w8];refine hK _ _ ?_;clear hK K)
   exact⟨q-1,by omega,ii+1,by omega,by (first|simp [put_at,put_none,fr0_at,w1];done|rfl),by (first|simp [put_at,put_none,fr0_at,w5];done|rfl),by (first|simp [put_at,put_none,fr0_at,w6];done|rfl),by (first|simp [put_at,put_none,fr0_at,w7];done|rfl),by (first|simp [put_at,put_none,fr0_at];done|rfl),hI'⟩
  ·have hE:e2=0:=hE
   subst hE
   (refine aoo fun K hK=>?_;simp (disch:=first|omega|simp only [lnS];try omega) [-getElem?_pos,-getElem?_neg,w10,-xload,ld10,hob,mo,nt_aggG,nt_intG,nt_ptrG,nt_boolG,-notTuple];refine hK _ _ ?_;clear hK K)
   refine awf (by simp [eval_tmp,put_at]<;>omega) ?_
   refine aw_skip (aw_seq ?_)
   (refine aoo fun K hK=>?_;simp (disch:=first|omega|simp only [lnS];try omega) [-getElem?_pos,-getElem?_neg,w6,g14,g6,bnC_all (v:=qv) lI lP,bnC_len (v:=qv) lI lP,bnC_len (v:=ov) lI lP,sS,x6,p6,nt_aggG];refine hK _ _ ?_;clear hK K)
   rw [←hG9]
   (refine aoo fun K hK=>?_;simp (disch:=first|omega|simp only [lnS];try omega) [-getElem?_pos,-getElem?_neg,w12,w7,g129,g79,bnC_all (v:=lv) m1 m2,bnC_len (v:=lv) m1 m2,bnC_len (v:=pv) m1 m2,sB,x79,p7,nt_aggG];refine hK _ _ ?_;clear hK K)
   rw [←hG0]
   (refine aoo fun K hK=>?_;simp (disch:=first|omega|simp only [lnS];try omega) [-getElem?_pos,-getElem?_neg,w8];refine hK _ _ ?_;clear hK K)
   exact⟨q-1,by omega,ii+1,by omega,by (first|simp [put_at,put_none,fr0_at,w1];done|rfl),by (first|simp [put_at,put_none,fr0_at,w5];done|rfl),by (first|simp [put_at,put_none,fr0_at,w6];done|rfl),by (first|simp [put_at,put_none,fr0_at,w7];done|rfl),by (first|simp [put_at,put_none,fr0_at];done|rfl),hI'⟩
 ·have hi':¬ (ii:Int)<(M:Nat):=by omega
  (refine aoo fun K hK=>?_;simp (disch:=first|omega|simp only [lnS];try omega) [-getElem?_pos,-getElem?_neg,e8,e1,hMc,hi',hi];refine hK _ _ ?_;clear hK K)
  refine awf (by simp [eval_tmp,put_at]<;>omega) ?_
  refine aw_exit (aw_seq ?_)
  refine aoo fun K hK=>?_
  simp (disch:=first|omega|simp only [lnS];try omega) [-getElem?_pos,-getElem?_neg]
  obtain⟨Y,T,R,Rp,sI,sP,bI,bP,os,ps,ov,pv,kt,_⟩:=hI
  refine⟨by kernel_rfl,ac_of_rc (hal H (hpw.low kt.lw)) (by simp [pv_iv,pv_int,pv_bool,pv_string,pv_tup2,pv_tup3,iv_plain,p2_int,p2_bool,p2_string]) ?_⟩
  refine hK _ _ ?_;clear hK K
  (refine aw_ret ?_;simp (disch:=first|omega|simp only [lnS];try omega) [-getElem?_pos,-getElem?_neg])
end
section
theorem u8n{n:Int}(h:0≤n∧n≤255):∃k:Nat,n=(k:Nat)∧k<256:=⟨n.toNat,by omega,by omega⟩
theorem meets28_law{γ:Nat→Option Nat}{H0:AH}(hpw:Pw γ H0)(a c:Int)(wa:0≤a∧a≤255)(wc:0≤c∧c≤255):AC Tryd.prog H0.length γ 10 #[.int .u8 a,.int .u8 c] H0 (fun v' _=>v'=.bool true):=by
 obtain⟨a,rfl,ha⟩:=u8n wa
 obtain⟨c,rfl,hc⟩:=u8n wc
 exact meets_rc hpw ha hc
end
end Go.Proofs.YtcidhpandnjmoaaDoor
