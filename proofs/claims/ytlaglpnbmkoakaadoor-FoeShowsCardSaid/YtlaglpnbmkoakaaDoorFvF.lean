/-
  A stranger's law: what others made, walked.
-/
import Derived.Test.YtlaglpnbmkoakaaDoorFvE
import Derived.Test.YtlaglpnbmkoakaaDoorFvB
import Derived.Test.YtlaglpnbmkoakaaDoorFvC
namespace Go.Proofs.YtlaglpnbmkoakaaDoor
open Go Go.RowKit
set_option linter.unusedSimpArgs false
set_option linter.unusedVariables false
set_option maxRecDepth 100000
set_option maxHeartbeats 8000000
section
attribute [local simp] wb_bool wb_undef with_lit XL_nil XL_cons XLc_val XLc_call step1_eq stepW_t stepW_f stepC_n stepC_s stepX_s stepX_n stepN_s calleeX xrecv oneV xop_eq xopR_s xopR_n wantedA_eq wantedG_n wantedG_s plain1_int plain1_bool plain1_string bits_i64 bits_u64 bits_u32 bits_u16 bits_u8 xeqA xagg xcmp xarr allK_iv num_iv calleeOf xread xeff xbin xint xnil xun xstr xload xconv xpart xfield xfieldAddr xindexAddr xindex bnd asInt? xslice xlen xmin xmax xbuild xfill xappend xapp2 xappstr xappmk xcap xcopy xcells eval_tmp eval_const put_at put_none fr0_at cells_agg cells_int cells_bool cells_string cells_ptr cells_slice notTuple tab iv_all hget_app hget_app0 hget_cons0 hget_cons set_app set_app0 setR setR_one QL_nil QL_cons QLc_val stepQ_t stepQ_f stepQC_n stepQC_s stepQX_s SL_nil SL_cons SLc_val stepS_t stepS_f ltT ltF leT leF eqT eqF ltTn ltFn leTn leFn eqTn eqFn beqT beqF bneT bneF wi64 wu64 wu32 wu16 wu8 tmodP tdivP hgetL hgetNe hgetEq setL nums_def nums_len Nat.succ_le_of_lt List.getElem?_cons_zero List.getElem?_cons_succ Option.getD_some Int.toNat_add Int.toNat_mul agM okM agB agI agS agP agL agA okB okI okS okP okSl okA nt_strG nt_boolG nt_aggG nt_intG nt_ptrG nt_slG XO_s XO_z XLk_val XLk_call headsO behind List.length_cons List.length_nil List.mem_cons List.not_mem_nil or_false forall_eq_or_imp forall_eq List.contains_cons List.contains_nil XOm thenQ_ret scopeQ_ret inBlockQ_ret RQ resL resV
section
def SecQ(H0:AH)(S:List Nat)(H:AH)(tb rb:Nat)(v':Value)(H':AH):Prop:=∃r,v'=.slice (some ⟨r,0,none⟩) 3 3∧hget H' r=some ⟨kr [n2,n3,n4], 41,some 32⟩∧Pl H0 (r::S) H' tb rb (.slice none 0 0) sT5 sT5 []∧∀j∈S,hget H' j=hget H j
theorem secret_ac{γ:Nat→Option Nat}{H0 H:AH}{S:List Nat}(hpw:Pw γ H0){tb rb:Nat}(h:Pl H0 S H tb rb (.slice none 0 0) [] [] []) :
  AC Tryd.prog H0.length γ 9 #[.agg #[.pointer (some ⟨tb,0,none⟩)],.pointer (some ⟨rb,0,none⟩)] H (SecQ H0 S H tb rb):=by
 have l0:n0.length=32:=rfl
 have l1:n1.length=32:=rfl
 have l2:n2.length=32:=rfl
 have l3:n3.length=32:=rfl
 have l4:n4.length=32:=rfl
 have tN0:(iv .u8 n0).take 32=iv .u8 n0:=rfl
 have tN1:(iv .u8 n1).take 32=iv .u8 n1:=rfl
 have tN2:(iv .u8 n2).take 32=iv .u8 n2:=rfl
 have tN3:(iv .u8 n3).take 32=iv .u8 n3:=rfl
 have tN4:(iv .u8 n4).take 32=iv .u8 n4:=rfl
 have sN0:setR (iv .u8 (zl 32)) 0 (iv .u8 n0)=iv .u8 n0:=setR_all _ _ (by simp [l0])
 have sN1:setR (iv .u8 (zl 32)) 0 (iv .u8 n1)=iv .u8 n1:=setR_all _ _ (by simp [l1])
 have sN2:setR (iv .u8 (zl 32)) 0 (iv .u8 n2)=iv .u8 n2:=setR_all _ _ (by simp [l2])
 have sN3:setR (iv .u8 (zl 32)) 0 (iv .u8 n3)=iv .u8 n3:=setR_all _ _ (by simp [l3])
 have sN4:setR (iv .u8 (zl 32)) 0 (iv .u8 n4)=iv .u8 n4:=setR_all _ _ (by simp [l4])
 have rN0:setR (List.map (fun j=>(iv .u8 (zl 32))[j%32]?.getD undef) (List.range 32)) 0 (iv .u8 n0)=iv .u8 n0:=setR_all _ _ (by simp [l0])
 have rN1:setR (List.map (fun j=>(iv .u8 (zl 32))[j%32]?.getD undef) (List.range 32)) 0 (iv .u8 n1)=iv .u8 n1:=setR_all _ _ (by simp [l1])
 have hpl:plain1 (.slice none 0 0)=true:=rfl
 obtain⟨n,hn⟩:∃n,n=H.length:=⟨_,rfl⟩
 obtain⟨B,hB⟩:∃B:AH,B=H++[some ⟨[.pointer (some ⟨tb,0,none⟩)], 27,none⟩]:=⟨_,rfl⟩
 have gT:hget B n=some ⟨[.pointer (some ⟨tb,0,none⟩)], 27,none⟩:=by rw [hB,hn,hget_app0];rfl
 have lwB:Low H.length H B:=by rw [hB];exact Low.push (nlE _) _
 have hBl:B.length=n+1:=by rw [hB,hn];simp
 obtain⟨SB,hSB⟩:∃SB:List Nat,SB=[n]++S:=⟨_,rfl⟩
 have pB:Pl H0 SB B tb rb (.slice none 0 0) [] [] []:=by rw [hSB];exact h.push lwB (fun j hj=>by rw [msG.1 hj];omega)
 have hnS:n∈SB:=by rw [hSB];simp
 have hS0:∀j∈S,j∈SB∧hget B j=hget H j:=fun j hj=>⟨by rw [hSB];simp [hj],lwB.1 j (h.sl hj)⟩
 clear hSB
 have hnB:H0.length≤B.length:=pB.lw.2
 refine ac_of_aw Tryd.func9 rfl Tryd.ntmps9 Tryd.results9 (by simp) ?_
 (refine aso fun K hK=>?_;simp (disch:=first|omega|simp only [lnS];try omega) [-getElem?_pos,-getElem?_neg];refine hK _ _ ?_;clear hK K)
 rw [←hn,←hB]
 clear hB
 refine aw_seq ?_
 refine name_aw (fun β hβ=>?_)
 have e1:β 1=.pointer (some ⟨rb,0,none⟩):=by rw [hβ];(first|simp;done|rfl)
 have e2:β 2=.pointer (some ⟨n,0,none⟩):=by rw [hβ];(first|simp;done|rfl)
 clear hβ
 refine aw_inv scAP (JT scAD (scAV n tb) β (SP1 H0 B SB tb rb)) (by kernel_rfl) (by kernel_rfl) (by kernel_rfl) ?_ ?_ ?_
 ·exact⟨by simp;rfl,fun _ _=>rfl,fun i t' hi h=>(by rw [gs_0]at h;cases h),0,1,SB,(by rw [gs_0,gs_0];exact pB),fun j hj=>⟨hj,rfl,pB.sl hj⟩,by decide,fun h=>(by rw [gs_0]at h;cases h),fun h=>(by rw [gs_0]at h;cases h)⟩
 ·intro i s α G k hJ hi0 hsi hd hcc hcont
  obtain⟨r5,r6,S2,jp,js,jne,ja,jb⟩:=hJ.hp
  have j2:=(hJ.lo 2 (by decide)).trans e2
  have gT:=(js n hnS).2.1.trans gT
  have ldT:=ld_tb gT
  have hnG:H0.length≤G.length:=jp.lw.2
  have hi:i=0∨i=1∨i=2∨i=3∨i=4∨i=5∨i=6∨i=7∨i=8∨i=9:=by have hi0:i<10:=hi0;omega
  rcases hi with rfl | rfl | rfl | rfl | rfl | rfl | rfl | rfl | rfl | rfl
  ·simp (disch:=first|omega|simp only [lnS];try omega) [-getElem?_pos,-getElem?_neg,-notTuple,j2]
   exact hcont _ _ (hJ.put scA_nd (t:=10) rfl rfl (hJ.hp.keep (by decide) (by decide)))
  ·have f0:α 10=.pointer (some ⟨n,0,none⟩):=hJ.val 0 10 rfl (hd 0 (by decide))
   simp (disch:=first|omega|simp only [lnS];try omega) [-getElem?_pos,-getElem?_neg,-notTuple,-xload,ldT,f0]
   exact hcont _ _ (hJ.put scA_nd (t:=11) rfl rfl (hJ.hp.keep (by decide) (by decide)))
  ·have f1:α 11=.pointer (some ⟨tb,0,none⟩):=hJ.val 1 11 rfl (hd 1 (by decide))
   simp (disch:=first|omega|simp only [lnS];try omega) [-getElem?_pos,-getElem?_neg,f1]
   have jp:Pl H0 S2 G tb rb (.slice none 0 0) [] [] []:=by rw [hsi,hcc 5 (by decide)]at jp;exact jp
   refine⟨by kernel_rfl,AC.mono (pl_draw hpw jp (s:=⟨#[97]⟩) (by decide) (by decide)) ?_⟩
   rintro v' G' ⟨hv,pp,ss⟩
   rw [show nmV ⟨1,⟨#[97]⟩,[]⟩ []=_ from sV1]at hv
   rw [show addT ⟨1,⟨#[97]⟩,[]⟩ []=_ from sD1]at pp
   subst hv
   exact hcont _ _ (hJ.put scA_nd (t:=12) rfl rfl ⟨r5,r6,S2,by rw [gs_ne (by decide),hcc 5 (by decide),gs_eq (by rw [hJ.sz];decide)];exact pp,fun j hj=>⟨(js j hj).1,(ss j (js j hj).1).trans (js j hj).2.1,(js j hj).2.2⟩,jne,fun a=>by
    rw [gs_ne (by decide)]at a
    obtain⟨w1,w2,w3,w4⟩:=ja a
    exact⟨by (first|simp [w1];done|rfl),w2,w3,by rw [gs_ne (by decide),ss _ w2];exact w4⟩,fun a=>by
    rw [gs_ne (by decide)]at a
    obtain⟨w1,w2,w3,w4⟩:=jb a
    exact⟨by (first|simp [w1];done|rfl),w2,w3,by rw [gs_ne (by decide),ss _ w2];exact w4⟩⟩)
  ·simp (disch:=first|omega|simp only [lnS];try omega) [-getElem?_pos,-getElem?_neg,-notTuple,j2]
   exact hcont _ _ (hJ.put scA_nd (t:=13) rfl rfl (hJ.hp.keep (by decide) (by decide)))
  ·have f3:α 13=.pointer (some ⟨n,0,none⟩):=hJ.val 3 13 rfl (hd 3 (by decide))
   simp (disch:=first|omega|simp only [lnS];try omega) [-getElem?_pos,-getElem?_neg,-notTuple,-xload,ldT,f3]
   exact hcont _ _ (hJ.put scA_nd (t:=14) rfl rfl (hJ.hp.keep (by decide) (by decide)))
  ·have f2:α 12=.agg (iv .u8 n0).toArray:=hJ.val 2 12 rfl (hd 2 (by decide))
   have f4:α 14=.pointer (some ⟨tb,0,none⟩):=hJ.val 4 14 rfl (hd 4 (by decide))
   simp (disch:=first|omega|simp only [lnS];try omega) [-getElem?_pos,-getElem?_neg,f2,f4]
   have jp:Pl H0 S2 G tb rb (.slice none 0 0) sT1 [] []:=by rw [hsi,hd 2 (by decide)]at jp;exact jp
   refine⟨by kernel_rfl,AC.mono (pl_draw hpw jp (s:=⟨#[98]⟩) (by decide) (by decide)) ?_⟩
   rintro v' G' ⟨hv,pp,ss⟩
   rw [show nmV ⟨1,⟨#[98]⟩,[]⟩ sT1=_ from sV2]at hv
   rw [show addT ⟨1,⟨#[98]⟩,[]⟩ sT1=_ from sD2]at pp
   subst hv
   exact hcont _ _ (hJ.put scA_nd (t:=15) rfl rfl ⟨r5,r6,S2,by rw [gs_eq (by rw [hJ.sz];decide)];exact pp,fun j hj=>⟨(js j hj).1,(ss j (js j hj).1).trans (js j hj).2.1,(js j hj).2.2⟩,jne,fun a=>by
    rw [gs_ne (by decide)]at a
    obtain⟨w1,w2,w3,w4⟩:=ja a
    exact⟨by (first|simp [w1];done|rfl),w2,w3,by rw [gs_ne (by decide),ss _ w2];exact w4⟩,fun a=>by
    rw [gs_ne (by decide)]at a
    obtain⟨w1,w2,w3,w4⟩:=jb a
    exact⟨by (first|simp [w1];done|rfl),w2,w3,by rw [gs_ne (by decide),ss _ w2];exact w4⟩⟩)
  ·simp (disch:=first|omega|simp only [lnS];try omega) [-getElem?_pos,-getElem?_neg,hnG]
   obtain⟨m6,hm6⟩:∃m6,m6=if s.getD 7 false=true then r6 else G.length+1:=⟨_,rfl⟩
   have hlt:s.getD 7 false=true→r6<G.length:=fun a=>hget_lt (jb a).2.2.2
   exact hcont _ _ (hJ.put scA_nd (t:=5) rfl trivial ⟨G.length,m6,[G.length]++S2,by rw [gs_ne (by decide),gs_ne (by decide)];exact jp.push (Low.push (nlE _) _) (fun j hj=>by rw [msG.1 hj];simp),fun j hj=>⟨by simp [(js j hj).1],(hget_left (jp.sl (js j hj).1)).trans (js j hj).2.1,(js j hj).2.2⟩,by
    rw [hm6]
    split
    ·rename_i a;have:=hlt a;omega
    ·omega,fun _=>⟨by (first|simp;done|rfl),by simp,(by have:=jp.sl (js n hnS).1;omega),by rw [gs_ne (by decide),hcc 8 (by decide),hget_app0];rfl⟩,fun a=>by
    rw [gs_ne (by decide)]at a
    rw [hm6,if_pos a,gs_ne (by decide)]
    obtain⟨w1,w2,w3,w4⟩:=jb a
    exact⟨by (first|simp [w1];done|rfl),by simp [w2],w3,(hget_left (hget_lt w4)).trans w4⟩⟩)
  ·simp (disch:=first|omega|simp only [lnS];try omega) [-getElem?_pos,-getElem?_neg,hnG]
   obtain⟨m5,hm5⟩:∃m5,m5=if s.getD 6 false=true then r5 else G.length+1:=⟨_,rfl⟩
   have hlt:s.getD 6 false=true→r5<G.length:=fun a=>hget_lt (ja a).2.2.2
   exact hcont _ _ (hJ.put scA_nd (t:=6) rfl trivial ⟨m5,G.length,[G.length]++S2,by rw [gs_ne (by decide),gs_ne (by decide)];exact jp.push (Low.push (nlE _) _) (fun j hj=>by rw [msG.1 hj];simp),fun j hj=>⟨by simp [(js j hj).1],(hget_left (jp.sl (js j hj).1)).trans (js j hj).2.1,(js j hj).2.2⟩,by
    rw [hm5]
    split
    ·rename_i a;have:=hlt a;omega
    ·omega,fun a=>by
    rw [gs_ne (by decide)]at a
    rw [hm5,if_pos a,gs_ne (by decide)]
    obtain⟨w1,w2,w3,w4⟩:=ja a
    exact⟨by (first|simp [w1];done|rfl),by simp [w2],w3,(hget_left (hget_lt w4)).trans w4⟩,fun _=>⟨by (first|simp;done|rfl),by simp,(by have:=jp.sl (js n hnS).1;omega),by rw [gs_ne (by decide),hcc 9 (by decide),hget_app0];rfl⟩⟩)
  ·have f0:α 10=.pointer (some ⟨n,0,none⟩):=hJ.val 0 10 rfl (hd 0 (by decide))
   have f1:α 11=.pointer (some ⟨tb,0,none⟩):=hJ.val 1 11 rfl (hd 1 (by decide))
   have f2:α 12=.agg (iv .u8 n0).toArray:=hJ.val 2 12 rfl (hd 2 (by decide))
   have f5:α 15=.agg (iv .u8 n1).toArray:=hJ.val 5 15 rfl (hd 5 (by decide))
   obtain⟨w1,w2,w3,w4⟩:=ja (hd 6 (by decide))
   rw [hsi]at w4
   have w4:hget G r5=some ⟨iv .u8 (zl 32), 41,none⟩:=w4
   have wl:=hget_lt w4
   have wn:H0.length≤r5:=by omega
   simp (disch:=first|omega|simp only [lnS];try omega) [-getElem?_pos,-getElem?_neg,w1,w4,wl,wn,f2,l0,sN0]
   exact hcont _ _ (hJ.put0 rfl ⟨r5,r6,S2,by rw [gs_ne (by decide),gs_ne (by decide)];exact jp.set w2 wn _,fun j hj=>⟨(js j hj).1,(hget_set_ne (by have:=(js j hj).2.2;omega)).trans (js j hj).2.1,(js j hj).2.2⟩,jne,fun _=>⟨w1,w2,w3,by rw [gs_eq (by rw [hJ.sz];decide)];exact hget_set_eq wl⟩,fun a=>by
    rw [gs_ne (by decide)]at a
    obtain⟨x1,x2,x3,x4⟩:=jb a
    exact⟨x1,x2,x3,by rw [gs_ne (by decide),hget_set_ne jne];exact x4⟩⟩)
  ·have f0:α 10=.pointer (some ⟨n,0,none⟩):=hJ.val 0 10 rfl (hd 0 (by decide))
   have f1:α 11=.pointer (some ⟨tb,0,none⟩):=hJ.val 1 11 rfl (hd 1 (by decide))
   have f2:α 12=.agg (iv .u8 n0).toArray:=hJ.val 2 12 rfl (hd 2 (by decide))
   have f3:α 13=.pointer (some ⟨n,0,none⟩):=hJ.val 3 13 rfl (hd 3 (by decide))
   have f4:α 14=.pointer (some ⟨tb,0,none⟩):=hJ.val 4 14 rfl (hd 4 (by decide))
   have f5:α 15=.agg (iv .u8 n1).toArray:=hJ.val 5 15 rfl (hd 5 (by decide))
   obtain⟨w1,w2,w3,w4⟩:=jb (hd 7 (by decide))
   rw [hsi]at w4
   have w4:hget G r6=some ⟨iv .u8 (zl 32), 41,none⟩:=w4
   have wl:=hget_lt w4
   have wn:H0.length≤r6:=by omega
   simp (disch:=first|omega|simp only [lnS];try omega) [-getElem?_pos,-getElem?_neg,w1,w4,wl,wn,f5,l1,sN1]
   exact hcont _ _ (hJ.put0 rfl ⟨r5,r6,S2,by rw [gs_ne (by decide),gs_ne (by decide)];exact jp.set w2 wn _,fun j hj=>⟨(js j hj).1,(hget_set_ne (by have:=(js j hj).2.2;omega)).trans (js j hj).2.1,(js j hj).2.2⟩,jne,fun a=>by
    rw [gs_ne (by decide)]at a
    obtain⟨x1,x2,x3,x4⟩:=ja a
    exact⟨x1,x2,x3,by rw [gs_ne (by decide),hget_set_ne (Ne.symm jne)];exact x4⟩,fun _=>⟨w1,w2,w3,by rw [gs_eq (by rw [hJ.sz];decide)];exact hget_set_eq wl⟩⟩)
 rintro s α1 G1 hJ hall
 have hsz:s.size=10:=hJ.sz
 have hg:∀i,i<10→s.getD i false=true:=fun i hi=>by
  rw [agD,Array.getElem?_eq_getElem (by omega)]
  exact Array.all_eq_true.1 hall i (by omega)
 obtain⟨b5,b6,S1,p1,js,_,ja,jb⟩:=hJ.hp
 rw [hg 5 (by omega)]at p1
 obtain⟨a5,h5S,_,g5⟩:=ja (hg 6 (by omega))
 obtain⟨a6,h6S,_,g6⟩:=jb (hg 7 (by omega))
 rw [hg 8 (by omega)]at g5
 rw [hg 9 (by omega)]at g6
 have g5:hget G1 b5=some ⟨iv .u8 n0, 41,none⟩:=g5
 have g6:hget G1 b6=some ⟨iv .u8 n1, 41,none⟩:=g6
 have p1:Pl H0 S1 G1 tb rb (.slice none 0 0) sT2 [] []:=p1
 have a1:=(hJ.lo 1 (by decide)).trans e1
 have a2:=(hJ.lo 2 (by decide)).trans e2
 have gT:=(js n hnS).2.1.trans gT
 have hS1:∀j∈S,j∈S1∧hget G1 j=hget H j:=fun j hj=>⟨(js j (hS0 j hj).1).1,(js j (hS0 j hj).1).2.1.trans (hS0 j hj).2⟩
 have hnS1:=(js n hnS).1
 have hS1l:∀j∈S,j<H.length:=fun j hj=>h.sl hj
 clear hall hsz hg hJ e1 e2 ja jb js pB lwB hS0 hnS hBl hnB
 refine aso fun K hK=>?_
 simp (disch:=first|omega|simp only [lnS];try omega) [-getElem?_pos,-getElem?_neg,a1]
 refine⟨by kernel_rfl,AC.mono (pl_make p1 (x:=sA) sA_wf (v:=.slice none 0 0) (ks_nil _) (by decide)) ?_⟩
 rintro v1 G2 ⟨_,p2,s2⟩
 rw [sD1]at p2
 try simp (disch:=first|omega|simp only [lnS];try omega) [-getElem?_pos,-getElem?_neg]
 refine hK _ _ ?_;clear hK K
 refine aso fun K hK=>?_
 simp (disch:=first|omega|simp only [lnS];try omega) [-getElem?_pos,-getElem?_neg,a1]
 refine⟨by kernel_rfl,AC.mono (pl_make p2 (x:=sB) sB'_wf (v:=.slice none 0 0) (ks_nil _) (by decide)) ?_⟩
 rintro v2 G3 ⟨_,p3,s3⟩
 rw [sD2]at p3
 try simp (disch:=first|omega|simp only [lnS];try omega) [-getElem?_pos,-getElem?_neg]
 refine hK _ _ ?_;clear hK K
 have s23:∀j∈S1,hget G3 j=hget G1 j:=fun j hj=>(s3 j hj).trans (s2 j hj)
 have gT:=(s23 n hnS1).trans gT
 have g5:=(s23 b5 h5S).trans g5
 have g6:=(s23 b6 h6S).trans g6
 obtain⟨B,hBB⟩:∃B,B=G3:=⟨_,rfl⟩
 rw [←hBB]at p3 gT g5 g6 s23 ⊢
 clear hBB p2 p1 s2 s3
 have hnB:H0.length≤B.length:=p3.lw.2
 refine aw_seq ?_
 refine name_aw (fun β hβ=>?_)
 have e1:β 1=.pointer (some ⟨rb,0,none⟩):=by rw [hβ];(first|simp [a1];done|rfl)
 have e2:β 2=.pointer (some ⟨n,0,none⟩):=by rw [hβ];(first|simp [a2];done|rfl)
 have e5:β 5=.pointer (some ⟨b5,0,none⟩):=by rw [hβ];(first|simp [a5];done|rfl)
 have e6:β 6=.pointer (some ⟨b6,0,none⟩):=by rw [hβ];(first|simp [a6];done|rfl)
 clear hβ a1 a2 a5 a6
 have zk32:iv .u8 (zl 32)=iv .u8 (zl 32):=rfl
 obtain⟨hnS,hnS'⟩:n∈S1∧True:=⟨hnS1,trivial⟩
 refine aw_inv scBP (JT scBD (scBV n tb b5 b6) β (SP2 H0 B S1 tb rb)) (by kernel_rfl) (by kernel_rfl) (by kernel_rfl) ?_ ?_ ?_
 ·exact⟨by simp;rfl,fun _ _=>rfl,fun i t' hi h=>(by rw [gs_0]at h;cases h),0,1,S1,(by rw [gs_0];exact p3),fun j hj=>⟨hj,rfl,p3.sl hj⟩,fun h=>(by rw [gs_0]at h;cases h),fun h=>(by rw [gs_0]at h;cases h)⟩
 ·intro i s α G k hJ hi0 hsi hd hcc hcont
  obtain⟨r7,rA,S2,jp,js,ja,jb⟩:=hJ.hp
  have j2:=(hJ.lo 2 (by decide)).trans e2
  have j5:=(hJ.lo 5 (by decide)).trans e5
  have j6:=(hJ.lo 6 (by decide)).trans e6
  have gT:=(js n hnS).2.1.trans gT
  have g5:=(js b5 h5S).2.1.trans g5
  have g6:=(js b6 h6S).2.1.trans g6
  have ldT:=ld_tb gT
  have ld5:=key_load l0 g5
  have ld6:=key_load l1 g6
  have hnG:H0.length≤G.length:=jp.lw.2
  have hi:i=0∨i=1∨i=2∨i=3∨i=4∨i=5∨i=6∨i=7∨i=8∨i=9∨i=10∨i=11:=by have hi0:i<12:=hi0;omega
  rcases hi with rfl | rfl | rfl | rfl | rfl | rfl | rfl | rfl | rfl | rfl | rfl | rfl
  ·simp (disch:=first|omega|simp only [lnS];try omega) [-getElem?_pos,-getElem?_neg,-notTuple,j2]
   exact hcont _ _ (hJ.put scB_nd (t:=20) rfl rfl (hJ.hp.keep (by decide) (by decide)))
  ·have f0:α 20=.pointer (some ⟨n,0,none⟩):=hJ.val 0 20 rfl (hd 0 (by decide))
   simp (disch:=first|omega|simp only [lnS];try omega) [-getElem?_pos,-getElem?_neg,-notTuple,-xload,ldT,f0]
   exact hcont _ _ (hJ.put scB_nd (t:=21) rfl rfl (hJ.hp.keep (by decide) (by decide)))
  ·simp (disch:=first|omega|simp only [lnS];try omega) [-getElem?_pos,-getElem?_neg,-notTuple,j2]
   exact hcont _ _ (hJ.put scB_nd (t:=22) rfl rfl (hJ.hp.keep (by decide) (by decide)))
  ·have f2:α 22=.pointer (some ⟨n,0,none⟩):=hJ.val 2 22 rfl (hd 2 (by decide))
   simp (disch:=first|omega|simp only [lnS];try omega) [-getElem?_pos,-getElem?_neg,-notTuple,-xload,ldT,f2]
   exact hcont _ _ (hJ.put scB_nd (t:=23) rfl rfl (hJ.hp.keep (by decide) (by decide)))
  ·simp (disch:=first|omega|simp only [lnS];try omega) [-getElem?_pos,-getElem?_neg,-notTuple,j5,-xload,ld5]
   exact hcont _ _ (hJ.put scB_nd (t:=24) rfl rfl (hJ.hp.keep (by decide) (by decide)))
  ·simp (disch:=first|omega|simp only [lnS];try omega) [-getElem?_pos,-getElem?_neg,-notTuple]
   exact hcont _ _ (hJ.put scB_nd (t:=25) rfl rfl (hJ.hp.keep (by decide) (by decide)))
  ·simp (disch:=first|omega|simp only [lnS];try omega) [-getElem?_pos,-getElem?_neg,-notTuple,j6,-xload,ld6]
   exact hcont _ _ (hJ.put scB_nd (t:=26) rfl rfl (hJ.hp.keep (by decide) (by decide)))
  ·have f6:α 26=.agg (iv .u8 n1).toArray:=hJ.val 6 26 rfl (hd 6 (by decide))
   simp (disch:=first|omega|simp only [lnS];try omega) [-getElem?_pos,-getElem?_neg,f6,l1,tN1,rN1]
   exact hcont _ _ (hJ.put scB_nd (t:=27) rfl trivial ⟨G.length,rA,[G.length]++S2,by rw [gs_ne (by decide)];exact jp.push (Low.push (nlE _) _) (fun j hj=>by rw [msG.1 hj];simp),fun j hj=>⟨by simp [(js j hj).1],(hget_left (jp.sl (js j hj).1)).trans (js j hj).2.1,(js j hj).2.2⟩,fun _ _=>⟨by (first|simp;done|rfl),by simp,by rw [hget_app0];rfl⟩,fun a=>by
    rw [gs_ne (by decide)]at a
    obtain⟨w1,w2,w3,w4⟩:=jb a
    exact⟨by (first|simp [w1];done|rfl),by simp [w2],w3,by rw [gs_ne (by decide),hget_left (hget_lt w4)];exact w4⟩⟩)
  ·have f3:α 23=.pointer (some ⟨tb,0,none⟩):=hJ.val 3 23 rfl (hd 3 (by decide))
   have f4:α 24=.agg (iv .u8 n0).toArray:=hJ.val 4 24 rfl (hd 4 (by decide))
   have f5:α 25=.agg (iv .u8 (zl 32)).toArray:=hJ.val 5 25 rfl (hd 5 (by decide))
   obtain⟨w1,w2,w3⟩:=ja (hd 7 (by decide)) hsi
   simp (disch:=first|omega|simp only [lnS];try omega) [-getElem?_pos,-getElem?_neg,f3,f4,f5,w1]
   have jp:Pl H0 S2 G tb rb (.slice none 0 0) sT2 sT2 []:=by rw [hsi]at jp;exact jp
   refine⟨by kernel_rfl,AC.mono (pl_seal hpw jp (k:=n0) (y:=zl 32) (s:=⟨#[116,101,120,116]⟩) (ks:=[n1]) l0 (by decide) sB_wf (keys1 l1 w3) (by decide)) ?_⟩
   rintro v' G' ⟨hv,pp,ss⟩
   rw [show (nmL (nameT ⟨6,⟨#[116,101,120,116]⟩,[n0,zl 32,n1]⟩ sT2:Nat))=n2 from sV3]at hv
   rw [show addT ⟨6,⟨#[116,101,120,116]⟩,[n0,zl 32,n1]⟩ sT2=sT3 from sD3]at pp
   subst hv
   exact hcont _ _ (hJ.put scB_nd (t:=28) rfl rfl ⟨r7,rA,S2,by rw [gs_eq (by rw [hJ.sz];decide)];exact pp,fun j hj=>⟨(js j hj).1,(ss j (js j hj).1).trans (js j hj).2.1,(js j hj).2.2⟩,fun a b=>(by rw [gs_eq (by rw [hJ.sz];decide)]at b;cases b),fun a=>by
    rw [gs_ne (by decide)]at a
    obtain⟨w1,w2,w3,w4⟩:=jb a
    exact⟨by (first|simp [w1];done|rfl),w2,w3,by rw [gs_ne (by decide),ss _ w2];exact w4⟩⟩)
  ·have f1:α 21=.pointer (some ⟨tb,0,none⟩):=hJ.val 1 21 rfl (hd 1 (by decide))
   have f8:α 28=.string (strOfNums n2):=hJ.val 8 28 rfl (hd 8 (by decide))
   simp (disch:=first|omega|simp only [lnS];try omega) [-getElem?_pos,-getElem?_neg,f1,f8]
   have jp:Pl H0 S2 G tb rb (.slice none 0 0) sT3 sT2 []:=by rw [hd 8 (by decide)]at jp;exact jp
   refine⟨by kernel_rfl,AC.mono (pl_mark hpw jp (s:=strOfNums n2) (by rw [sn_size,l2];decide) (by decide)) ?_⟩
   rintro v' G' ⟨hv,pp,ss⟩
   unfold markV at hv
   unfold markT at pp
   rw [if_pos (by rw [sn_size,l2]),nums_of _ n2_by]at hv
   rw [if_pos (by rw [sn_size,l2])]at pp
   subst hv
   exact hcont _ _ (hJ.put scB_nd (t:=29) rfl rfl ⟨r7,rA,S2,by rw [gs_ne (by decide),hd 8 (by decide)];exact pp,fun j hj=>⟨(js j hj).1,(ss j (js j hj).1).trans (js j hj).2.1,(js j hj).2.2⟩,fun a b=>(by rw [gs_ne (by decide),hd 8 (by decide)]at b;cases b),fun a=>by
    rw [gs_ne (by decide)]at a
    obtain⟨w1,w2,w3,w4⟩:=jb a
    exact⟨by (first|simp [w1];done|rfl),w2,w3,by rw [gs_ne (by decide),ss _ w2];exact w4⟩⟩)
  ·simp (disch:=first|omega|simp only [lnS];try omega) [-getElem?_pos,-getElem?_neg,hnG]
   exact hcont _ _ (hJ.put scB_nd (t:=7) rfl trivial ⟨r7,G.length,[G.length]++S2,by rw [gs_ne (by decide)];exact jp.push (Low.push (nlE _) _) (fun j hj=>by rw [msG.1 hj];simp),fun j hj=>⟨by simp [(js j hj).1],(hget_left (jp.sl (js j hj).1)).trans (js j hj).2.1,(js j hj).2.2⟩,fun a b=>by
    rw [gs_ne (by decide)]at a b
    obtain⟨w1,w2,w3⟩:=ja a b
    exact⟨by (first|simp [w1];done|rfl),by simp [w2],(hget_left (hget_lt w3)).trans w3⟩,fun _=>⟨by (first|simp;done|rfl),by simp,⟨hnG,fun e=>by have:=jp.sl (js _ e).1;omega⟩,by rw [gs_ne (by decide),hcc 11 (by decide),hget_app0];rfl⟩⟩)
  ·have f0:α 20=.pointer (some ⟨n,0,none⟩):=hJ.val 0 20 rfl (hd 0 (by decide))
   have f1:α 21=.pointer (some ⟨tb,0,none⟩):=hJ.val 1 21 rfl (hd 1 (by decide))
   have f2:α 22=.pointer (some ⟨n,0,none⟩):=hJ.val 2 22 rfl (hd 2 (by decide))
   have f3:α 23=.pointer (some ⟨tb,0,none⟩):=hJ.val 3 23 rfl (hd 3 (by decide))
   have f4:α 24=.agg (iv .u8 n0).toArray:=hJ.val 4 24 rfl (hd 4 (by decide))
   have f5:α 25=.agg (iv .u8 (zl 32)).toArray:=hJ.val 5 25 rfl (hd 5 (by decide))
   have f6:α 26=.agg (iv .u8 n1).toArray:=hJ.val 6 26 rfl (hd 6 (by decide))
   have f8:α 28=.string (strOfNums n2):=hJ.val 8 28 rfl (hd 8 (by decide))
   have f9:α 29=.agg (iv .u8 n2).toArray:=hJ.val 9 29 rfl (hd 9 (by decide))
   obtain⟨w1,w2,w3,w4⟩:=jb (hd 10 (by decide))
   rw [hsi]at w4
   have w4:hget G rA=some ⟨iv .u8 (zl 32), 41,none⟩:=w4
   have wl:=hget_lt w4
   have wn:H0.length≤rA:=w3.1
   simp (disch:=first|omega|simp only [lnS];try omega) [-getElem?_pos,-getElem?_neg,w1,w4,wl,wn,f9,l2,sN2]
   exact hcont _ _ (hJ.put0 rfl ⟨r7,rA,S2,by rw [gs_ne (by decide)];exact jp.set w2 wn _,fun j hj=>⟨(js j hj).1,(hget_set_ne (fun e=>w3.2 (by rw [e];exact hj))).trans (js j hj).2.1,(js j hj).2.2⟩,fun a b=>(by rw [gs_ne (by decide),hd 8 (by decide)]at b;cases b),fun _=>⟨w1,w2,w3,by rw [gs_eq (by rw [hJ.sz];decide)];exact hget_set_eq wl⟩⟩)
 rintro s α2 G4 hJ hall
 have hsz:s.size=12:=hJ.sz
 have hg:∀i,i<12→s.getD i false=true:=fun i hi=>by
  rw [agD,Array.getElem?_eq_getElem (by omega)]
  exact Array.all_eq_true.1 hall i (by omega)
 obtain⟨_,b7,S4,p4,js,_,ja⟩:=hJ.hp
 rw [hg 8 (by omega)]at p4
 obtain⟨a7,h7S,_,g7⟩:=ja (hg 10 (by omega))
 rw [hg 11 (by omega)]at g7
 have g7:hget G4 b7=some ⟨iv .u8 n2, 41,none⟩:=g7
 have p4:Pl H0 S4 G4 tb rb (.slice none 0 0) sT3 sT2 []:=p4
 have a1:=(hJ.lo 1 (by decide)).trans e1
 have a2:=(hJ.lo 2 (by decide)).trans e2
 have a5:=(hJ.lo 5 (by decide)).trans e5
 have a6:=(hJ.lo 6 (by decide)).trans e6
 have gT:=(js n hnS).2.1.trans gT
 have g5:=(js b5 h5S).2.1.trans g5
 have g6:=(js b6 h6S).2.1.trans g6
 have hS4:∀j∈S,j∈S4∧hget G4 j=hget H j:=fun j hj=>⟨(js j (hS1 j hj).1).1,((js j (hS1 j hj).1).2.1.trans (s23 j (hS1 j hj).1)).trans (hS1 j hj).2⟩
 have i0:=(js n hnS).1
 have i5:=(js b5 h5S).1
 have i6:=(js b6 h6S).1
 clear hall hsz hg hJ e1 e2 e5 e6 ja js p3 hS1 s23 hnB
 have l5:=hget_lt g5
 have l6:=hget_lt g6
 have p4':=p4.push (Low.push (nlE _) [some ⟨iv .u8 n1, 41,some 32⟩]) (S2:=[G4.length]) (fun j hj=>by rw [msG.1 hj];simp)
 have gr4:hget (G4++[some ⟨iv .u8 n1, 41,some 32⟩]) G4.length=some ⟨iv .u8 n1, 41,some 32⟩:=by rw [hget_app0];rfl
 have ld5:=key_load l0 g5
 have ld6:=key_load l1 g6
 refine aso fun K hK=>?_
 simp (disch:=first|omega|simp only [lnS];try omega) [-getElem?_pos,-getElem?_neg,a1,a5,a6,-xload,ld5,ld6,l1,tN1,rN1]
 refine⟨by kernel_rfl,AC.mono (pl_rseal p4' (k:=n0) (y:=zl 32) (s:=⟨#[116,101,120,116]⟩) (ks:=[n1]) l0 (by decide) sB_wf (keys1 l1 gr4) (by decide)) ?_⟩
 rintro v5 G5 ⟨_,p5,s5⟩
 rw [show addT ⟨6,⟨#[116,101,120,116]⟩,[n0,zl 32,n1]⟩ sT2=sT3 from sD3]at p5
 try simp (disch:=first|omega|simp only [lnS];try omega) [-getElem?_pos,-getElem?_neg]
 refine hK _ _ ?_;clear hK K
 have s5':∀j∈S4,hget G5 j=hget G4 j:=fun j hj=>(s5 j (by simp [hj])).trans (hget_left (p4.sl hj))
 have p5:=p5.less (S2:=S4) (fun j hj=>by simp [hj])
 have gT:=(s5' n i0).trans gT
 have g5:=(s5' b5 i5).trans g5
 have g6:=(s5' b6 i6).trans g6
 have g7:=(s5' b7 h7S).trans g7
 have hS5:∀j∈S,j∈S4∧hget G5 j=hget H j:=fun j hj=>⟨(hS4 j hj).1,(s5' j (hS4 j hj).1).trans (hS4 j hj).2⟩
 clear p4 p4' gr4 s5 s5' hS4 l5 l6 ld5 ld6
 have ldT:=ld_tb gT
 have ld6:=key_load l1 g6
 have hn5:H0.length≤G5.length:=p5.lw.2
 refine aso fun K hK=>?_
 simp (disch:=first|omega|simp only [lnS];try omega) [-getElem?_pos,-getElem?_neg,a2,a6,-xload,ldT,ld6,-notTuple]
 refine⟨by kernel_rfl,AC.mono (pl_pub hpw p5 (k:=n1) l1 n1_by (by decide)) ?_⟩
 rintro v6 G6 ⟨hv6,p6,s6⟩
 rw [show nmV ⟨3,⟨#[]⟩,[n1]⟩ sT3=_ from sV4]at hv6
 rw [show addT ⟨3,⟨#[]⟩,[n1]⟩ sT3=sT4 from sD4]at p6
 subst hv6
 have hn6:H0.length≤G6.length:=p6.lw.2
 try simp (disch:=first|omega|simp only [lnS];try omega) [-getElem?_pos,-getElem?_neg,l3,tN3,sN3,hn6,-notTuple]
 refine hK _ _ ?_;clear hK K
 have p7:=p6.push (Low.push (nlE _) [some ⟨iv .u8 n3, 41,none⟩]) (S2:=[G6.length]) (fun j hj=>by rw [msG.1 hj];simp)
 have g8:hget (G6++[some ⟨iv .u8 n3, 41,none⟩]) G6.length=some ⟨iv .u8 n3, 41,none⟩:=by rw [hget_app0];rfl
 have s7:∀j∈S4,j∈[G6.length]++S4∧hget (G6++[some ⟨iv .u8 n3, 41,none⟩]) j=hget G5 j:=fun j hj=>⟨by simp [hj],(hget_left (p6.sl hj)).trans (s6 j hj)⟩
 obtain⟨b8,hb8⟩:∃b8,b8=G6.length:=⟨_,rfl⟩
 rw [←hb8]at g8 ⊢
 have i8:b8∈[G6.length]++S4:=by rw [hb8];simp
 generalize [G6.length]++S4=S7 at *
 generalize G6++[some ⟨iv .u8 n3, 41,none⟩]=G7 at *
 have gT:=(s7 n i0).2.trans gT
 have g5:=(s7 b5 i5).2.trans g5
 have g6:=(s7 b6 i6).2.trans g6
 have g7:=(s7 b7 h7S).2.trans g7
 have i0:=(s7 n i0).1
 have i5:=(s7 b5 i5).1
 have i6:=(s7 b6 i6).1
 have i7:=(s7 b7 h7S).1
 have hS7:∀j∈S,j∈S7∧hget G7 j=hget H j:=fun j hj=>⟨(s7 j (hS5 j hj).1).1,(s7 j (hS5 j hj).1).2.trans (hS5 j hj).2⟩
 clear p5 p6 s6 s7 hS5 hb8 hn5 hn6 ldT ld6
 have ld6:=key_load l1 g6
 have p7':=p7.push (Low.push (nlE _) [some ⟨iv .u8 n1, 41,some 32⟩]) (S2:=[G7.length]) (fun j hj=>by rw [msG.1 hj];simp)
 have gr7:hget (G7++[some ⟨iv .u8 n1, 41,some 32⟩]) G7.length=some ⟨iv .u8 n1, 41,some 32⟩:=by rw [hget_app0];rfl
 have em:(⟨#[]⟩:ByteArray)=ByteArray.empty:=rfl
 refine aso fun K hK=>?_
 simp (disch:=first|omega|simp only [lnS];try omega) [-getElem?_pos,-getElem?_neg,a1,a6,-xload,ld6,l1,tN1,rN1]
 refine⟨by kernel_rfl,AC.mono (pl_make p7' (x:=sP) sP_wf (keys1 l1 gr7) (by decide)) ?_⟩
 rintro v8 G8 ⟨_,p8,s8⟩
 rw [sD4]at p8
 try simp (disch:=first|omega|simp only [lnS];try omega) [-getElem?_pos,-getElem?_neg]
 refine hK _ _ ?_;clear hK K
 have s8':∀j∈S7,hget G8 j=hget G7 j:=fun j hj=>(s8 j (by simp [hj])).trans (hget_left (p7.sl hj))
 have p8:=p8.less (S2:=S7) (fun j hj=>by simp [hj])
 have gT:=(s8' n i0).trans gT
 have g5:=(s8' b5 i5).trans g5
 have g6:=(s8' b6 i6).trans g6
 have g7:=(s8' b7 i7).trans g7
 have g8:=(s8' b8 i8).trans g8
 have hS8:∀j∈S,j∈S7∧hget G8 j=hget H j:=fun j hj=>⟨(hS7 j hj).1,(s8' j (hS7 j hj).1).trans (hS7 j hj).2⟩
 clear p7 p7' gr7 s8 s8' hS7 ld6
 have ldT:=ld_tb gT
 have ld5:=key_load l0 g5
 have p8':=p8.push (Low.push (nlE _) [some ⟨iv .u8 n0, 41,some 32⟩]) (S2:=[G8.length]) (fun j hj=>by rw [msG.1 hj];simp)
 have gr8:hget (G8++[some ⟨iv .u8 n0, 41,some 32⟩]) G8.length=some ⟨iv .u8 n0, 41,some 32⟩:=by rw [hget_app0];rfl
 have or8:OwnF (G8++[some ⟨iv .u8 n0, 41,some 32⟩]) (.slice (some ⟨G8.length,0,none⟩) 1 1) 41 32 (kr [n0]) [G8.length]:=.inr ⟨G8.length,1,rfl,by rw [kr_one];exact gr8,by rw [kr_one,iv_length];rfl,rfl⟩
 refine aso fun K hK=>?_
 simp (disch:=first|omega|simp only [lnS];try omega) [-getElem?_pos,-getElem?_neg,a2,a5,-xload,ldT,ld5,l0,tN0,rN0,-notTuple]
 refine⟨by kernel_rfl,AC.mono (pl_hash hpw p8' (s:=⟨#[104]⟩) (ks:=[n0]) sH_wf or8 (fun j hj=>by simp at hj;simp [hj]) (by decide)) ?_⟩
 rintro v9 G9 ⟨hv9,p9,s9⟩
 rw [show nmV ⟨2,⟨#[104]⟩,[n0]⟩ sT4=_ from sV5]at hv9
 rw [show addT ⟨2,⟨#[104]⟩,[n0]⟩ sT4=sT5 from sD5]at p9
 subst hv9
 have hn9:H0.length≤G9.length:=p9.lw.2
 try simp (disch:=first|omega|simp only [lnS];try omega) [-getElem?_pos,-getElem?_neg,l4,tN4,sN4,hn9,-notTuple]
 refine hK _ _ ?_;clear hK K
 have s9':∀j∈S7,hget G9 j=hget G8 j:=fun j hj=>(s9 j (by simp [hj])).trans (hget_left (p8.sl hj))
 have p9:=p9.less (S2:=S7) (fun j hj=>by simp [hj])
 have pA:=p9.push (Low.push (nlE _) [some ⟨iv .u8 n4, 41,none⟩]) (S2:=[G9.length]) (fun j hj=>by rw [msG.1 hj];simp)
 have gA:hget (G9++[some ⟨iv .u8 n4, 41,none⟩]) G9.length=some ⟨iv .u8 n4, 41,none⟩:=by rw [hget_app0];rfl
 have sA':∀j∈S7,j∈[G9.length]++S7∧hget (G9++[some ⟨iv .u8 n4, 41,none⟩]) j=hget G8 j:=fun j hj=>⟨by simp [hj],(hget_left (p9.sl hj)).trans (s9' j hj)⟩
 obtain⟨bA,hbA⟩:∃bA,bA=G9.length:=⟨_,rfl⟩
 rw [←hbA]at gA ⊢
 have iA:bA∈[G9.length]++S7:=by rw [hbA];simp
 generalize [G9.length]++S7=SA at *
 generalize G9++[some ⟨iv .u8 n4, 41,none⟩]=GA at *
 have g5:=(sA' b5 i5).2.trans g5
 have g7:=(sA' b7 i7).2.trans g7
 have g8:=(sA' b8 i8).2.trans g8
 have i5:=(sA' b5 i5).1
 have i7:=(sA' b7 i7).1
 have i8:=(sA' b8 i8).1
 have hSA:∀j∈S,j∈SA∧hget GA j=hget H j:=fun j hj=>⟨(sA' j (hS8 j hj).1).1,(sA' j (hS8 j hj).1).2.trans (hS8 j hj).2⟩
 clear p8 p8' p9 gr8 or8 s9 s9' sA' hS8 hbA hn9 ldT ld5 gT g6
 have ld5:=key_load l0 g5
 have pA':=pA.push (Low.push (nlE _) [some ⟨iv .u8 n0, 41,some 32⟩]) (S2:=[GA.length]) (fun j hj=>by rw [msG.1 hj];simp)
 have grA:hget (GA++[some ⟨iv .u8 n0, 41,some 32⟩]) GA.length=some ⟨iv .u8 n0, 41,some 32⟩:=by rw [hget_app0];rfl
 refine aso fun K hK=>?_
 simp (disch:=first|omega|simp only [lnS];try omega) [-getElem?_pos,-getElem?_neg,a1,a5,-xload,ld5,l0,tN0,rN0]
 refine⟨by kernel_rfl,AC.mono (pl_make pA' (x:=sH) sH_wf (keys1 l0 grA) (by decide)) ?_⟩
 rintro vB GB ⟨_,pB,sB⟩
 rw [sD5]at pB
 try simp (disch:=first|omega|simp only [lnS];try omega) [-getElem?_pos,-getElem?_neg]
 refine hK _ _ ?_;clear hK K
 have sB':∀j∈SA,hget GB j=hget GA j:=fun j hj=>(sB j (by simp [hj])).trans (hget_left (pA.sl hj))
 have pB:=pB.less (S2:=SA) (fun j hj=>by simp [hj])
 have g7:=(sB' b7 i7).trans g7
 have g8:=(sB' b8 i8).trans g8
 have gA:=(sB' bA iA).trans gA
 have hSB:∀j∈S,j∈SA∧hget GB j=hget H j:=fun j hj=>⟨(hSA j hj).1,(sB' j (hSA j hj).1).trans (hSA j hj).2⟩
 have ld7:=key_load l2 g7
 have ld8:=key_load l3 g8
 have ldA:=key_load l4 gA
 have hrow:setR (setR (setR (List.map (fun j=>(iv .u8 (zl 32))[j%32]?.getD undef) (List.range 96)) 0 (iv .u8 n2)) 32 (iv .u8 n3)) 64 (iv .u8 n4)=kr [n2,n3,n4]:=rfl
 (refine aso fun K hK=>?_;simp (disch:=first|omega|simp only [lnS];try omega) [-getElem?_pos,-getElem?_neg,a7,-xload,ld7,ld8,ldA,l2,l3,l4,tN2,tN3,tN4,hrow];refine hK _ _ ?_;clear hK K)
 have fin:SecQ H0 S H tb rb (.slice (some ⟨GB.length,0,none⟩) 3 3) (GB++[some ⟨kr [n2,n3,n4], 41,some 32⟩]):=⟨GB.length,rfl,by rw [hget_app0];rfl,(pB.less (S2:=S) (fun j hj=>(hSB j hj).1)).push (Low.push (nlE _) _) (S2:=[GB.length]) (fun j hj=>by rw [msG.1 hj];simp),fun j hj=>(hget_left (pB.sl (hSB j hj).1)).trans (hSB j hj).2⟩
 (refine aw_ret ?_;simp (disch:=first|omega|simp only [lnS];try omega) [-getElem?_pos,-getElem?_neg,-notTuple])
 exact fin
end
section
theorem ck_addr{n b j:Nat}(hj:j<n):xindexAddr Tryd.prog 22 (.slice (some ⟨b,0,none⟩) n n) (.int .i64 (j:Nat))=some (.pointer (some ⟨b,j*36,none⟩)):=by
 have h1:und Tryd.prog 22 = .slice 43 := by kernel_rfl
 have h2:szt Tryd.prog 43 = 36:=by kernel_rfl
 unfold xindexAddr
 simp only [h1,h2]
 rw [if_pos ⟨by omega,by omega,by omega⟩]
 simp
theorem KsP.ld{H:AH}{F:List Nat}{v:Value}{ks:List (List Int)}(h:KsP H F v ks)(hk:∀k∈ks,k.length=32){i:Nat}(hi:i<ks.length):∃p,notTuple p=true∧xindexAddr Tryd.prog 34 v (.int .i64 (i:Nat))=some p∧∀ (G:AH) (F':List Nat),Fr H G F F'→xload Tryd.prog 41 p G=some (.agg (iv .u8 (ks.getD i [])).toArray):=by
 obtain⟨p,y,h1,h2,h3,rfl,h4⟩:=(h.now.acc hk).at_ i hi
 refine⟨p,h1,h2,fun G F' f=>?_⟩
 obtain⟨p',y,g1,g2,g3,rfl,g4⟩:=((h.at_ f).acc hk).at_ i hi
 rw [h2]at g2
 cases g2
 exact g4 G (Low.refl (nlE _))
def k7L:List Int:=7::zl 31
def aC1:CookD:=⟨1,0,⟨#[]⟩,[],zl 32⟩
def aC2:CookD:=⟨2,0,⟨#[110]⟩,[],zl 32⟩
def aC3:CookD:=⟨3,0,⟨#[116]⟩,[0,1],zl 32⟩
theorem zk32:Key32 (zl 32):=⟨rfl,zl_by32⟩
theorem aC_ok:∀x∈[aC1,aC2,aC3],x.Ok:=fun x hx=>by
 simp only [mcN]at hx
 rcases hx with rfl | rfl | rfl
 ·exact⟨⟨by unfold I64;decide,by unfold I64;decide,by decide,fun z hz=>(by cases hz),by decide,zk32⟩,by decide,by decide⟩
 ·exact⟨⟨by unfold I64;decide,by unfold I64;decide,by decide,fun z hz=>(by cases hz),by decide,zk32⟩,by decide,by decide⟩
 ·exact⟨⟨by unfold I64;decide,by unfold I64;decide,by decide,fun z hz=>(by simp [aC3]at hz;rcases hz with rfl | rfl <;> (unfold I64;decide)),by decide,zk32⟩,by decide,by decide⟩
@[reducible] def AP (E:AH) (b:Nat) (F:List Nat) (TT:List TermD) (s:Array Bool) (α:Fm) (G:AH):Prop:=
 ∃Fc,Fr E G F Fc∧Tbl G b Fc TT∧(s.getD 31 false=true→s.getD 32 false=false→∃r,α 44=.slice (some ⟨r,0,none⟩) 2 2∧r∉Fc∧hget G r=some ⟨iv .u8 k7L++iv .u8 n0, 41,some 32⟩)
theorem AP.keep{E:AH}{b:Nat}{F:List Nat}{TT:List TermD}{s:Array Bool}{α:Fm}{G:AH}{i t:Nat}{v:Value}(hi:i∉[31,32])(ht:t≠44)(h:AP E b F TT s α G):AP E b F TT (s.setIfInBounds i true) (α.put (some t) v) G:=by
 simp only [mcN,not_or]at hi
 obtain⟨Fc,w1,w2,w3⟩:=h
 refine⟨Fc,w1,w2,fun a b=>?_⟩
 rw [gs_ne hi.1]at a
 rw [gs_ne hi.2]at b
 obtain⟨r,x1,x2⟩:=w3 a b
 exact⟨r,by simpa [put_at,Ne.symm ht] using x1,x2⟩
def aN:TermD:=⟨1,⟨#[102,111,101,32,110]⟩,[]⟩
def aH:TermD:=⟨2,⟨#[116]⟩,[k7L,n0]⟩
def aT2:List TermD:=[aN,aH]
theorem k7_by:By k7L:=fun x hx=>by
 rcases List.mem_cons.1 hx with rfl | h
 ·omega
 ·rw [List.eq_of_mem_replicate h];omega
theorem aN_wf:aN.Wf:=wf_atom (by decide)
theorem aH_wf:TermD.Wf ⟨2,⟨#[116]⟩,[k7L,n0]⟩:=⟨by decide,by decide,two32 rfl rfl,twoBy k7_by n0_by,by decide,fun e=>(by cases e),fun e=>(by cases e),fun e=>(by cases e)⟩
theorem aT2_wf:∀x∈aT2,x.Wf:=fun x hx=>by
 simp only [aT2,mcN]at hx
 rcases hx with rfl | rfl
 ·exact aN_wf
 ·exact aH_wf
theorem aT2_nd:aT2.Nodup:=by
 have h:aN≠aH:=kne (by decide)
 simp [aT2,h]
theorem aA1:addT aN []=[aN]∧nameT aN []=0:=add_new aN_wf (by simp) (by simp)
theorem aA2:addT aH [aN]=aT2∧nameT aH [aN]=1:=add_new aH_wf (fun y hy=>by rw [msG.1 hy];exact aN_wf) (fun h=>kne (by decide) (msG.1 h))
theorem aR1:addT ⟨1,⟨#[102,111,101,32,110]⟩,[]⟩ aT2=aT2∧nameT ⟨1,⟨#[102,111,101,32,110]⟩,[]⟩ aT2=0:=add_old aN_wf aT2_wf aT2_nd rfl
theorem aR2:addT ⟨2,⟨#[116]⟩,[k7L,n0]⟩ aT2=aT2∧nameT ⟨2,⟨#[116]⟩,[k7L,n0]⟩ aT2=1:=add_old aH_wf aT2_wf aT2_nd rfl
theorem aMk:makeM [k7L] [aC1,aC2,aC3] ([],[])=(aT2,[k7L,n0,n1]):=by
 show (addT aH (addT aN []),[k7L]++[nmL (nameT aN []:Nat)]++[nmL (nameT ⟨2,⟨#[116]⟩,[k7L,nmL (nameT aN []:Nat)]⟩ (addT aN []):Nat)])=_
 rw [aA1.1,aA1.2,aA2.1]
 show (aT2,[k7L]++[n0]++[nmL (nameT aH [aN]:Nat)])=_
 rw [aA2.2]
 rfl
def alAD:List (Option Nat):=[some 13,some 14,some 15,some 16,some 17,some 18,some 19,some 20,some 21,some 22,some 23,some 24,some 25,some 26,some 27,some 28,some 29,some 30,some 31,some 32,some 33,some 34,some 35,some 36,some 37,some 38,some 39,some 40,some 41,some 42,some 43,some 44,some 45,some 46,some 47,some 0]
def alAP:List (List Nat):=[[],[0],[1],[2],[3],[3,4],[3,5],[3],[3,6,7],[3,8],[3,9],[10],[10,11],[10,12],[10],[10,14],[10,15],[10,13,16],[10,17],[16,18],[19],[19,20],[19,21],[19],[19,23],[19],[19,25],[19,26],[19],[19,28],[19,29],[19,27,30],[19,24,31],[19,22,32],[19,33],[0,1,2,3,4,5,6,7,8,9,10,11,12,13,14,15,16,17,18,19,20,21,22,23,24,25,26,27,28,29,30,31,32,33,34]]
def alAV(n b:Nat)(lv p0 p1 p2:Value)(i:Nat)(v:Value):Prop:=match i with
 | 0=>v=lv
 | 1=>v=.int .i64 3
 | 2=>v=.bool true
 | 3=>v=.bool true
 | 4=>v=lv
 | 5=>v=p0
 | 6=>v=.agg (iv .u8 k7L).toArray
 | 7=>v=.agg (iv .u8 k7L).toArray
 | 8=>v=.bool true
 | 9=>v=.bool true
 | 10=>v=.bool true
 | 11=>v=lv
 | 12=>v=p1
 | 13=>v=.agg (iv .u8 n0).toArray
 | 14=>v=.pointer (some ⟨n,0,none⟩)
 | 15=>v=.pointer (some ⟨b,0,none⟩)
 | 16=>v=.agg (iv .u8 n0).toArray
 | 17=>v=.bool true
 | 18=>v=.bool true
 | 19=>v=.bool true
 | 20=>v=lv
 | 21=>v=p2
 | 22=>v=.agg (iv .u8 n1).toArray
 | 23=>v=.pointer (some ⟨n,0,none⟩)
 | 24=>v=.pointer (some ⟨b,0,none⟩)
 | 25=>v=lv
 | 26=>v=p0
 | 27=>v=.agg (iv .u8 k7L).toArray
 | 28=>v=lv
 | 29=>v=p1
 | 30=>v=.agg (iv .u8 n0).toArray
 | 32=>v=.agg (iv .u8 n1).toArray
 | 33=>v=.bool true
 | 34=>v=.bool true
 | 35=>v=.bool true
 | _=>True
theorem alA_nd:∀i j t:Nat,alAD[i]?=some (some t)→alAD[j]?=some (some t)→i=j:=by
 have h:∀i<36,∀j<36,∀t:Nat,alAD[i]?=some (some t)→alAD[j]?=some (some t)→i=j:=by
  intro i hi j hj t h1 h2
  have h3:alAD[i]?=alAD[j]?:=h1.trans h2.symm
  have h4:(alAD[i]?.bind id).isSome=true:=by rw [h1];rfl
  revert h3 h4
  clear h1 h2
  revert i j
  decide
 intro i j t hi hj
 exact h i (gsI.1 hi).1 j (gsI.1 hj).1 t hi hj
theorem alive_rc{γ:Nat→Option Nat}{H:AH}(hpw:Pw γ H):AC Tryd.prog H.length γ 6 #[] H (fun v' _=>v'=.bool true):=by
 have hpl:plain1 (.slice none 0 0)=true:=rfl
 have k7e:(iv .u8 (zl 32)).set 0 (.int .u8 7)=iv .u8 k7L:=rfl
 have k7l:k7L.length=32:=rfl
 have k7t:(iv .u8 k7L).take 32=iv .u8 k7L:=rfl
 have k7r:setR (List.map (fun j=>(iv .u8 (zl 32))[j%32]?.getD undef) (List.range 32)) 0 (iv .u8 k7L)=iv .u8 k7L:=setR_all _ _ (by simp [k7l])
 refine ac_of_aw Tryd.func6 rfl Tryd.ntmps6 Tryd.results6 (by simp) ?_
 (refine aso fun K hK=>?_;simp (disch:=first|omega|simp only [lnS];try omega) [-getElem?_pos,-getElem?_neg];refine hK _ _ ?_;clear hK K)
 refine aso fun K hK=>?_
 simp (disch:=first|omega|simp only [lnS];try omega) [-getElem?_pos,-getElem?_neg]
 refine⟨by kernel_rfl,AC.mono (newfree_ac (nlE _)) ?_⟩
 rintro v1 G ⟨b,F,rfl,lw,t0,hF⟩
 have hnG:=lw.2
 have hpp:plain1 (.pointer none)=true:=rfl
 try simp (disch:=first|omega|simp only [lnS];try omega) [-getElem?_pos,-getElem?_neg,hpp,hnG,-notTuple]
 refine hK _ _ ?_;clear hK K
 obtain⟨n,hn⟩:∃n,n=G.length:=⟨_,rfl⟩
 obtain⟨B,hB⟩:∃B:AH,B=G++[some ⟨[.pointer (some ⟨b,0,none⟩)], 27,none⟩]:=⟨_,rfl⟩
 have gT:hget B n=some ⟨[.pointer (some ⟨b,0,none⟩)], 27,none⟩:=by rw [hB,hn,hget_app0];rfl
 have lwB:Low G.length G B:=by rw [hB];exact Low.push (nlE _) _
 have tB:Tbl B b F []:=t0.low (fun j hj=>lwB.1 j (t0.bound j hj)) lwB.2
 have lwHB:Low H.length H B:=⟨fun j hj=>(lwB.1 j (by omega)).trans (lw.1 j hj),by have:=lwB.2;omega⟩
 have nF:n∉F:=fun e=>by have:=t0.bound _ e;omega
 rw [←hn,←hB]
 have hBl:B.length=n+1:=by rw [hB,hn];simp
 clear hB t0 lwB
 have ldF:xload Tryd.prog 27 (.pointer (some ⟨n,0,none⟩)) B=some (.agg #[.pointer (some ⟨b,0,none⟩)]):=by simp [xload,gT]
 refine aw_seq ?_
 refine aw_opsA 7 (by kernel_rfl) ?_
 simp only [List.take_succ_cons,List.take_zero,gdZ]
 simp (disch:=first|omega|simp only [lnS];try omega) [-getElem?_pos,-getElem?_neg,hpl,-xload,ldF,-notTuple,k7e,k7l,k7t,k7r]
 have hr2:((List.map (fun j=>[Value.int IntKind.i64 0][j%1]?.getD undef) (List.range 2)).set 0 (Value.int IntKind.i64 0)).set 1 (Value.int IntKind.i64 1)=iv .i64 [0,1]:=rfl
 rw [hr2]
 obtain⟨C1,hC1⟩:∃C1:List Value,C1=.int .i64 1::.int .i64 0::.string ByteArray.empty::.slice none 0 0::iv .u8 (zl 32):=⟨_,rfl⟩
 obtain⟨C2,hC2⟩:∃C2:List Value,C2=.int .i64 2::.int .i64 0::.string ⟨#[110]⟩::.slice none 0 0::iv .u8 (zl 32):=⟨_,rfl⟩
 obtain⟨C3,hC3⟩:∃C3:List Value,C3=.int .i64 3::.int .i64 0::.string ⟨#[116]⟩::.slice (some ⟨B.length+1,0,none⟩) 2 2::iv .u8 (zl 32):=⟨_,rfl⟩
 obtain⟨D,hD⟩:∃D:AH,D=B++[some ⟨iv .u8 k7L, 41,some 32⟩,some ⟨iv .i64 [0,1], 3,some 1⟩]:=⟨_,rfl⟩
 rw [←hC1,←hC2,←hC3,←hD]
 have lC1:C1.length=36:=by rw [hC1];rfl
 have lC2:C2.length=36:=by rw [hC2];rfl
 have lC3:C3.length=36:=by rw [hC3];rfl
 have gk:hget D B.length=some ⟨iv .u8 k7L, 41,some 32⟩:=by rw [hD,hget_app0];rfl
 have gi:hget D (B.length+1)=some ⟨iv .i64 [0,1], 3,some 1⟩:=by rw [hD,hget_app];rfl
 have lwD:Low B.length B D:=by rw [hD];exact Low.push (nlE _) _
 have hDl:D.length=B.length+2:=by rw [hD];simp
 clear hD hr2 k7e k7r
 have hrow:∀Z:List Value,Z.length=108→setR (setR (setR Z 0 C1) 36 C2) 72 C3=C1++(C2++C3):=fun Z hZ=>by
  have e1:=setR_app C1 C2 Z 0
  have e2:=setR_app (C1++C2) C3 Z 0
  rw [Nat.zero_add,lC1]at e1
  rw [Nat.zero_add,laP,lC1,lC2]at e2
  rw [←e1,←e2,List.append_assoc,setR_all _ _ (by simp only [laP];omega)]
 obtain⟨R,hR⟩:∃R:Option Blk,R=some ⟨C1++(C2++C3), 43,some 36⟩:=⟨_,rfl⟩
 refine al_xl (by kernel_rfl) (fun K hK=>?_)
 simp (disch:=first|omega|simp only [lnS];try omega) [-getElem?_pos,-getElem?_neg,hpl,lC1,lC2,lC3,-notTuple,hrow,←hR]
 rw [hrow _ (by simp),←hR]
 obtain⟨E,hE⟩:∃E:AH,E=D++[R]:=⟨_,rfl⟩
 have gR:hget E D.length=some ⟨C1++(C2++C3), 43,some 36⟩:=by rw [hE,hget_app0,←hR];rfl
 have lwE0:Low D.length D E:=by rw [hE];exact Low.push (nlE _) _
 rw [←hE]
 clear hE hR hrow
 have gk:=(lwE0.1 _ (by omega)).trans gk
 have gi:=(lwE0.1 _ (by omega)).trans gi
 have lwBE:Low B.length B E:=⟨fun j hj=>(lwE0.1 j (by omega)).trans (lwD.1 j hj),by have:=lwE0.2;omega⟩
 have tE:Tbl E b F []:=tB.low (fun j hj=>lwBE.1 j (tB.bound j hj)) lwBE.2
 have lwE:Low H.length H E:=⟨fun j hj=>(lwBE.1 j (by have:=lwHB.2;omega)).trans (lwHB.1 j hj),by have:=lwHB.2;have:=lwBE.2;omega⟩
 have hFB:∀j∈F,j<B.length:=fun j hj=>tB.bound j hj
 have gT:=(lwBE.1 _ (hget_lt gT)).trans gT
 have hsv:KsP E F (.slice (some ⟨B.length,0,none⟩) 1 1) [k7L]:=fun G2 hl hg=>keys1 rfl ((hg _ (hget_lt gk) (fun e=>by have:=hFB _ e;omega)).trans gk)
 have hlv:CkP E F (.slice (some ⟨D.length,0,none⟩) 3 3) [aC1,aC2,aC3]:=by
  refine⟨rfl,rfl,?_,fun i x hi=>?_⟩
  ·have hu:und Tryd.prog 22 = .slice 43 := by kernel_rfl
   unfold xlen
   simp only [hu]
   rfl
  ·have hil:i<3:=(gsI.1 hi).1
   have gR2:∀G:AH,E.length≤G.length→(∀j,j<E.length→j∉F→hget G j=hget E j)→hget G D.length=some ⟨C1++(C2++C3), 43,some 36⟩:=fun G hl hg=>(hg _ (hget_lt gR) (fun e=>by have:=hFB _ e;omega)).trans gR
   have gi2:∀G:AH,E.length≤G.length→(∀j,j<E.length→j∉F→hget G j=hget E j)→InV G (.slice (some ⟨B.length+1,0,none⟩) 2 2) [0,1]:=fun G hl hg=>own_inv (F:=[B.length+1]) (.inr ⟨B.length+1,2,rfl,(hg _ (hget_lt gi) (fun e=>by have:=hFB _ e;omega)).trans gi,rfl,rfl⟩)
   have nl:∀G:AH,InV G (.slice none 0 0) []:=fun G=>own_inv (F:=[]) (e := 3) (.inl ⟨rfl,rfl,rfl⟩)
   have ldc:∀ (G:AH) (C:List Value) (i:Nat),i<3→hget G D.length=some ⟨C1++(C2++C3), 43,some 36⟩→C=((C1++(C2++C3)).drop (i*36)).take 36→xload Tryd.prog 43 (.pointer (some ⟨D.length,i*36,none⟩)) G=some (.agg C.toArray):=fun G C i hi hb hC=>load_at (sz:=36) hb (by kernel_rfl) (by omega) (by kernel_rfl) hC (by show _≤(C1++(C2++C3)).length;simp only [laP,lC1,lC2,lC3];omega)
   have c1:C1=((C1++(C2++C3)).drop (0*36)).take 36:=by rw [Nat.zero_mul,List.drop_zero,List.take_append_of_le_length (by omega),tkL (by omega)]
   have c2:C2=((C1++(C2++C3)).drop (1*36)).take 36:=by rw [show 1*36=C1.length by omega,List.drop_left,List.take_append_of_le_length (by omega),tkL (by omega)]
   have c3:C3=((C1++(C2++C3)).drop (2*36)).take 36:=by rw [←List.append_assoc,show 2*36=(C1++C2).length by rw [laP];omega,List.drop_left,tkL (by omega)]
   match i,hil,hi with
   | 0,_,hi=>
    cases hi
    exact⟨_,C1,.slice none 0 0,rfl,ck_addr (by omega),fun G hl hg=>⟨ldc G C1 0 (by omega) (gR2 G hl hg) c1,⟨lC1,by rw [hC1];rfl,by rw [hC1];rfl,by rw [hC1];rfl,by rw [hC1];rfl,by rw [hC1];rfl,nl G⟩⟩⟩
   | 1,_,hi=>
    cases hi
    exact⟨_,C2,.slice none 0 0,rfl,ck_addr (by omega),fun G hl hg=>⟨ldc G C2 1 (by omega) (gR2 G hl hg) c2,⟨lC2,by rw [hC2];rfl,by rw [hC2];rfl,by rw [hC2];rfl,by rw [hC2];rfl,by rw [hC2];rfl,nl G⟩⟩⟩
   | 2,_,hi=>
    cases hi
    exact⟨_,C3,.slice (some ⟨B.length+1,0,none⟩) 2 2,rfl,ck_addr (by omega),fun G hl hg=>⟨ldc G C3 2 (by omega) (gR2 G hl hg) c3,⟨lC3,by rw [hC3];rfl,by rw [hC3];rfl,by rw [hC3];rfl,by rw [hC3];rfl,by rw [hC3];rfl,gi2 G hl hg⟩⟩⟩
 have hmk:=make_ac (γ:=γ) hpw lwE tE hF hsv (fun k hk=>by rw [msG.1 hk];exact⟨rfl,k7_by⟩) hlv (fun x hx=>aC_ok x hx) (by decide) (by decide) (fun y hy=>by cases hy)
 rw [aMk]at hmk
 clear hC1 hC2 hC3 hlv
 refine⟨by kernel_rfl,AC.mono hmk ?_⟩
 rintro v2 G2 ⟨⟨F2,f2,t2,k2f⟩,_⟩
 have k2:=k2f.ksp
 have lnt:=k2.nt
 try simp (disch:=first|omega|simp only [lnS];try omega) [-getElem?_pos,-getElem?_neg,-notTuple,lnt.1,lnt.2]
 refine hK _ _ ?_;clear hK K
 have t2:Tbl G2 b F2 aT2:=t2
 have k2:KsP G2 F2 v2 [k7L,n0,n1]:=k2
 have k32:∀k∈[k7L,n0,n1],k.length=32:=fun k hk=>by
  simp only [mcN]at hk
  rcases hk with rfl | rfl | rfl <;> rfl
 have lwE2:Low H.length H G2:=lowFr lwE hF f2
 have hnF:∀j∈F2,H.length≤j:=f2.lo hF lwE.2
 have nF2:n∉F2:=fun e=>by
  rcases f2.new n e with e2 | e2
  ·exact nF e2
  ·have:=hget_lt gT;omega
 have gT:=(f2.out n (hget_lt gT) nF).trans gT
 have lln:=(k2.now.acc k32).len
 have lln:xlen Tryd.prog 34 v2=some (.int .i64 3):=lln
 obtain⟨p0,d0,i0,q0⟩:=k2.ld k32 (i:=0) (by decide)
 obtain⟨p1,d1,i1,q1⟩:=k2.ld k32 (i:=1) (by decide)
 obtain⟨p2,d2,i2,q2⟩:=k2.ld k32 (i:=2) (by decide)
 have i0:xindexAddr Tryd.prog 34 v2 (.int .i64 0)=some p0:=i0
 have i1:xindexAddr Tryd.prog 34 v2 (.int .i64 1)=some p1:=i1
 have i2:xindexAddr Tryd.prog 34 v2 (.int .i64 2)=some p2:=i2
 have q0:∀ (G:AH) (F':List Nat),Fr G2 G F2 F'→xload Tryd.prog 41 p0 G=some (.agg (iv .u8 k7L).toArray):=q0
 have q1:∀ (G:AH) (F':List Nat),Fr G2 G F2 F'→xload Tryd.prog 41 p1 G=some (.agg (iv .u8 n0).toArray):=q1
 have q2:∀ (G:AH) (F':List Nat),Fr G2 G F2 F'→xload Tryd.prog 41 p2 G=some (.agg (iv .u8 n1).toArray):=q2
 have l0:n0.length=32:=rfl
 have l1:n1.length=32:=rfl
 have t0:(iv .u8 n0).take 32=iv .u8 n0:=rfl
 have t1:(iv .u8 n1).take 32=iv .u8 n1:=rfl
 have k7b:(k7L==k7L)=true:=by simp
 have l0b:(n0==n0)=true:=by simp
 have l1b:(n1==n1)=true:=by simp
 have k7e:(iv .u8 (zl 32)).set 0 (.int .u8 7)=iv .u8 k7L:=rfl
 have hrow:setR (setR (List.map (fun j=>(iv .u8 (zl 32))[j%32]?.getD undef) (List.range 64)) 0 (iv .u8 k7L)) 32 (iv .u8 n0)=iv .u8 k7L++iv .u8 n0:=row2 (by simp) (by simp [k7l]) (by simp [l0])
 refine aw_seq ?_
 refine name_aw (fun β hβ=>?_)
 have e1:β 1=.pointer (some ⟨n,0,none⟩):=by rw [hβ];(first|simp;done|rfl)
 have e2:β 2=v2:=by rw [hβ];(first|simp;done|rfl)
 clear hβ
 obtain⟨E2,hE2⟩:∃E2,E2=G2:=⟨_,rfl⟩
 rw [←hE2]at t2 gT lwE2 q0 q1 q2 ⊢
 clear hE2 tE tB f2 lwE0 lwBE lwD hmk hsv gR gk gi
 have lwE:=lwE2
 have nF:=nF2
 refine aw_inv alAP (JT alAD (alAV n b v2 p0 p1 p2) β (AP E2 b F2 aT2)) (by kernel_rfl) (by kernel_rfl) (by kernel_rfl) ?_ ?_ ?_
 ·exact⟨by simp;rfl,fun _ _=>rfl,fun i t' hi h=>(by rw [gs_0]at h;cases h),F2,Fr.refl _ _,t2,fun h=>(by rw [gs_0]at h;cases h)⟩
 ·intro i s α G k hJ hi0 hsi hd hcc hcont
  obtain⟨Fc,jf,jt,ja⟩:=hJ.hp
  have j1:=(hJ.lo 1 (by decide)).trans e1
  have j2:=(hJ.lo 2 (by decide)).trans e2
  have gT:=(jf.out n (hget_lt gT) nF).trans gT
  have ldT:=ld_tb gT
  have ld0:=q0 G Fc jf
  have ld1:=q1 G Fc jf
  have ld2:=q2 G Fc jf
  have hi:i=0∨i=1∨i=2∨i=3∨i=4∨i=5∨i=6∨i=7∨i=8∨i=9∨i=10∨i=11∨i=12∨i=13∨i=14∨i=15∨i=16∨i=17∨i=18∨i=19∨i=20∨i=21∨i=22∨i=23∨i=24∨i=25∨i=26∨i=27∨i=28∨i=29∨i=30∨i=31∨i=32∨i=33∨i=34∨i=35:=by have hi0:i<36:=hi0;omega
  rcases hi with rfl | rfl | rfl | rfl | rfl | rfl | rfl | rfl | rfl | rfl | rfl | rfl | rfl | rfl | rfl | rfl | rfl | rfl | rfl | rfl | rfl | rfl | rfl | rfl | rfl | rfl | rfl | rfl | rfl | rfl | rfl | rfl | rfl | rfl | rfl | rfl
  ·simp (disch:=first|omega|simp only [lnS];try omega) [-getElem?_pos,-getElem?_neg,-notTuple,lnt,j2]
   exact hcont _ _ (hJ.put alA_nd (t:=13) rfl rfl (hJ.hp.keep (by decide) (by decide)))
  ·have f0:α 13=v2:=hJ.val 0 13 rfl (hd 0 (by decide))
   simp (disch:=first|omega|simp only [lnS];try omega) [-getElem?_pos,-getElem?_neg,-notTuple,lnt,-xlen,lln,f0]
   exact hcont _ _ (hJ.put alA_nd (t:=14) rfl rfl (hJ.hp.keep (by decide) (by decide)))
  ·have f1:α 14=.int .i64 3:=hJ.val 1 14 rfl (hd 1 (by decide))
   simp (disch:=first|omega|simp only [lnS];try omega) [-getElem?_pos,-getElem?_neg,-notTuple,lnt,f1]
   exact hcont _ _ (hJ.put alA_nd (t:=15) rfl rfl (hJ.hp.keep (by decide) (by decide)))
  ·have f2:α 15=.bool true:=hJ.val 2 15 rfl (hd 2 (by decide))
   simp (disch:=first|omega|simp only [lnS];try omega) [-getElem?_pos,-getElem?_neg,-notTuple,lnt,f2]
   exact hcont _ _ (hJ.put alA_nd (t:=16) rfl rfl (hJ.hp.keep (by decide) (by decide)))
  ·have f3:α 16=.bool true:=hJ.val 3 16 rfl (hd 3 (by decide))
   simp (disch:=first|omega|simp only [lnS];try omega) [-getElem?_pos,-getElem?_neg,-notTuple,lnt,j2,f3]
   exact hcont _ _ (hJ.put alA_nd (t:=17) rfl rfl (hJ.hp.keep (by decide) (by decide)))
  ·have f3:α 16=.bool true:=hJ.val 3 16 rfl (hd 3 (by decide))
   have f4:α 17=v2:=hJ.val 4 17 rfl (hd 4 (by decide))
   simp (disch:=first|omega|simp only [lnS];try omega) [-getElem?_pos,-getElem?_neg,-notTuple,lnt,-xindexAddr,i0,d0,f3,f4]
   exact hcont _ _ (hJ.put alA_nd (t:=18) rfl rfl (hJ.hp.keep (by decide) (by decide)))
  ·have f3:α 16=.bool true:=hJ.val 3 16 rfl (hd 3 (by decide))
   have f5:α 18=p0:=hJ.val 5 18 rfl (hd 5 (by decide))
   simp (disch:=first|omega|simp only [lnS];try omega) [-getElem?_pos,-getElem?_neg,-notTuple,lnt,-xload,ld0,f3,f5]
   exact hcont _ _ (hJ.put alA_nd (t:=19) rfl rfl (hJ.hp.keep (by decide) (by decide)))
  ·have f3:α 16=.bool true:=hJ.val 3 16 rfl (hd 3 (by decide))
   simp (disch:=first|omega|simp only [lnS];try omega) [-getElem?_pos,-getElem?_neg,-notTuple,lnt,k7e,f3]
   exact hcont _ _ (hJ.put alA_nd (t:=20) rfl rfl (hJ.hp.keep (by decide) (by decide)))
  ·have f3:α 16=.bool true:=hJ.val 3 16 rfl (hd 3 (by decide))
   have f6:α 19=.agg (iv .u8 k7L).toArray:=hJ.val 6 19 rfl (hd 6 (by decide))
   have f7:α 20=.agg (iv .u8 k7L).toArray:=hJ.val 7 20 rfl (hd 7 (by decide))
   simp (disch:=first|omega|simp only [lnS];try omega) [-getElem?_pos,-getElem?_neg,-notTuple,lnt,k7l,k7t,k7b,f3,f6,f7]
   exact hcont _ _ (hJ.put alA_nd (t:=21) rfl rfl (hJ.hp.keep (by decide) (by decide)))
  ·have f3:α 16=.bool true:=hJ.val 3 16 rfl (hd 3 (by decide))
   have f8:α 21=.bool true:=hJ.val 8 21 rfl (hd 8 (by decide))
   simp (disch:=first|omega|simp only [lnS];try omega) [-getElem?_pos,-getElem?_neg,-notTuple,lnt,f3,f8]
   exact hcont _ _ (hJ.put alA_nd (t:=22) rfl rfl (hJ.hp.keep (by decide) (by decide)))
  ·have f3:α 16=.bool true:=hJ.val 3 16 rfl (hd 3 (by decide))
   have f9:α 22=.bool true:=hJ.val 9 22 rfl (hd 9 (by decide))
   simp (disch:=first|omega|simp only [lnS];try omega) [-getElem?_pos,-getElem?_neg,-notTuple,lnt,f3,f9]
   exact hcont _ _ (hJ.put alA_nd (t:=23) rfl rfl (hJ.hp.keep (by decide) (by decide)))
  ·have f10:α 23=.bool true:=hJ.val 10 23 rfl (hd 10 (by decide))
   simp (disch:=first|omega|simp only [lnS];try omega) [-getElem?_pos,-getElem?_neg,-notTuple,lnt,j2,f10]
   exact hcont _ _ (hJ.put alA_nd (t:=24) rfl rfl (hJ.hp.keep (by decide) (by decide)))
  ·have f10:α 23=.bool true:=hJ.val 10 23 rfl (hd 10 (by decide))
   have f11:α 24=v2:=hJ.val 11 24 rfl (hd 11 (by decide))
   simp (disch:=first|omega|simp only [lnS];try omega) [-getElem?_pos,-getElem?_neg,-notTuple,lnt,-xindexAddr,i1,d1,f10,f11]
   exact hcont _ _ (hJ.put alA_nd (t:=25) rfl rfl (hJ.hp.keep (by decide) (by decide)))
  ·have f10:α 23=.bool true:=hJ.val 10 23 rfl (hd 10 (by decide))
   have f12:α 25=p1:=hJ.val 12 25 rfl (hd 12 (by decide))
   simp (disch:=first|omega|simp only [lnS];try omega) [-getElem?_pos,-getElem?_neg,-notTuple,lnt,-xload,ld1,f10,f12]
   exact hcont _ _ (hJ.put alA_nd (t:=26) rfl rfl (hJ.hp.keep (by decide) (by decide)))
  ·have f10:α 23=.bool true:=hJ.val 10 23 rfl (hd 10 (by decide))
   simp (disch:=first|omega|simp only [lnS];try omega) [-getElem?_pos,-getElem?_neg,-notTuple,lnt,j1,f10]
   exact hcont _ _ (hJ.put alA_nd (t:=27) rfl rfl (hJ.hp.keep (by decide) (by decide)))
  ·have f10:α 23=.bool true:=hJ.val 10 23 rfl (hd 10 (by decide))
   have f14:α 27=.pointer (some ⟨n,0,none⟩):=hJ.val 14 27 rfl (hd 14 (by decide))
   simp (disch:=first|omega|simp only [lnS];try omega) [-getElem?_pos,-getElem?_neg,-notTuple,lnt,-xload,ldT,f10,f14]
   exact hcont _ _ (hJ.put alA_nd (t:=28) rfl rfl (hJ.hp.keep (by decide) (by decide)))
  ·have f10:α 23=.bool true:=hJ.val 10 23 rfl (hd 10 (by decide))
   have f15:α 28=.pointer (some ⟨b,0,none⟩):=hJ.val 15 28 rfl (hd 15 (by decide))
   simp (disch:=first|omega|simp only [lnS];try omega) [-getElem?_pos,-getElem?_neg,f10,f15]
   refine⟨by kernel_rfl,AC.mono (draw_ac (nro:=H.length) (γ:=γ) (s:=⟨#[102,111,101,32,110]⟩) (hpw.low (lowFr lwE hnF jf)) jt (jf.lo hnF lwE.2) (by have:=jf.len;have:=lwE.2;omega) (by decide) (by decide)) ?_⟩
   intro v' G' hq
   obtain⟨hv,F1,f1,t1⟩:=hq.fr
   rw [aR1.1]at t1
   rw [aR1.2]at hv
   subst hv
   exact hcont _ _ (hJ.put alA_nd (t:=29) rfl rfl ⟨F1,jf.trans f1,t1,fun a b=>by
    rw [gs_ne (by decide)]at a b
    obtain⟨r,w1,w2,w3⟩:=ja a b
    refine⟨r,by (first|simp [w1];done|rfl),fun e=>?_,(f1.out r (hget_lt w3) w2).trans w3⟩
    rcases f1.new r e with e2 | e2
    ·exact w2 e2
    ·have:=hget_lt w3;omega⟩)
  ·have f10:α 23=.bool true:=hJ.val 10 23 rfl (hd 10 (by decide))
   have f13:α 26=.agg (iv .u8 n0).toArray:=hJ.val 13 26 rfl (hd 13 (by decide))
   have f16:α 29=.agg (iv .u8 n0).toArray:=hJ.val 16 29 rfl (hd 16 (by decide))
   simp (disch:=first|omega|simp only [lnS];try omega) [-getElem?_pos,-getElem?_neg,-notTuple,lnt,l0,t0,l0b,f10,f13,f16]
   exact hcont _ _ (hJ.put alA_nd (t:=30) rfl rfl (hJ.hp.keep (by decide) (by decide)))
  ·have f10:α 23=.bool true:=hJ.val 10 23 rfl (hd 10 (by decide))
   have f17:α 30=.bool true:=hJ.val 17 30 rfl (hd 17 (by decide))
   simp (disch:=first|omega|simp only [lnS];try omega) [-getElem?_pos,-getElem?_neg,-notTuple,lnt,f10,f17]
   exact hcont _ _ (hJ.put alA_nd (t:=31) rfl rfl (hJ.hp.keep (by decide) (by decide)))
  ·have f16:α 29=.agg (iv .u8 n0).toArray:=hJ.val 16 29 rfl (hd 16 (by decide))
   have f18:α 31=.bool true:=hJ.val 18 31 rfl (hd 18 (by decide))
   simp (disch:=first|omega|simp only [lnS];try omega) [-getElem?_pos,-getElem?_neg,-notTuple,lnt,f16,f18]
   exact hcont _ _ (hJ.put alA_nd (t:=32) rfl rfl (hJ.hp.keep (by decide) (by decide)))
  ·have f19:α 32=.bool true:=hJ.val 19 32 rfl (hd 19 (by decide))
   simp (disch:=first|omega|simp only [lnS];try omega) [-getElem?_pos,-getElem?_neg,-notTuple,lnt,j2,f19]
   exact hcont _ _ (hJ.put alA_nd (t:=33) rfl rfl (hJ.hp.keep (by decide) (by decide)))
  ·have f19:α 32=.bool true:=hJ.val 19 32 rfl (hd 19 (by decide))
   have f20:α 33=v2:=hJ.val 20 33 rfl (hd 20 (by decide))
   simp (disch:=first|omega|simp only [lnS];try omega) [-getElem?_pos,-getElem?_neg,-notTuple,lnt,-xindexAddr,i2,d2,f19,f20]
   exact hcont _ _ (hJ.put alA_nd (t:=34) rfl rfl (hJ.hp.keep (by decide) (by decide)))
  ·have f19:α 32=.bool true:=hJ.val 19 32 rfl (hd 19 (by decide))
   have f21:α 34=p2:=hJ.val 21 34 rfl (hd 21 (by decide))
   simp (disch:=first|omega|simp only [lnS];try omega) [-getElem?_pos,-getElem?_neg,-notTuple,lnt,-xload,ld2,f19,f21]
   exact hcont _ _ (hJ.put alA_nd (t:=35) rfl rfl (hJ.hp.keep (by decide) (by decide)))
  ·have f19:α 32=.bool true:=hJ.val 19 32 rfl (hd 19 (by decide))
   simp (disch:=first|omega|simp only [lnS];try omega) [-getElem?_pos,-getElem?_neg,-notTuple,lnt,j1,f19]
   exact hcont _ _ (hJ.put alA_nd (t:=36) rfl rfl (hJ.hp.keep (by decide) (by decide)))
  ·have f19:α 32=.bool true:=hJ.val 19 32 rfl (hd 19 (by decide))
   have f23:α 36=.pointer (some ⟨n,0,none⟩):=hJ.val 23 36 rfl (hd 23 (by decide))
   simp (disch:=first|omega|simp only [lnS];try omega) [-getElem?_pos,-getElem?_neg,-notTuple,lnt,-xload,ldT,f19,f23]
   exact hcont _ _ (hJ.put alA_nd (t:=37) rfl rfl (hJ.hp.keep (by decide) (by decide)))
  ·have f19:α 32=.bool true:=hJ.val 19 32 rfl (hd 19 (by decide))
   simp (disch:=first|omega|simp only [lnS];try omega) [-getElem?_pos,-getElem?_neg,-notTuple,lnt,j2,f19]
   exact hcont _ _ (hJ.put alA_nd (t:=38) rfl rfl (hJ.hp.keep (by decide) (by decide)))
  ·have f19:α 32=.bool true:=hJ.val 19 32 rfl (hd 19 (by decide))
   have f25:α 38=v2:=hJ.val 25 38 rfl (hd 25 (by decide))
   simp (disch:=first|omega|simp only [lnS];try omega) [-getElem?_pos,-getElem?_neg,-notTuple,lnt,-xindexAddr,i0,d0,f19,f25]
   exact hcont _ _ (hJ.put alA_nd (t:=39) rfl rfl (hJ.hp.keep (by decide) (by decide)))
  ·have f19:α 32=.bool true:=hJ.val 19 32 rfl (hd 19 (by decide))
   have f26:α 39=p0:=hJ.val 26 39 rfl (hd 26 (by decide))
   simp (disch:=first|omega|simp only [lnS];try omega) [-getElem?_pos,-getElem?_neg,-notTuple,lnt,-xload,ld0,f19,f26]
   exact hcont _ _ (hJ.put alA_nd (t:=40) rfl rfl (hJ.hp.keep (by decide) (by decide)))
  ·have f19:α 32=.bool true:=hJ.val 19 32 rfl (hd 19 (by decide))
   simp (disch:=first|omega|simp only [lnS];try omega) [-getElem?_pos,-getElem?_neg,-notTuple,lnt,j2,f19]
   exact hcont _ _ (hJ.put alA_nd (t:=41) rfl rfl (hJ.hp.keep (by decide) (by decide)))
  ·have f19:α 32=.bool true:=hJ.val 19 32 rfl (hd 19 (by decide))
   have f28:α 41=v2:=hJ.val 28 41 rfl (hd 28 (by decide))
   simp (disch:=first|omega|simp only [lnS];try omega) [-getElem?_pos,-getElem?_neg,-notTuple,lnt,-xindexAddr,i1,d1,f19,f28]
   exact hcont _ _ (hJ.put alA_nd (t:=42) rfl rfl (hJ.hp.keep (by decide) (by decide)))
  ·have f19:α 32=.bool true:=hJ.val 19 32 rfl (hd 19 (by decide))
   have f29:α 42=p1:=hJ.val 29 42 rfl (hd 29 (by decide))
   simp (disch:=first|omega|simp only [lnS];try omega) [-getElem?_pos,-getElem?_neg,-notTuple,lnt,-xload,ld1,f19,f29]
   exact hcont _ _ (hJ.put alA_nd (t:=43) rfl rfl (hJ.hp.keep (by decide) (by decide)))
  ·have f19:α 32=.bool true:=hJ.val 19 32 rfl (hd 19 (by decide))
   have f27:α 40=.agg (iv .u8 k7L).toArray:=hJ.val 27 40 rfl (hd 27 (by decide))
   have f30:α 43=.agg (iv .u8 n0).toArray:=hJ.val 30 43 rfl (hd 30 (by decide))
   simp (disch:=first|omega|simp only [lnS];try omega) [-getElem?_pos,-getElem?_neg,f19,f27,f30,k7l,k7t,l0,t0,hrow]
   exact hcont _ _ (hJ.put alA_nd (t:=44) rfl trivial ⟨Fc,jf.push _,jt.push _,fun _ _=>⟨G.length,by (first|simp;done|rfl),fun e=>by have:=jt.bound _ e;omega,by rw [hget_app0];rfl⟩⟩)
  ·have f19:α 32=.bool true:=hJ.val 19 32 rfl (hd 19 (by decide))
   have f24:α 37=.pointer (some ⟨b,0,none⟩):=hJ.val 24 37 rfl (hd 24 (by decide))
   obtain⟨r,w1,w2,w3⟩:=ja (hd 31 (by decide)) hsi
   simp (disch:=first|omega|simp only [lnS];try omega) [-getElem?_pos,-getElem?_neg,f19,f24,w1]
   refine⟨by kernel_rfl,AC.mono (hash_ac (nro:=H.length) (γ:=γ) (s:=⟨#[116]⟩) (ks:=[k7L,n0]) (hpw.low (lowFr lwE hnF jf)) jt (jf.lo hnF lwE.2) (by have:=jf.len;have:=lwE.2;omega) aH_wf (fun D hl hg=>keys2 rfl rfl ((hg r (hget_lt w3) w2).trans w3)) (by decide)) ?_⟩
   intro v' G' hq
   obtain⟨hv,F1,f1,t1⟩:=hq.fr
   rw [aR2.1]at t1
   rw [aR2.2]at hv
   subst hv
   exact hcont _ _ (hJ.put alA_nd (t:=45) rfl rfl ⟨F1,jf.trans f1,t1,fun a b=>(by rw [gs_eq (by rw [hJ.sz];decide)]at b;cases b)⟩)
  ·have f19:α 32=.bool true:=hJ.val 19 32 rfl (hd 19 (by decide))
   have f22:α 35=.agg (iv .u8 n1).toArray:=hJ.val 22 35 rfl (hd 22 (by decide))
   have f32:α 45=.agg (iv .u8 n1).toArray:=hJ.val 32 45 rfl (hd 32 (by decide))
   simp (disch:=first|omega|simp only [lnS];try omega) [-getElem?_pos,-getElem?_neg,-notTuple,lnt,l1,t1,l1b,f19,f22,f32]
   exact hcont _ _ (hJ.put alA_nd (t:=46) rfl rfl (hJ.hp.keep (by decide) (by decide)))
  ·have f19:α 32=.bool true:=hJ.val 19 32 rfl (hd 19 (by decide))
   have f33:α 46=.bool true:=hJ.val 33 46 rfl (hd 33 (by decide))
   simp (disch:=first|omega|simp only [lnS];try omega) [-getElem?_pos,-getElem?_neg,-notTuple,lnt,f19,f33]
   exact hcont _ _ (hJ.put alA_nd (t:=47) rfl rfl (hJ.hp.keep (by decide) (by decide)))
  ·have f0:α 13=v2:=hJ.val 0 13 rfl (hd 0 (by decide))
   have f1:α 14=.int .i64 3:=hJ.val 1 14 rfl (hd 1 (by decide))
   have f2:α 15=.bool true:=hJ.val 2 15 rfl (hd 2 (by decide))
   have f3:α 16=.bool true:=hJ.val 3 16 rfl (hd 3 (by decide))
   have f4:α 17=v2:=hJ.val 4 17 rfl (hd 4 (by decide))
   have f5:α 18=p0:=hJ.val 5 18 rfl (hd 5 (by decide))
   have f6:α 19=.agg (iv .u8 k7L).toArray:=hJ.val 6 19 rfl (hd 6 (by decide))
   have f7:α 20=.agg (iv .u8 k7L).toArray:=hJ.val 7 20 rfl (hd 7 (by decide))
   have f8:α 21=.bool true:=hJ.val 8 21 rfl (hd 8 (by decide))
   have f9:α 22=.bool true:=hJ.val 9 22 rfl (hd 9 (by decide))
   have f10:α 23=.bool true:=hJ.val 10 23 rfl (hd 10 (by decide))
   have f11:α 24=v2:=hJ.val 11 24 rfl (hd 11 (by decide))
   have f12:α 25=p1:=hJ.val 12 25 rfl (hd 12 (by decide))
   have f13:α 26=.agg (iv .u8 n0).toArray:=hJ.val 13 26 rfl (hd 13 (by decide))
   have f14:α 27=.pointer (some ⟨n,0,none⟩):=hJ.val 14 27 rfl (hd 14 (by decide))
   have f15:α 28=.pointer (some ⟨b,0,none⟩):=hJ.val 15 28 rfl (hd 15 (by decide))
   have f16:α 29=.agg (iv .u8 n0).toArray:=hJ.val 16 29 rfl (hd 16 (by decide))
   have f17:α 30=.bool true:=hJ.val 17 30 rfl (hd 17 (by decide))
   have f18:α 31=.bool true:=hJ.val 18 31 rfl (hd 18 (by decide))
   have f19:α 32=.bool true:=hJ.val 19 32 rfl (hd 19 (by decide))
   have f20:α 33=v2:=hJ.val 20 33 rfl (hd 20 (by decide))
   have f21:α 34=p2:=hJ.val 21 34 rfl (hd 21 (by decide))
   have f22:α 35=.agg (iv .u8 n1).toArray:=hJ.val 22 35 rfl (hd 22 (by decide))
   have f23:α 36=.pointer (some ⟨n,0,none⟩):=hJ.val 23 36 rfl (hd 23 (by decide))
   have f24:α 37=.pointer (some ⟨b,0,none⟩):=hJ.val 24 37 rfl (hd 24 (by decide))
   have f25:α 38=v2:=hJ.val 25 38 rfl (hd 25 (by decide))
   have f26:α 39=p0:=hJ.val 26 39 rfl (hd 26 (by decide))
   have f27:α 40=.agg (iv .u8 k7L).toArray:=hJ.val 27 40 rfl (hd 27 (by decide))
   have f28:α 41=v2:=hJ.val 28 41 rfl (hd 28 (by decide))
   have f29:α 42=p1:=hJ.val 29 42 rfl (hd 29 (by decide))
   have f30:α 43=.agg (iv .u8 n0).toArray:=hJ.val 30 43 rfl (hd 30 (by decide))
   have f32:α 45=.agg (iv .u8 n1).toArray:=hJ.val 32 45 rfl (hd 32 (by decide))
   have f33:α 46=.bool true:=hJ.val 33 46 rfl (hd 33 (by decide))
   have f34:α 47=.bool true:=hJ.val 34 47 rfl (hd 34 (by decide))
   simp (disch:=first|omega|simp only [lnS];try omega) [-getElem?_pos,-getElem?_neg,-notTuple,lnt,f0,f1,f2,f3,f4,f5,f6,f7,f8,f9,f10,f11,f12,f13,f14,f15,f16,f17,f18,f19,f20,f21,f22,f23,f24,f25,f26,f27,f28,f29,f30,f32,f33,f34]
   exact hcont _ _ (hJ.put alA_nd (t:=0) rfl rfl (hJ.hp.keep (by decide) (by decide)))
 rintro s α G hJ hall
 have a0:α 0=.bool true:=hJ.val 35 0 rfl (by
  rw [agD,Array.getElem?_eq_getElem (by have:s.size=36:=hJ.sz;omega)]
  exact Array.all_eq_true.1 hall 35 (by have:s.size=36:=hJ.sz;omega))
 clear hall hJ
 (refine aw_ret ?_;simp (disch:=first|omega|simp only [lnS];try omega) [-getElem?_pos,-getElem?_neg,a0])
end
end
section
structure KO (n:Nat) (k:List Int):Prop where
 a:k≠n0
 b:k≠n1
 s:∀p,pk k=some p→p<n
structure FT (T:List TermD):Prop where
 wf:∀x∈T,x.Wf
 nd:T.Nodup
 two:∀x∈T,x.kind=4→∃a b,x.keys=[a,b]∧TermD.Wf ⟨3,⟨#[]⟩,[a]⟩∧TermD.Wf ⟨3,⟨#[]⟩,[b]⟩
 pub:∀x∈T,x.kind=3→x.text=⟨#[]⟩
 seal_:∀x∈T,x.kind=6→x=sX∨∀k∈x.keys.drop 2,KO T.length k
 pre:∃r,T=sT5++r
theorem nm32{i j:Nat}(hi:i<4294967296)(hj:j<4294967296)(h:nmL i=nmL j):i=j:=by
 have:=nm_inj (a:=i) (b:=j) (by omega) (by omega) h
 omega
theorem FT.len{T:List TermD}(h:FT T):5≤T.length:=by
 obtain⟨r,rfl⟩:=h.pre;rw [laP];exact Nat.le_add_right 5 _
end
section
def sSeen:List (List Int):=[n2,n3,n4]
abbrev dT(c:CookD):TermD:=⟨1,foeS++c.text,[]⟩
theorem sSeen_k:∀k∈sSeen,k.length=32∧By k:=fun k hk=>by
 simp only [sSeen,mcN]at hk
 rcases hk with rfl | rfl | rfl
 ·exact⟨rfl,n2_by⟩
 ·exact⟨rfl,n3_by⟩
 ·exact⟨rfl,n4_by⟩
theorem nm_ko{i n:Nat}(h2:2≤i)(hn:i<n)(hm:n<4294967296):KO n (nmL (i:Nat)):=
 ⟨fun e=>(by have:=nm32 (i:=i) (j:=0) (by omega) (by omega) e;omega),fun e=>(by have:=nm32 (i:=i) (j:=1) (by omega) (by omega) e;omega),fun p hp=>by rw [pk_nm (by omega)]at hp;cases hp;exact hn⟩
theorem sSeen_ko{n:Nat}(h:5≤n)(hm:n<4294967296):∀k∈sSeen,KO n k:=fun k hk=>by
 simp only [sSeen,mcN]at hk
 rcases hk with rfl | rfl | rfl
 ·exact nm_ko (i:=2) (by omega) (by omega) hm
 ·exact nm_ko (i:=3) (by omega) (by omega) hm
 ·exact nm_ko (i:=4) (by omega) (by omega) hm
structure DS (T0:List TermD) (done:List CookD) (T:List TermD) (all:List (List Int)) (n:Nat):Prop where
 t:FT T
 up:∃r,T=T0++r
 k:∀k∈all,KO T.length k∧k.length=32∧By k
 s:∀k∈sSeen,k∈all
 d:∀c∈done,c.kind=2→∃q,T[q]?=some (dT c)∧nmL (q:Nat)∈all
 m:T.length≤T0.length+n
 l:all.length≤3+n
theorem ds0{T0:List TermD}(h:FT T0)(hm:T0.length<4294967296):DS T0 [] T0 sSeen 0:=⟨h,⟨[],by simp⟩,fun k hk=>⟨sSeen_ko h.len hm k hk,sSeen_k k hk⟩,fun k hk=>hk,fun c hc=>(by cases hc),nlE _,nlE _⟩
end
section
attribute [local simp] wb_bool wb_undef with_lit XL_nil XL_cons XLc_val XLc_call step1_eq stepW_t stepW_f stepC_n stepC_s stepX_s stepX_n stepN_s calleeX xrecv oneV xop_eq xopR_s xopR_n wantedA_eq wantedG_n wantedG_s plain1_int plain1_bool plain1_string bits_i64 bits_u64 bits_u32 bits_u16 bits_u8 xeqA xagg xcmp xarr allK_iv num_iv calleeOf xread xeff xbin xint xnil xun xstr xload xconv xpart xfield xfieldAddr xindexAddr xindex bnd asInt? xslice xlen xmin xmax xbuild xfill xappend xapp2 xappstr xappmk xcap xcopy xcells eval_tmp eval_const put_at put_none fr0_at cells_agg cells_int cells_bool cells_string cells_ptr cells_slice notTuple tab iv_all hget_app hget_app0 hget_cons0 hget_cons set_app set_app0 setR setR_one QL_nil QL_cons QLc_val stepQ_t stepQ_f stepQC_n stepQC_s stepQX_s SL_nil SL_cons SLc_val stepS_t stepS_f ltT ltF leT leF eqT eqF ltTn ltFn leTn leFn eqTn eqFn beqT beqF bneT bneF wi64 wu64 wu32 wu16 wu8 tmodP tdivP hgetL hgetNe hgetEq setL nums_def nums_len Nat.succ_le_of_lt List.getElem?_cons_zero List.getElem?_cons_succ Option.getD_some Int.toNat_add Int.toNat_mul agM okM agB agI agS agP agL agA okB okI okS okP okSl okA nt_strG nt_boolG nt_aggG nt_intG nt_ptrG nt_slG thenQ_ret scopeQ_ret inBlockQ_ret RQ resL resV
section
theorem ok_of{L:List CookD}(hL:∀x∈L,x.Wf)(hg:L.any greatC=false):∀x∈L,x.Ok:=fun x hx=>by
 have h:=List.any_eq_false.1 hg x hx
 unfold greatC at h
 simp only [Bool.or_eq_true,decide_eq_true_eq,not_or,Nat.not_lt]at h
 exact⟨hL x hx,by omega,by omega⟩
theorem sT5_few:∀y∈sT5,y.keys.length≤1000:=by decide
end
section
theorem rsealP_ac{nro:Nat}{γ:Nat→Option Nat}{H:AH}{b:Nat}{tv sv:Value}{Ft Fs F:List Nat}{L:List (Value×TermD)}(h:RTblF H b tv sv Ft Fs F L)(hnH:nro≤H.length)(hnro:∀j∈b::(Ft++Fs),nro≤j){k y:List Int}(hk:k.length=32)(hy:y.length=32){s:ByteArray}{ks:List (List Int)}(hx:TermD.Wf ⟨6,s,k::y::ks⟩){v:Value}(hP:PartK H H.length v ks)(hL:L.length≤900000) :
  AC Tryd.prog nro γ 28 #[.pointer (some ⟨b,0,none⟩),.agg (iv .u8 k).toArray,.agg (iv .u8 y).toArray,.string s,v] H (RSealQ H b Ft Fs F L ⟨6,s,k::y::ks⟩):=by
 unfold RSealQ
 obtain⟨hnt,hvc⟩:notTuple v=true∧v.cells=#[v]:=by
  obtain⟨⟨a,c,rfl⟩,_⟩:=hP
  exact⟨rfl,rfl⟩
 have hFb:=h.bound
 have hlb:=hget_lt h.hb
 have hks:∀z∈ks,z.length=32:=fun z hz=>hx.k32 z (by simp [hz])
 have hmany:=hx.many
 have hmk:ks.length+2≤1000000:=hmany
 have hstr:∀s,v≠.string s:=fun s e=>by
  obtain⟨⟨a,c,e2⟩,_⟩:=hP
  rw [e]at e2
  cases e2
 have htk:(iv .u8 k).take 32=iv .u8 k:=tkL (by simp [hk])
 have hty:(iv .u8 y).take 32=iv .u8 y:=tkL (by simp [hy])
 have hrow2:setR (setR (List.map (fun j=>(iv .u8 (zl 32))[j%32]?.getD undef) (List.range 64)) 0 (iv .u8 k)) 32 (iv .u8 y)=iv .u8 k++iv .u8 y:=row2 (by simp) (by simp [hk]) (by simp [hy])
 obtain⟨G0,hG0⟩:∃G0:AH,G0=H++[some ⟨iv .u8 k, 41,none⟩,some ⟨iv .u8 y, 41,none⟩]:=⟨_,rfl⟩
 have gk:hget G0 H.length=some ⟨iv .u8 k, 41,none⟩:=by rw [hG0,hget_app0];rfl
 have gy:hget G0 (H.length+1)=some ⟨iv .u8 y, 41,none⟩:=by rw [hG0,hget_app];rfl
 have hG0l:G0.length=H.length+2:=by rw [hG0];simp
 have hG0j:∀j,j<H.length→hget G0 j=hget H j:=fun j hj=>by rw [hG0];exact hget_left hj
 have lk:=hget_lt gk
 have ly:=hget_lt gy
 obtain⟨R,hR⟩:∃R:Option Blk,R=some ⟨iv .u8 k++iv .u8 y, 41,some 32⟩:=⟨_,rfl⟩
 have hxc:xcells 32 (.slice (some ⟨G0.length,0,none⟩) 2 2) (G0++[R])=some (iv .u8 k++iv .u8 y):=by
  have ht:(iv .u8 k++iv .u8 y).take 64=iv .u8 k++iv .u8 y:=tkL (by simp [hk,hy])
  rw [hR]
  simp [xcells,hget_app0,hk,hy,ht]
 obtain⟨v1,G1,F1,hap,ho1,hl1,hk1,hF1⟩:=ownF_appQ (P:=Tryd.prog) (nro:=nro) (t := 34) (e := 41) (H:=G0++[R]) (v:=.slice none 0 0) (x:=.slice (some ⟨G0.length,0,none⟩) 2 2) (sz:=32) (cells:=[]) (news:=iv .u8 k++iv .u8 y) (F:=[]) (by kernel_rfl) (by kernel_rfl) (by omega) (by kernel_rfl)
  (.inl ⟨rfl,rfl,rfl⟩) (fun j hj=>by cases hj) (fun s e=>by cases e) hxc (by simp [hk,hy]) (by show (0+(iv .u8 k++iv .u8 y).length)*byt Tryd.prog 41 ≤ _;rw [show byt Tryd.prog 41 = 32 by kernel_rfl];simp [hk,hy]) (by simp [hk,hy,maxLen])
 have hRl:(G0++[R]).length=G0.length+1:=by simp
 rw [hRl]at hl1 hk1 hF1
 have hG1j:∀j,j<H.length→hget G1 j=hget H j:=fun j hj=>(hk1 j (by omega) (by simp)).trans ((hget_left (by omega)).trans (hG0j j hj))
 have hxc2:xcells 32 v G1=some (ksC ks):=by rw [ksC_kr];exact hP.2 G1 (fun j hj=>hG1j j hj)
 have hkl:=ksC_len hks
 have hF1l:=ho1.lt
 obtain⟨v2,G2,F2,hap2,ho2,hl2,hk2,hF2⟩:=ownF_appQ (P:=Tryd.prog) (nro:=nro) (t := 34) (e := 41) (H:=G1) (v:=v1) (x:=v) (sz:=32) (cells:=[]++(iv .u8 k++iv .u8 y)) (news:=ksC ks) (F:=F1) (by kernel_rfl) (by kernel_rfl) (by omega) (by kernel_rfl)
  ho1 (fun j hj=>by have:=hF1 j hj;omega) hstr hxc2 (by rw [hkl];omega) (by rw [hkl];simp only [List.nil_append,laP,iv_length,hk,hy];rw [show byt Tryd.prog 41 = 32 by kernel_rfl];omega) (by rw [hkl];simp only [List.nil_append,laP,iv_length,hk,hy,maxLen];omega)
 have hG2j:∀j,j<H.length→hget G2 j=hget H j:=fun j hj=>(hk2 j (by omega) (fun e=>by have:=hF1 j e;omega)).trans (hG1j j hj)
 have lw2:Low H.length H G2:=⟨hG2j,by omega⟩
 have hv2:KsV G2 v2 (k::y::ks):=kr_ksv (F:=F2) (by rw [show kr (k::y::ks)=[]++(iv .u8 k++iv .u8 y)++ksC ks by rw [ksC_kr];simp [kr]];exact ho2) hx.k32
 have hmk:=rmake_ac (nro:=nro) (γ:=γ) (h.low (fun j hj=>hG2j j (hFb j hj)) (by omega)) (by omega) hnro hx hv2 hL
 obtain⟨n1,n2⟩:=ownF_nt ho1
 obtain⟨n3,n4⟩:=ownF_nt ho2
 subst hR
 clear hxc hxc2
 refine ac_of_aw Tryd.func28 rfl Tryd.ntmps28 Tryd.results28 (by simp) ?_
 (refine aso fun K hK=>?_;simp (disch:=first|omega|simp only [lnS];try omega) [-getElem?_pos,-getElem?_neg,htk,hty];refine hK _ _ ?_;clear hK K)
 rw [←hG0]
 clear hG0
 (refine aso fun K hK=>?_;simp (disch:=first|omega|simp only [lnS];try omega) [-getElem?_pos,-getElem?_neg];refine hK _ _ ?_;clear hK K)
 (refine aso fun K hK=>?_;simp (disch:=first|omega|simp only [lnS];try omega) [-getElem?_pos,-getElem?_neg,gk,gy,lk,ly,htk,hty,hrow2,-notTuple,n1,n2,-xappend,hap];refine hK _ _ ?_;clear hK K)
 (refine aso fun K hK=>?_;simp (disch:=first|omega|simp only [lnS];try omega) [-getElem?_pos,-getElem?_neg,-notTuple,hnt,hvc,n1,n2,n3,n4,-xappend,hap2];refine hK _ _ ?_;clear hK K)
 refine aso fun K hK=>?_
 simp (disch:=first|omega|simp only [lnS];try omega) [-getElem?_pos,-getElem?_neg,-notTuple,n3,n4]
 refine⟨by kernel_rfl,AC.mono hmk ?_⟩
 intro v3 G3 hQ
 have hv3:=hQ.1
 have hn3:nro≤G3.length:=by have:=hQ.2.1;omega
 have fin:=fun (N:AH)=>hQ.up lw2 (A':=G3++N) (Low.push (nlE _) N)
 subst hv3
 have lN:(nmL (nameT ⟨6,s,k::y::ks⟩ (L.map (·.2)):Nat)).length=32:=rfl
 generalize nmL (nameT ⟨6,s,k::y::ks⟩ (L.map (·.2)):Nat)=N at *
 have htN:(iv .u8 N).take 32=iv .u8 N:=tkL (by simp [lN])
 have hsN:setR (iv .u8 (zl 32)) 0 (iv .u8 N)=iv .u8 N:=setR_all _ _ (by simp [lN])
 try simp (disch:=first|omega|simp only [lnS];try omega) [-getElem?_pos,-getElem?_neg,hn3,lN,htN,hsN]
 refine hK _ _ ?_;clear hK K
 refine aw_seq ?_
 have hbl:=byteList_iv N
 (refine aoo fun K hK=>?_;simp (disch:=first|omega|simp only [lnS];try omega) [-getElem?_pos,-getElem?_neg,lN,htN,hbl];refine hK _ _ ?_;clear hK K)
 (refine aw_ret ?_;simp (disch:=first|omega|simp only [lnS];try omega) [-getElem?_pos,-getElem?_neg])
 exact fin _
theorem RTbl.bound{H:AH}{b:Nat}{F:List Nat}{T:List TermD}(h:RTbl H b F T):∀j∈F,j<H.length:=by
 obtain⟨tv,sv,Ft,Fs,Fk,L,rfl,h,rfl⟩:=h
 exact h.bound
theorem RTbl.low{H G:AH}{b:Nat}{F:List Nat}{T:List TermD}(h:RTbl H b F T)(hl:∀j∈F,hget G j=hget H j)(hG:H.length≤G.length):RTbl G b F T:=by
 obtain⟨tv,sv,Ft,Fs,Fk,L,rfl,h,rfl⟩:=h
 exact⟨tv,sv,Ft,Fs,Fk,L,rfl,h.low hl hG,rfl⟩
theorem RTbl.push{H:AH}{b:Nat}{F:List Nat}{T:List TermD}(h:RTbl H b F T)(N:AH):RTbl (H++N) b F T:=h.low (fun j hj=>hget_left (h.bound j hj)) (by simp)
theorem RTbl.wf{H:AH}{b:Nat}{F:List Nat}{T:List TermD}(h:RTbl H b F T):∀x∈T,x.Wf:=by
 obtain⟨tv,sv,Ft,Fs,Fk,L,rfl,h,rfl⟩:=h
 intro x hx
 obtain⟨p,hp,rfl⟩:=List.mem_map.1 hx
 exact h.wf p hp
def RFQ(H:AH)(b:Nat)(F:List Nat)(T':List TermD)(w v':Value)(H':AH):Prop:=v'=w∧∃F',Fr H H' F F'∧RTbl H' b F' T'
theorem RMkQ.fr{H H':AH}{b:Nat}{Ft Fs F:List Nat}{L:List (Value×TermD)}{x:TermD}{v':Value}(h:RMkQ H b Ft Fs F L x v' H')(hlb:b<H.length):RFQ H b (b::(Ft++Fs++F)) (addT x (L.map (·.2))) (nmV x (L.map (·.2))) v' H':=by
 obtain⟨h0,h1,h2,tv,sv,Ft',Fs',F',L',h3,h4,h5⟩:=h
 refine⟨h0,b::(Ft'++Fs'++F'),⟨h1,fun j hj hn=>?_,fun j hj=>?_⟩,tv,sv,Ft',Fs',F',L',h4.symm,h3,rfl⟩
 ·simp only [List.mem_cons,maP,not_or]at hn
  exact h2 j hj hn.1 hn.2.1.1 hn.2.1.2
 ·rcases List.mem_cons.1 hj with e | e
  ·exact .inl (by rw [e];simp)
  ·rcases h5 j e with e2 | e2
   ·exact .inl (List.mem_cons.2 (.inr e2))
   ·exact .inr e2
section
variable {nro:Nat} {γ:Nat→Option Nat} {H:AH} {b:Nat} {F:List Nat} {T:List TermD}
theorem rmakeT(h:RTbl H b F T)(hn:∀j∈F,nro≤j)(hnH:nro≤H.length){x:TermD}(hx:x.Wf){v:Value}(hv:KsV H v x.keys)(hT:T.length≤900000):AC Tryd.prog nro γ 25 #[.pointer (some ⟨b,0,none⟩),.int .i64 (x.kind:Nat),.string x.text,v] H (RFQ H b F (addT x T) (nmV x T)):=by
 obtain⟨tv,sv,Ft,Fs,Fk,L,rfl,h,rfl⟩:=h
 rw [List.length_map]at hT
 exact (rmake_ac h hnH (fun j hj=>hn j (by simp only [List.mem_cons,maP]at hj ⊢;rcases hj with e | e | e <;> simp [e])) hx hv hT).mono fun v' H' hq=>hq.fr (hget_lt h.hb)
theorem rsealT(h:RTbl H b F T)(hn:∀j∈F,nro≤j)(hnH:nro≤H.length){k y:List Int}(hk:k.length=32)(hy:y.length=32){s:ByteArray}{ks:List (List Int)}(hx:TermD.Wf ⟨6,s,k::y::ks⟩){v:Value}(hP:PartK H H.length v ks)(hT:T.length≤900000):AC Tryd.prog nro γ 28 #[.pointer (some ⟨b,0,none⟩),.agg (iv .u8 k).toArray,.agg (iv .u8 y).toArray,.string s,v] H (RFQ H b F (addT ⟨6,s,k::y::ks⟩ T) (.string (strOfNums (nmL (nameT ⟨6,s,k::y::ks⟩ T:Nat))))):=by
 obtain⟨tv,sv,Ft,Fs,Fk,L,rfl,h,rfl⟩:=h
 rw [List.length_map]at hT
 exact (rsealP_ac h hnH (fun j hj=>hn j (by simp only [List.mem_cons,maP]at hj ⊢;rcases hj with e | e | e <;> simp [e])) hk hy hx hP hT).mono fun v' H' hq=>⟨hq.1,(hq.2.fr (hget_lt h.hb)).2⟩
theorem ragreeT(h:RTbl H b F T)(hn:∀j∈F,nro≤j)(hnH:nro≤H.length){s p:List Int}(hs:s.length=32)(hbs:By s)(hp:p.length=32)(hbp:By p)(hT:T.length≤900000):AC Tryd.prog nro γ 50 #[.pointer (some ⟨b,0,none⟩),.agg (iv .u8 s).toArray,.agg (iv .u8 p).toArray] H (RFQ H b F (agrT2 T s p) (.tuple #[.agg (iv .u8 (agrK T s p)).toArray,.bool (agrB p)])):=by
 have h0:=h
 obtain⟨tv,sv,Ft,Fs,Fk,L,rfl,h,rfl⟩:=h
 rw [List.length_map]at hT
 refine (ragree_ac h hnH (fun j hj=>hn j (by simp only [List.mem_cons,maP]at hj ⊢;rcases hj with e | e | e <;> simp [e])) hs hbs hp hbp hT).mono fun v' H' hq=>?_
 unfold agrT2 agrK agrB
 rcases hq with ⟨h1,h2,h3⟩ | ⟨h1,v1,h2,h3⟩
 ·rw [if_pos h1,if_pos h1,decide_eq_true h1]
  exact⟨h2,_,low_fr _ h3,h0.low (fun j hj=>h3.1 j (h0.bound j hj)) h3.2⟩
 ·rw [if_neg h1,if_neg h1,decide_eq_false h1]
  have q:=h3.fr (hget_lt h.hb)
  exact⟨by rw [h2,q.1];rfl,q.2⟩
theorem rmarkT(h:RTbl H b F T)(hnH:nro≤H.length){s:ByteArray}(h32:s.size=32):AC Tryd.prog nro γ 35 #[.pointer (some ⟨b,0,none⟩),.string s] H (RFQ H b F T (.agg (iv .u8 (nums s)).toArray)):=
 (rmark0_ac hnH h32 rfl).mono fun v' H' hq=>⟨hq.1,F,low_fr F hq.2,h.low (fun j hj=>hq.2.1 j (h.bound j hj)) hq.2.2⟩
end
theorem ksv_cells{G:AH}{v:Value}{ks:List (List Int)}(h:KsV G v ks)(hk:∀k∈ks,k.length=32):xcells 32 v G=some (kr ks):=(h.part hk).2 G (fun _ _=>rfl)
theorem suf_ksv2{H:AH}{kv:Value}{ks:List (List Int)}(h:KsV H kv ks)(hk:K32 ks)(h2:2≤ks.length) :
  ∃sv,(∀G:AH,xslice Tryd.prog 34 kv (some (.int .i64 2)) none G=some sv)∧∀G:AH,KsV G kv ks→AccK G sv (ks.drop 2)∧xcells 32 sv G=some (kr (ks.drop 2)):=by
 obtain⟨sv,h1,h3⟩:=suf_ksv h hk h2
 refine⟨sv,h1,fun G hG=>⟨h3 G hG,?_⟩⟩
 have hu:und Tryd.prog 34 = .slice 41 := by kernel_rfl
 have hs:szt Tryd.prog 41 = 32:=by kernel_rfl
 have hc:=ksv_cells hG hk
 rcases val_shape hG with ⟨rfl,e⟩ | ⟨a,e⟩
 ·have:ks=[]:=by simpa using e
  rw [this]at h2
  simp at h2
 ·rw [List.length_map]at e
  have hG':CD.Val G (.sl (ks.map kd)) kv:=hG
  obtain⟨j,b,us,hv,hb,hle,_⟩:=val_at (P:=Tryd.prog) (t := 34) (e := 41) (sz:=32) hG' hu hs (by omega) (fun row hr=>by
   obtain⟨y,hy,rfl⟩:=List.mem_map.1 hr
   unfold kd
   rw [List.length_map]
   exact hk y hy) (i:=0) (row:=kd (ks.getD 0 [])) (by
   rw [gmP,gdD,geE (by omega:0<ks.length)];rfl)
  rw [List.length_map]at hv hle
  subst hv
  have h4:=h1 G
  unfold xslice at h4
  simp only [hu,bnd,hs]at h4
  rw [show asInt? (Value.int .i64 2)=some 2 from rfl]at h4
  dsimp only at h4
  rw [if_pos ⟨by omega,by omega,by omega,by omega⟩]at h4
  have hrow:b.cells.take (ks.length*32)=kr ks:=by
   unfold xcells at hc
   cases hn:ks.length with
   | zero=>omega
   | succ m=>
    rw [hn]at hc
    simp only [hb]at hc
    rw [if_pos (by omega)]at hc
    simpa using hc
  by_cases e2:ks.length=2
  ·rw [if_pos ⟨by omega,by omega⟩]at h4
   cases h4
   have:ks.drop 2=[]:=List.drop_of_length_le (by omega)
   rw [this]
   rfl
  ·rw [if_neg (by omega)]at h4
   cases h4
   have e5:((2:Int)).toNat=2:=rfl
   have e6:((ks.length:Int)).toNat=ks.length:=by omega
   rw [e5,e6]
   have hd:kr (ks.drop 2)=(b.cells.drop 64).take ((ks.length-2)*32):=by
    rw [←kr_dropV hk (k:=2) h2,←hrow,List.drop_take]
    congr 1
    omega
   unfold xcells
   cases hn:ks.length-2 with
   | zero=>omega
   | succ m=>
    simp only [hb]
    rw [if_pos (by omega),hd,hn]
def ROpenP(H:AH)(F:List Nat)(T:List TermD)(k y:List Int)(box:ByteArray)(v':Value)(H':AH):Prop:=
 Low H.length H H'∧match openT T k y box with
  | none=>v'=.tuple #[.string ⟨#[]⟩,.slice none 0 0,.bool false]
  | some (s,ks)=>∃kv,v'=.tuple #[.string s,kv,.bool true]∧notTuple kv=true∧kv.cells=#[kv]∧∀G:AH,(∀j∈F,hget G j=hget H j)→AccK G kv ks∧xcells 32 kv G=some (kr ks)
attribute [local simp] wb_bool wb_undef with_lit XL_nil XL_cons XLc_val XLc_call step1_eq stepW_t stepW_f stepC_n stepC_s stepX_s stepX_n stepN_s calleeX xrecv oneV xop_eq xopR_s xopR_n wantedA_eq wantedG_n wantedG_s plain1_int plain1_bool plain1_string bits_i64 bits_u64 bits_u32 bits_u16 bits_u8 xeqA xagg xcmp xarr allK_iv num_iv calleeOf xread xeff xbin xint xnil xun xstr xload xconv xpart xfield xfieldAddr xindexAddr xindex bnd asInt? xslice xlen xmin xmax xbuild xfill xappend xapp2 xappstr xappmk xcap xcopy xcells eval_tmp eval_const put_at put_none fr0_at cells_agg cells_int cells_bool cells_string cells_ptr cells_slice notTuple tab iv_all hget_app hget_app0 hget_cons0 hget_cons set_app set_app0 setR setR_one QL_nil QL_cons QLc_val stepQ_t stepQ_f stepQC_n stepQC_s stepQX_s SL_nil SL_cons SLc_val stepS_t stepS_f ltT ltF leT leF eqT eqF ltTn ltFn leTn leFn eqTn eqFn beqT beqF bneT bneF wi64 wu64 wu32 wu16 wu8 tmodP tdivP hgetL hgetNe hgetEq setL nums_def nums_len Nat.succ_le_of_lt List.getElem?_cons_zero List.getElem?_cons_succ Option.getD_some Int.toNat_add Int.toNat_mul agM okM agB agI agS agP agL agA okB okI okS okP okSl okA nt_strG nt_boolG nt_aggG nt_intG nt_ptrG nt_slG thenQ_ret scopeQ_ret inBlockQ_ret RQ resL resV PL_nil plainB_lit PL_cons PLc_val PLc_new stepP_t stepP_f stepPC_n stepPC_s stepPX_s stepPX_n stepPV_n stepPV_s stepPA_t stepPA_c stepPA_l stepPN_s allocOp reloc_sl reloc_ptr
theorem ropenP_ac{nro:Nat}{γ:Nat→Option Nat}{H:AH}{b:Nat}{tv sv:Value}{Ft Fs F:List Nat}{L:List (Value×TermD)}(h:RTblF H b tv sv Ft Fs F L)(hnH:nro≤H.length){k y:List Int}(hk:k.length=32)(hy:y.length=32){s:ByteArray}(hs1:s.size≤10000000) :
  AC Tryd.prog nro γ 51 #[.pointer (some ⟨b,0,none⟩),.agg (iv .u8 k).toArray,.agg (iv .u8 y).toArray,.string s] H (ROpenP H F (L.map (·.2)) k y s):=by
 have hop:=openT_look (L.map (·.2)) k y s
 have htk:(iv .u8 k).take 32=iv .u8 k:=tkL (by simp [hk])
 have hty:(iv .u8 y).take 32=iv .u8 y:=tkL (by simp [hy])
 have hs9:s.size≤9223372036854775807:=by omega
 have hFb:=h.bound
 by_cases h32:s.size=32
 case neg=>
  have hb32:((s.size:Int)==32)=false:=by rw [beq_eq_false_iff_ne];omega
  have hi32:¬ (s.size:Int)=32:=by omega
  rw [if_neg h32]at hop
  refine ac_of_aw Tryd.func51 rfl Tryd.ntmps51 Tryd.results51 (by simp) ?_
  (refine aso fun K hK=>?_;simp (disch:=first|omega|simp only [lnS];try omega) [-getElem?_pos,-getElem?_neg,htk,hty];refine hK _ _ ?_;clear hK K)
  refine aw_seq (aw_seq ?_)
  (refine aoo fun K hK=>?_;simp (disch:=first|omega|simp only [lnS];try omega) [-getElem?_pos,-getElem?_neg,hs9,hi32,hb32];refine hK _ _ ?_;clear hK K)
  refine awt (by simp<;>omega) ?_
  (refine aso fun K hK=>?_;simp (disch:=first|omega|simp only [lnS];try omega) [-getElem?_pos,-getElem?_neg];refine hK _ _ ?_;clear hK K)
  (refine aw_ret ?_;simp (disch:=first|omega|simp only [lnS];try omega) [-getElem?_pos,-getElem?_neg])
  exact⟨Low.push (nlE _) _,by rw [hop]⟩
 have hb32:((s.size:Int)==32)=true:=by rw [h32];rfl
 have hi32:(s.size:Int)=32:=by rw [h32];rfl
 rw [if_pos h32]at hop
 obtain⟨N,hN⟩:∃N:List Int,N=nums s:=⟨_,rfl⟩
 have lN:N.length=32:=by rw [hN,nums_len,h32]
 have bN:By N:=by rw [hN];exact nums_bd s
 have hgb:∀i,gb s i=N.getD i 0:=fun i=>by
  have:=gb_sn (l:=nums s) (nums_bd s) i
  rw [of_nums']at this
  rw [hN];exact this
 rw [←hN]at hop
 clear hN
 have htN:(iv .u8 N).take 32=iv .u8 N:=tkL (by simp [lN])
 have hsN:setR (iv .u8 (zl 32)) 0 (iv .u8 N)=iv .u8 N:=setR_all _ _ (by simp [lN])
 have hn1:nro≤H.length+2:=by omega
 have p1:plain1 (.slice none 0 0)=true:=rfl
 have r3:List.range 3=[0,1,2]:=rfl
 refine ac_of_aw Tryd.func51 rfl Tryd.ntmps51 Tryd.results51 (by simp) ?_
 (refine aso fun K hK=>?_;simp (disch:=first|omega|simp only [lnS];try omega) [-getElem?_pos,-getElem?_neg,htk,hty];refine hK _ _ ?_;clear hK K)
 refine aw_seq (aw_seq ?_)
 (refine aoo fun K hK=>?_;simp (disch:=first|omega|simp only [lnS];try omega) [-getElem?_pos,-getElem?_neg,hs9,hb32,hi32];refine hK _ _ ?_;clear hK K)
 refine awf (by simp<;>omega) ?_
 refine aw_skip (aw_seq ?_)
 (refine aoo fun K hK=>?_;simp (disch:=first|omega|simp only [lnS];try omega) [-getElem?_pos,-getElem?_neg];refine hK _ _ ?_;clear hK K)
 refine aw_seq (aw_seq ?_)
 (refine aoo fun K hK=>?_;simp (disch:=first|omega|simp only [lnS];try omega) [-getElem?_pos,-getElem?_neg];refine hK _ _ ?_;clear hK K)
 refine aw_block ?_
 refine aw_loop (fun q α G=>∃i:Nat,i+q=32∧α 0=.pointer (some ⟨b,0,none⟩)∧α 3=.string s∧α 5=.pointer (some ⟨H.length,0,none⟩)∧α 6=.pointer (some ⟨H.length+1,0,none⟩)∧α 11=.pointer (some ⟨H.length+2,0,none⟩)∧α 12=.int .i64 (i:Nat)∧G=H++[some ⟨iv .u8 k, 41,none⟩,some ⟨iv .u8 y, 41,none⟩,some ⟨iv .u8 (N.take i++zl (32-i)), 41,none⟩]) 32 ?_ ?_
 ·exact⟨0,by omega,by (first|simp;done|rfl),by (first|simp;done|rfl),by (first|simp;done|rfl),by (first|simp;done|rfl),by (first|simp;done|rfl),by (first|simp;done|rfl),rfl⟩
 rintro q α G ⟨i,hiq,h0,h3,h5,h6,h11,h12,rfl⟩
 refine aw_seq (aw_seq ?_)
 by_cases hi:i<32
 ·have hnx:=set_next N 32 i lN hi
  have hfl:=fill_len N 32 i lN (by omega)
  have hg:=hgb i
  generalize N.getD i 0=z at *
  have hset:(iv .u8 (N.take i++zl (32-i))).set i (.int .u8 z)=iv .u8 (N.take (i+1)++zl (32-(i+1))):=by rw [←hnx];simp [iv]
  generalize N.take i++zl (32-i)=A at *
  have hsi:(i:Int)<s.size:=by omega
  (refine aoo fun K hK=>?_;simp (disch:=first|omega|simp only [lnS];try omega) [-getElem?_pos,-getElem?_neg,h12,hi];refine hK _ _ ?_;clear hK K)
  refine awt (by simp [hi]<;>omega) ?_
  refine aw_skip (aw_seq ?_)
  refine aw_block ?_
  (refine aoo fun K hK=>?_;simp (disch:=first|omega|simp only [lnS];try omega) [-getElem?_pos,-getElem?_neg,h3,h11,h12,h32,hsi,hi,hg,hfl,hset,hn1];refine hK _ _ ?_;clear hK K)
  (refine aoo fun K hK=>?_;simp (disch:=first|omega|simp only [lnS];try omega) [-getElem?_pos,-getElem?_neg,h12];refine hK _ _ ?_;clear hK K)
  exact⟨q-1,by omega,i+1,by omega,by (first|simp [h0];done|rfl),by (first|simp [h3];done|rfl),by (first|simp [h5];done|rfl),by (first|simp [h6];done|rfl),by (first|simp [h11];done|rfl),by (first|simp;done|rfl),by rw [show 32-(i+1)=31-i by omega]⟩
 obtain rfl:i=32:=by omega
 have e:N.take 32++zl (32-32)=N:=by
  rw [tkL (by omega)]
  simp [zl]
 rw [e]
 obtain⟨B,hB⟩:∃B:AH,B=H++[some ⟨iv .u8 k, 41,none⟩,some ⟨iv .u8 y, 41,none⟩,some ⟨iv .u8 N, 41,none⟩]:=⟨_,rfl⟩
 have gk:hget B H.length=some ⟨iv .u8 k, 41,none⟩:=by rw [hB,hget_app0];rfl
 have gy:hget B (H.length+1)=some ⟨iv .u8 y, 41,none⟩:=by rw [hB,hget_app];rfl
 have gN:hget B (H.length+2)=some ⟨iv .u8 N, 41,none⟩:=by rw [hB,hget_app];rfl
 have hBl:B.length=H.length+3:=by rw [hB];simp
 have hBj:∀j,j<H.length→hget B j=hget H j:=fun j hj=>by rw [hB];exact hget_left hj
 rw [←hB]
 clear hB e
 have hTB:RTblF B b tv sv Ft Fs F L:=h.low (fun j hj=>hBj j (hFb j hj)) (by omega)
 have hlook:=rlookP_ac (nro:=nro) (γ:=γ) hTB (by omega) lN bN
 have lk:=hget_lt gk
 have ly:=hget_lt gy
 have lNn:=hget_lt gN
 (refine aoo fun K hK=>?_;simp (disch:=first|omega|simp only [lnS];try omega) [-getElem?_pos,-getElem?_neg,h12];refine hK _ _ ?_;clear hK K)
 refine awf (by simp<;>omega) ?_
 refine aw_exit (aw_seq ?_)
 refine aoo fun K hK=>?_
 simp (disch:=first|omega|simp only [lnS];try omega) [-getElem?_pos,-getElem?_neg,h0,h11,gN,lNn,htN,lN]
 refine⟨by kernel_rfl,AC.mono hlook ?_⟩
 rintro vL G ⟨lwG,hcase⟩
 have hGl:=lwG.2
 have lwH:Low H.length H G:=⟨fun j hj=>(lwG.1 j (by omega)).trans (hBj j hj),by omega⟩
 have gk:=(lwG.1 _ lk).trans gk
 have gy:=(lwG.1 _ ly).trans gy
 have hng:nro≤G.length:=by omega
 obtain⟨kv,x,rfl,hlk,hkv,hbig⟩:∃ (kv:Value) (x:TermD),vL=.agg (tmRow kv x).toArray∧lookT (L.map (·.2)) N=x∧KsV G kv x.keys∧(x.kind=6→x.Wf∧∀A:AH,(∀j∈F,hget A j=hget H j)→KsV A kv x.keys):=by
  rcases hcase with ⟨p,hp,e1,e2⟩ | ⟨e1,kv,e2,e3⟩
  ·exact⟨p.1,p.2,e2,e1,h.keys p hp G (fun j hj=>lwH.1 j (h.lt j hj)),fun _=>⟨h.wf p hp,h.keys p hp⟩⟩
  ·exact⟨kv,_,e2,e1,e3,fun e=>by cases e⟩
 rw [hlk]at hop
 clear hlook hcase hlk lwG hBj hTB
 obtain⟨hnt,hvc⟩:=val_nt hkv
 unfold tmRow
 try simp (disch:=first|omega|simp only [lnS];try omega) [-getElem?_pos,-getElem?_neg,p1,r3,hng,-notTuple,hnt,hvc]
 refine hK _ _ ?_;clear hK K
 obtain⟨A,hA⟩:∃A:AH,A=G++[some ⟨[.int .i64 (x.kind:Nat),.string x.text,kv], 92,none⟩]:=⟨_,rfl⟩
 have aG:hget A G.length=some ⟨[.int .i64 (x.kind:Nat),.string x.text,kv], 92,none⟩:=by rw [hA,hget_app0];rfl
 have aj:∀j,j<G.length→hget A j=hget G j:=fun j hj=>by rw [hA,hget_left hj]
 have al:A.length=G.length+1:=by rw [hA];simp
 rw [←hA]
 clear hA
 have ak:=(aj _ (by omega)).trans gk
 have ay:=(aj _ (by omega)).trans gy
 have lwA:Low H.length H A:=⟨fun j hj=>(aj j (by have:=lwH.2;omega)).trans (lwH.1 j hj),by have:=lwH.2;omega⟩
 have hKA:KsV A kv x.keys:=CD.Val.low (fun j hj=>aj j hj) hkv
 have ldt:xload Tryd.prog 3 (.pointer (some ⟨G.length,0,none⟩)) A=some (.int .i64 (x.kind:Nat)):=by simp [xload,aG]
 have lds:xload Tryd.prog 9 (.pointer (some ⟨G.length,1,none⟩)) A=some (.string x.text):=by simp [xload,aG]
 have ldk:xload Tryd.prog 34 (.pointer (some ⟨G.length,2,none⟩)) A=some kv:=by simp [xload,aG]
 have ld1:xload Tryd.prog 41 (.pointer (some ⟨H.length,0,none⟩)) A=some (.agg (iv .u8 k).toArray):=by simp [xload,ak,hk,htk]
 have ld2:xload Tryd.prog 41 (.pointer (some ⟨H.length+1,0,none⟩)) A=some (.agg (iv .u8 y).toArray):=by simp [xload,ay,hy,hty]
 refine aw_seq (aw_seq ?_)
 by_cases k6:x.kind=6
 case neg=>
  have b6:((x.kind:Int)==6)=false:=by rw [beq_eq_false_iff_ne];omega
  have i6:¬ (x.kind:Int)=6:=by omega
  rw [if_neg (fun e=>k6 e.1)]at hop
  (refine aw_plan [] [] [0,1,2,3,4,5,6,7,8,9,10,11,12,13,14,15,16,17,18] 19 0 (by kernel_rfl) (by kernel_rfl) (by kernel_rfl) (fun K hK=>?_));simp only [sel,gcS,gdZ];simp (disch:=first|omega|simp only [lnS];try omega) [-getElem?_pos,-getElem?_neg,h5,h6,-xload,ldt,b6,i6,-notTuple,Nat.add_assoc]
  refine hK _ _ ?_;clear hK K
  refine awt (by simp<;>omega) ?_
  (refine aso fun K hK=>?_;simp (disch:=first|omega|simp only [lnS];try omega) [-getElem?_pos,-getElem?_neg];refine hK _ _ ?_;clear hK K)
  (refine aw_ret ?_;simp (disch:=first|omega|simp only [lnS];try omega) [-getElem?_pos,-getElem?_neg])
  exact⟨lwA,by rw [hop]⟩
 obtain⟨hw,hall⟩:=hbig k6
 have h2:=hw.seal_ k6
 have b6:((x.kind:Int)==6)=true:=by rw [k6];rfl
 have i6:(x.kind:Int)=6:=by omega
 have hacc:=hKA.acc hw.k32
 obtain⟨q0,y0,t1,t2,t3,t4,t5⟩:=hacc.at_ 0 (by omega)
 obtain⟨q1,y1,u1,u2,u3,u4,u5⟩:=hacc.at_ 1 (by omega)
 have t2:xindexAddr Tryd.prog 34 kv (.int .i64 0)=some q0:=t2
 have u2:xindexAddr Tryd.prog 34 kv (.int .i64 1)=some q1:=u2
 have t5:=t5 A (Low.refl (nlE _))
 have u5:=u5 A (Low.refl (nlE _))
 subst t4 u4
 have z0:(x.keys.getD 0 []).length=32:=by
  rw [gdD,geE (by omega)]
  exact hw.k32 _ (List.getElem_mem _)
 have z1:(x.keys.getD 1 []).length=32:=by
  rw [gdD,geE (by omega)]
  exact hw.k32 _ (List.getElem_mem _)
 obtain⟨sv2,v1,v2⟩:=suf_ksv2 hKA hw.k32 h2
 have v3:∀A:AH,(∀j∈F,hget A j=hget H j)→AccK A sv2 (x.keys.drop 2)∧xcells 32 sv2 A=some (kr (x.keys.drop 2)):=fun A hA=>v2 A (hall A hA)
 have v4:=(v2 A hKA).1.nt
 have v5:=(v2 A hKA).1.cs
 have hsl:=v1 A
 clear hacc hall hKA hkv v2 v1
 generalize x.keys.getD 0 []=c0 at *
 generalize x.keys.getD 1 []=c1 at *
 generalize x.keys.drop 2=ds at *
 generalize x.kind=kd at *
 subst k6
 by_cases e0:c0=k
 case neg=>
  have c0b:(c0==k)=false:=by simpa using e0
  rw [if_neg (fun e=>e0 e.2.1)]at hop
  (refine aw_plan [] [] [0,1,2,3,4,5,6,7,8,9,10,11,12,13,14,15,16,17,18] 19 0 (by kernel_rfl) (by kernel_rfl) (by kernel_rfl) (fun K hK=>?_));simp only [sel,gcS,gdZ];simp (disch:=first|omega|simp only [lnS];try omega) [-getElem?_pos,-getElem?_neg,h5,h6,-xload,ldt,ldk,ld1,t5,-xindexAddr,t1,t2,b6,i6,z0,hk,e0,c0b,-notTuple,hnt,Nat.add_assoc]
  refine hK _ _ ?_;clear hK K
  refine awt (by simp<;>omega) ?_
  (refine aso fun K hK=>?_;simp (disch:=first|omega|simp only [lnS];try omega) [-getElem?_pos,-getElem?_neg];refine hK _ _ ?_;clear hK K)
  (refine aw_ret ?_;simp (disch:=first|omega|simp only [lnS];try omega) [-getElem?_pos,-getElem?_neg])
  exact⟨lwA,by rw [hop]⟩
 subst e0
 by_cases e1:c1=y
 case neg=>
  have c1b:(c1==y)=false:=by simpa using e1
  rw [if_neg (fun e=>e1 e.2.2)]at hop
  (refine aw_plan [] [] [0,1,2,3,4,5,6,7,8,9,10,11,12,13,14,15,16,17,18] 19 0 (by kernel_rfl) (by kernel_rfl) (by kernel_rfl) (fun K hK=>?_));simp only [sel,gcS,gdZ];simp (disch:=first|omega|simp only [lnS];try omega) [-getElem?_pos,-getElem?_neg,h5,h6,-xload,ldt,ldk,ld1,ld2,t5,u5,-xindexAddr,t1,t2,u1,u2,b6,i6,z0,z1,hk,hy,e1,c1b,-notTuple,hnt,Nat.add_assoc]
  refine hK _ _ ?_;clear hK K
  refine awt (by simp<;>omega) ?_
  (refine aso fun K hK=>?_;simp (disch:=first|omega|simp only [lnS];try omega) [-getElem?_pos,-getElem?_neg];refine hK _ _ ?_;clear hK K)
  (refine aw_ret ?_;simp (disch:=first|omega|simp only [lnS];try omega) [-getElem?_pos,-getElem?_neg])
  exact⟨lwA,by rw [hop]⟩
 subst e1
 rw [if_pos ⟨rfl,rfl,rfl⟩]at hop
 (refine aw_plan [] [] [0,1,2,3,4,5,6,7,8,9,10,11,12,13,14,15,16,17,18] 19 0 (by kernel_rfl) (by kernel_rfl) (by kernel_rfl) (fun K hK=>?_));simp only [sel,gcS,gdZ];simp (disch:=first|omega|simp only [lnS];try omega) [-getElem?_pos,-getElem?_neg,h5,h6,-xload,ldt,ldk,ld1,ld2,t5,u5,-xindexAddr,t1,t2,u1,u2,b6,i6,z0,z1,hk,hy,-notTuple,hnt,Nat.add_assoc]
 refine hK _ _ ?_;clear hK K
 refine awf (by simp<;>omega) ?_
 refine aw_skip (aw_seq ?_)
 (refine aw_plan [] [] [0,1,2,3,4,5,6,7] 8 0 (by kernel_rfl) (by kernel_rfl) (by kernel_rfl) (fun K hK=>?_));simp only [sel,gcS,gdZ];simp (disch:=first|omega|simp only [lnS];try omega) [-getElem?_pos,-getElem?_neg,-xload,lds,ldk,-xslice,hsl,-notTuple,hnt,v4,Nat.add_assoc]
 refine hK _ _ ?_;clear hK K
 have fin:ROpenP H F (L.map (·.2)) c0 c1 s (.tuple #[.string x.text,sv2,.bool true]) A:=⟨lwA,by rw [hop];exact⟨_,rfl,v4,v5,v3⟩⟩
 (refine aw_ret ?_;simp (disch:=first|omega|simp only [lnS];try omega) [-getElem?_pos,-getElem?_neg,v4,v5])
 exact⟨_,⟨v4,rfl⟩,fin⟩
def FrX(B:AH)(F:List Nat)(w:Value)(ks:List (List Int)):Prop:=notTuple w=true∧w.cells=#[w]∧(∀s,w≠.string s)∧∀A:AH,(∀j∈F,hget A j=hget B j)→xcells 32 w A=some (kr ks)
theorem ropenT{nro:Nat}{γ:Nat→Option Nat}{H:AH}{b:Nat}{F:List Nat}{T:List TermD}(h:RTbl H b F T)(hnH:nro≤H.length){k y:List Int}(hk:k.length=32)(hy:y.length=32){s:ByteArray}(hs1:s.size≤10000000){u:ByteArray}{ks:List (List Int)}{ok:Bool}(ho:OpR T k y s u ks ok) :
  AC Tryd.prog nro γ 51 #[.pointer (some ⟨b,0,none⟩),.agg (iv .u8 k).toArray,.agg (iv .u8 y).toArray,.string s] H (fun v' H'=>Low H.length H H'∧∃w,v'=.tuple #[.string u,w,.bool ok]∧FrX H F w ks):=by
 obtain⟨tv,sv,Ft,Fs,Fk,L,rfl,h,rfl⟩:=h
 refine (ropenP_ac h hnH hk hy hs1).mono fun v' H' hq=>⟨hq.1,?_⟩
 have h2:=hq.2
 rcases ho with ⟨e,rfl,rfl,rfl⟩ | ⟨e,rfl⟩
 ·rw [e]at h2
  exact⟨_,h2,rfl,rfl,fun s e=>(by cases e),fun A _=>rfl⟩
 ·rw [e]at h2
  obtain⟨kv,h1,h2,h3,h4⟩:=h2
  exact⟨kv,h1,h2,h3,fun s e=>(by
   have hu:und Tryd.prog 34 = .slice 41 := by kernel_rfl
   have:=(h4 H (fun _ _=>rfl)).1.len
   rw [e]at this
   simp [xlen,hu]at this),fun A hA=>(h4 A (fun j hj=>hA j (by simp [hj]))).2⟩
end
end
section
def rkAD:List (Option Nat):=[some 123,some 124,some 125,some 126,some 127,some 128,some 129,some 130,some 122,some 131,some 132,some 12,none,some 13]
def rkAP:List (List Nat):=[[],[],[1],[2],[],[4],[5],[0,3,6],[7],[8],[8],[],[9,11],[10]]
def rkAV(b jk:Nat)(kv:Value)(X Y N:List Int)(ok:Bool)(i:Nat)(v:Value):Prop:=match i with
 | 0=>v=.pointer (some ⟨b,0,none⟩)
 | 1=>v=kv
 | 2=>v=.pointer (some ⟨jk,0,none⟩)
 | 3=>v=.agg (iv .u8 X).toArray
 | 4=>v=kv
 | 5=>v=.pointer (some ⟨jk,32,none⟩)
 | 6=>v=.agg (iv .u8 Y).toArray
 | 7=>v=.tuple #[.agg (iv .u8 N).toArray,.bool ok]
 | 8=>v=.tuple #[.agg (iv .u8 N).toArray,.bool ok]
 | 9=>v=.agg (iv .u8 N).toArray
 | 10=>v=.bool ok
 | 13=>v=.bool ok
 | _=>True
theorem rkA_nd:∀i j t:Nat,rkAD[i]?=some (some t)→rkAD[j]?=some (some t)→i=j:=by
 have h:∀i<14,∀j<14,∀t:Nat,rkAD[i]?=some (some t)→rkAD[j]?=some (some t)→i=j:=by
  intro i hi j hj t h1 h2
  have h3:rkAD[i]?=rkAD[j]?:=h1.trans h2.symm
  have h4:(rkAD[i]?.bind id).isSome=true:=by rw [h1];rfl
  revert h3 h4
  clear h1 h2
  revert i j
  decide
 intro i j t hi hj
 exact h i (gsI.1 hi).1 j (gsI.1 hj).1 t hi hj
def rkBD:List (Option Nat):=[some 139,some 140,some 141,some 142,some 143,some 144,some 145,some 146,some 147,some 148,some 149,some 150,some 151,some 152,some 153,some 8]
def rkBP:List (List Nat):=[[],[],[],[2],[3],[],[5],[6],[],[8],[],[10],[1,4,7,9,11],[0,12],[13],[14]]
def rkBV(n b jk:Nat)(kv zv:Value)(tx:ByteArray)(X Y N:List Int)(i:Nat)(v:Value):Prop:=match i with
 | 0=>v=.pointer (some ⟨b,0,none⟩)
 | 1=>v=.pointer (some ⟨b,0,none⟩)
 | 2=>v=kv
 | 3=>v=.pointer (some ⟨jk,0,none⟩)
 | 4=>v=.agg (iv .u8 X).toArray
 | 5=>v=kv
 | 6=>v=.pointer (some ⟨jk,32,none⟩)
 | 7=>v=.agg (iv .u8 Y).toArray
 | 8=>v=.pointer (some ⟨n,2,none⟩)
 | 9=>v=.string tx
 | 10=>v=kv
 | 11=>v=zv
 | 12=>v=.string (strOfNums N)
 | 13=>v=.agg (iv .u8 N).toArray
 | _=>True
theorem rkB_nd:∀i j t:Nat,rkBD[i]?=some (some t)→rkBD[j]?=some (some t)→i=j:=by
 have h:∀i<16,∀j<16,∀t:Nat,rkBD[i]?=some (some t)→rkBD[j]?=some (some t)→i=j:=by
  intro i hi j hj t h1 h2
  have h3:rkBD[i]?=rkBD[j]?:=h1.trans h2.symm
  have h4:(rkBD[i]?.bind id).isSome=true:=by rw [h1];rfl
  revert h3 h4
  clear h1 h2
  revert i j
  decide
 intro i j t hi hj
 exact h i (gsI.1 hi).1 j (gsI.1 hj).1 t hi hj
def rkCD:List Nat:=[157,158,159,160,161,162,163,164,165,166,167,168,156,169,170,171,14,15,16]
def rkCP:List (List Nat):=[[],[],[1],[2],[],[4],[5],[],[7],[8],[9],[0,3,6,10],[11],[12],[12],[12],[13],[14],[15]]
def rkCV(B:AH)(F:List Nat)(b jk:Nat)(kv:Value)(X Y Z:List Int)(u:ByteArray)(nk:List (List Int))(ok:Bool)(G:AH)(i:Nat)(v:Value):Prop:=match i with
 | 0=>v=.pointer (some ⟨b,0,none⟩)
 | 1=>v=kv
 | 2=>v=.pointer (some ⟨jk,0,none⟩)
 | 3=>v=.agg (iv .u8 X).toArray
 | 4=>v=kv
 | 5=>v=.pointer (some ⟨jk,32,none⟩)
 | 6=>v=.agg (iv .u8 Y).toArray
 | 7=>v=kv
 | 8=>v=.pointer (some ⟨jk,64,none⟩)
 | 9=>v=.slice (some ⟨jk,64,none⟩) 32 33
 | 10=>v=.string (strOfNums Z)
 | 11=>∃w,v=.tuple #[.string u,w,.bool ok]∧FrX B F w nk
 | 12=>∃w,v=.tuple #[.string u,w,.bool ok]∧FrX B F w nk
 | 13=>v=.string u
 | 14=>FrX B F v nk
 | 15=>v=.bool ok
 | 16=>v=.string u
 | 17=>FrX B F v nk
 | 18=>v=.bool ok
 | _=>True
@[reducible] def RPA (B:AH) (b:Nat) (F:List Nat) (T T1:List TermD) (N:List Int) (s:Array Bool) (α:Fm) (G:AH):Prop:=
 ∃Fc,Fr B G F Fc∧RTbl G b Fc (if s.getD 7 false=true then T1 else T)∧(s.getD 11 false=true→∃r,α 12=.pointer (some ⟨r,0,none⟩)∧B.length≤r∧r∉Fc∧hget G r=some ⟨iv .u8 (if s.getD 12 false=true then N else zl 32), 41,none⟩)
theorem RPA.keep{B:AH}{b:Nat}{F:List Nat}{T T1:List TermD}{N:List Int}{s:Array Bool}{α:Fm}{G:AH}{i t:Nat}{v:Value}(hi:i∉[7,11,12])(ht:t≠12)(h:RPA B b F T T1 N s α G):RPA B b F T T1 N (s.setIfInBounds i true) (α.put (some t) v) G:=by
 simp only [mcN,not_or]at hi
 obtain⟨Fc,w1,w2,w3⟩:=h
 refine⟨Fc,w1,by rw [gs_ne hi.1];exact w2,fun a=>?_⟩
 rw [gs_ne hi.2.1]at a
 rw [gs_ne hi.2.2]
 obtain⟨r,x1,x2⟩:=w3 a
 exact⟨r,by simpa [put_at,Ne.symm ht] using x1,x2⟩
@[reducible] def RPB (B:AH) (b:Nat) (F:List Nat) (T T1:List TermD) (N:List Int) (s:Array Bool) (α:Fm) (G:AH):Prop:=
 ∃Fc,Fr B G F Fc∧RTbl G b Fc (if s.getD 12 false=true then T1 else T)∧(s.getD 12 false=false→Low B.length B G)∧(s.getD 14 false=true→s.getD 13 false=true∧∃r,B.length≤r∧α 153=.slice (some ⟨r,0,none⟩) 1 1∧(s.getD 15 false=true→α 8=.slice (some ⟨r,0,none⟩) 1 1)∧r∉Fc∧hget G r=some ⟨iv .u8 N, 41,some 32⟩)
theorem RPB.keep{B:AH}{b:Nat}{F:List Nat}{T T1:List TermD}{N:List Int}{s:Array Bool}{α:Fm}{G:AH}{i t:Nat}{v:Value}(hi:i∉[12,13,14,15])(ht:t∉[153,8])(h:RPB B b F T T1 N s α G):RPB B b F T T1 N (s.setIfInBounds i true) (α.put (some t) v) G:=by
 simp only [mcN,not_or]at hi ht
 obtain⟨Fc,w1,w2,w3,w4⟩:=h
 refine⟨Fc,w1,by rw [gs_ne hi.1];exact w2,fun a=>?_,fun a=>?_⟩
 ·rw [gs_ne hi.1]at a
  exact w3 a
 ·rw [gs_ne hi.2.2.1]at a
  rw [gs_ne hi.2.2.2,gs_ne hi.2.1]
  obtain⟨x4,r,x0,x1,x2,x3⟩:=w4 a
  exact⟨x4,r,x0,by simpa [put_at,Ne.symm ht.1] using x1,fun b=>by simpa [put_at,Ne.symm ht.2] using x2 b,x3⟩
theorem rkC_st'{B:AH}{F:List Nat}{b jk:Nat}{kv:Value}{X Y Z:List Int}{u:ByteArray}{nk:List (List Int)}{ok:Bool}:∀ (G1 G2:AH) (i:Nat) (v:Value),G1.length≤G2.length→(∀j,j<G1.length→hget G2 j=hget G1 j)→rkCV B F b jk kv X Y Z u nk ok G1 i v→rkCV B F b jk kv X Y Z u nk ok G2 i v:=fun G1 G2 i v h1 h2 h=>by
 unfold rkCV at h ⊢
 split at h <;> exact h
def RStQ(H:AH)(b:Nat)(F:List Nat)(T':List TermD)(new:List (List Int))(v':Value)(H':AH):Prop:=notTuple v'=true∧v'.cells=#[v']∧(∀s,v'≠.string s)∧xcells 32 v' H'=some (kr new)∧∃F',Fr H H' F F'∧RTbl H' b F' T'
theorem rst_one{H G:AH}{b:Nat}{F F':List Nat}{T':List TermD}{N:List Int}(f:Fr H G F F')(t:RTbl G b F' T')(hN:N.length=32):RStQ H b F T' [N] (.slice (some ⟨G.length,0,none⟩) 1 1) (G++[some ⟨iv .u8 N, 41,some 32⟩]):=by
 refine⟨rfl,rfl,fun s e=>(by cases e),?_,F',f.push _,t.push _⟩
 exact ksv_cells (keys1 hN (by rw [hget_app0];rfl)) (fun k hk=>by rw [msG.1 hk];exact hN)
theorem rst_nil{H G:AH}{b:Nat}{F F':List Nat}{T':List TermD}(f:Fr H G F F')(t:RTbl G b F' T'):RStQ H b F T' [] (.slice none 0 0) G:=⟨rfl,rfl,fun s e=>(by cases e),rfl,F',f,t⟩
def stepR(T:List TermD)(seen made:List (List Int))(c:CookD):List TermD×List (List Int):=
 if inR made.length c.keys=true∧needN c.kind≤c.keys.length then cookM T seen (pickL made c.keys) c else (T,[])
end
section
attribute [local simp] wb_bool wb_undef with_lit XL_nil XL_cons XLc_val XLc_call step1_eq stepW_t stepW_f stepC_n stepC_s stepX_s stepX_n stepN_s calleeX xrecv oneV xop_eq xopR_s xopR_n wantedA_eq wantedG_n wantedG_s plain1_int plain1_bool plain1_string bits_i64 bits_u64 bits_u32 bits_u16 bits_u8 xeqA xagg xcmp xarr allK_iv num_iv calleeOf xread xeff xbin xint xnil xun xstr xload xconv xpart xfield xfieldAddr xindexAddr xindex bnd asInt? xslice xlen xmin xmax xbuild xfill xappend xapp2 xappstr xappmk xcap xcopy xcells eval_tmp eval_const put_at put_none fr0_at cells_agg cells_int cells_bool cells_string cells_ptr cells_slice notTuple tab iv_all hget_app hget_app0 hget_cons0 hget_cons set_app set_app0 setR setR_one QL_nil QL_cons QLc_val stepQ_t stepQ_f stepQC_n stepQC_s stepQX_s SL_nil SL_cons SLc_val stepS_t stepS_f ltT ltF leT leF eqT eqF ltTn ltFn leTn leFn eqTn eqFn beqT beqF bneT bneF wi64 wu64 wu32 wu16 wu8 tmodP tdivP hgetL hgetNe hgetEq setL nums_def nums_len Nat.succ_le_of_lt List.getElem?_cons_zero List.getElem?_cons_succ Option.getD_some Int.toNat_add Int.toNat_mul agM okM agB agI agS agP agL agA okB okI okS okP okSl okA nt_strG nt_boolG nt_aggG nt_intG nt_ptrG nt_slG XO_s XO_z XLk_val XLk_call headsO behind List.length_cons List.length_nil List.mem_cons List.not_mem_nil or_false forall_eq_or_imp forall_eq List.contains_cons List.contains_nil XOm thenQ_ret scopeQ_ret inBlockQ_ret RQ resL resV PL_nil plainB_lit PL_cons PLc_val PLc_new stepP_t stepP_f stepPC_n stepPC_s stepPX_s stepPX_n stepPV_n stepPV_s stepPA_t stepPA_c stepPA_l stepPN_s allocOp reloc_sl reloc_ptr
section
theorem rcook_ac{γ:Nat→Option Nat}{H0 H:AH}(lw0:Low H0.length H0 H){b:Nat}{F:List Nat}{T:List TermD}(h:RTbl H b F T)(hnro:∀j∈F,H0.length≤j){sv mv:Value}{seen made:List (List Int)}(hsv:KsP H F sv seen)(hs32:∀k∈seen,k.length=32)(hmv:KsP H F mv made)(hk32m:∀k∈made,k.length=32∧By k)(hmm:made.length≤100000)
  {C:List Value} {x:CookD} {xv:Value} (hc0:CkC H C x xv) (hx:x.Wf) (hxt:x.text.size≤1000) (hxm:x.keys.length≤1000) (hT:T.length≤900000) :
  AC Tryd.prog H0.length γ 30 #[.pointer (some ⟨b,0,none⟩),sv,mv,.agg C.toArray] H (RStQ H b F (stepR T seen made x).1 (stepR T seen made x).2):=by
 have cl:=hc0.len
 have hFl:=h.bound
 have hpl:plain1 (.slice none 0 0)=true:=rfl
 obtain⟨snt0,scs0⟩:=hsv.nt
 obtain⟨mnt0,mcs0⟩:=hmv.nt
 obtain⟨n,hn⟩:∃n,n=H.length:=⟨_,rfl⟩
 obtain⟨B0,hB0⟩:∃B0:AH,B0=H++[some ⟨C, 43,none⟩]:=⟨_,rfl⟩
 have gC0:hget B0 n=some ⟨C, 43,none⟩:=by rw [hB0,hn,hget_app0];rfl
 have hBl0:B0.length=n+1:=by rw [hB0,hn];simp
 have lwB0:Low H.length H B0:=by rw [hB0];exact Low.push (nlE _) _
 have f00:Fr H B0 F F:=low_fr F lwB0
 have tB0:RTbl B0 b F T:=h.low (fun j hj=>lwB0.1 j (hFl j hj)) lwB0.2
 have nC:n∉F:=fun e=>by have:=hFl _ e;omega
 have hcB:=hc0.low lwB0
 obtain⟨hnt,hvc,hxl,hat2⟩:=hcB.kv.acc
 obtain⟨mnt,mvc,mxl,mat2⟩:=(hmv.at_ f00).acc (fun k hk=>(hk32m k hk).1)
 have hk:=fun k hk=>(hk32m k hk).1
 have hkm:x.keys.length≤9223372036854775807:=by omega
 unfold stepR
 refine ac_of_aw Tryd.func30 rfl Tryd.ntmps30 Tryd.results30 (by simp) ?_
 (refine aso fun K hK=>?_;simp (disch:=first|omega|simp only [lnS];try omega) [-getElem?_pos,-getElem?_neg,cl];refine hK _ _ ?_;clear hK K)
 rw [←hn,←hB0]
 clear hB0
 (refine aso fun K hK=>?_;simp (disch:=first|omega|simp only [lnS];try omega) [-getElem?_pos,-getElem?_neg];refine hK _ _ ?_;clear hK K)
 refine aw_seq (aw_seq ?_)
 (refine aoo fun K hK=>?_;simp (disch:=first|omega|simp only [lnS];try omega) [-getElem?_pos,-getElem?_neg];refine hK _ _ ?_;clear hK K)
 refine aw_block ?_
 refine aw_loop (fun q α G=>∃ (i:Nat) (kv:Value) (Fo:List Nat),i+q=x.keys.length∧α 0=.pointer (some ⟨b,0,none⟩)∧α 1=sv∧α 2=mv∧α 7=.pointer (some ⟨n,0,none⟩)∧α 9=kv∧α 10=.int .i64 (i:Nat)∧inR made.length (x.keys.take i)=true∧Low B0.length B0 G∧OwnF G kv 41 32 (kr (pickL made (x.keys.take i))) Fo∧∀j∈Fo,B0.length≤j) x.keys.length ?_ ?_
 ·exact⟨0,.slice none 0 0,[],by omega,by (first|simp;done|rfl),by (first|simp;done|rfl),by (first|simp;done|rfl),by (first|simp;done|rfl),by (first|simp;done|rfl),by (first|simp;done|rfl),rfl,Low.refl (nlE _),.inl ⟨rfl,rfl,rfl⟩,fun j hj=>by cases hj⟩
 rintro q α G ⟨i,kv,Fo,hiq,e0,e1,e2,e7,e9,e10,hin,lwG,ho,hFo⟩
 have hGl:=lwG.2
 have gG:=(lwG.1 _ (hget_lt gC0)).trans gC0
 have hnG:H0.length≤G.length:=by have:=lw0.2;have:=lwB0.2;omega
 obtain⟨_,_,_,ld3,_,_⟩:=(hcB.low lwG).loads hx gG
 have hto:=ownF_nt ho
 refine aw_seq (aw_seq ?_)
 by_cases hi:i<x.keys.length
 ·have hi':(i:Int)<x.keys.length:=by omega
  obtain⟨qa,y,q1,q2,q3,rfl,q4⟩:=hat2 i hi
  have q5:=q4 G lwG
  have hgz:x.keys[i]?=some (x.keys.getD i 0):=by rw [gdD,geE hi];rfl
  have hzI:=hx.keys _ (moG hgz)
  have htk:=inR_take (m:=made.length) hgz
  have hno:=inR_no (m:=made.length) hgz
  have hpk:pickL made (x.keys.take (i+1))=pickL made (x.keys.take i)++[made.getD (x.keys.getD i 0).toNat []]:=by
   unfold pickL
   rw [List.take_add_one,hgz,List.map_append];rfl
  generalize x.keys.getD i 0=z at *
  (refine aoo fun K hK=>?_;simp (disch:=first|omega|simp only [lnS];try omega) [-getElem?_pos,-getElem?_neg,e7,e10,-xload,ld3,-notTuple,hnt,-xlen,hxl,hi'];refine hK _ _ ?_;clear hK K)
  refine awt (by simp<;>omega) ?_
  refine aw_skip (aw_seq ?_)
  refine aw_block ?_
  (refine aso fun K hK=>?_;simp (disch:=first|omega|simp only [lnS];try omega) [-getElem?_pos,-getElem?_neg,e7,e10,-xload,ld3,q5,-notTuple,hnt,q1,q3,-xindexAddr,q2];refine hK _ _ ?_;clear hK K)
  refine aw_seq (aw_seq ?_)
  by_cases hz0:z<0
  ·have hf:=hno (by omega)
   rw [if_neg (fun e=>by rw [hf]at e;cases e.1)]
   (refine aoo fun K hK=>?_;simp (disch:=first|omega|simp only [lnS];try omega) [-getElem?_pos,-getElem?_neg,hz0];refine hK _ _ ?_;clear hK K)
   refine awt (by simp<;>omega) ?_
   (refine aso fun K hK=>?_;simp (disch:=first|omega|simp only [lnS];try omega) [-getElem?_pos,-getElem?_neg];refine hK _ _ ?_;clear hK K)
   (refine aw_ret ?_;simp (disch:=first|omega|simp only [lnS];try omega) [-getElem?_pos,-getElem?_neg])
   exact rst_nil (f00.trans (low_fr F lwG)) (tB0.low (fun j hj=>lwG.1 j (tB0.bound j hj)) lwG.2)
  ·by_cases hzm:z<made.length
   ·have hz1:0≤z∧z<made.length:=by omega
    obtain⟨w,rfl⟩:=Int.eq_ofNat_of_zero_le hz1.1
    have hw:w<made.length:=by omega
    obtain⟨qm,ym,m1,m2,m3,rfl,m4⟩:=mat2 w hw
    have m5:=m4 G lwG
    have hY32:(made.getD w []).length=32:=hk _ (by rw [gdD,geE hw];exact List.getElem_mem _)
    rw [show ((w:Nat):Int).toNat=w from rfl]at hpk
    generalize made.getD w []=Y at *
    have hK32:K32 (pickL made (x.keys.take i)):=fun k hk2=>hk k (pickL_mem hin k hk2)
    have hkl:(pickL made (x.keys.take i)).length=i:=by rw [pickL_len,List.length_take];omega
    have hkr:=kr_len hK32
    rw [hkl]at hkr
    have hrow1:setR (List.map (fun j=>(iv .u8 (zl 32))[j%32]?.getD undef) (List.range 32)) 0 (iv .u8 Y)=iv .u8 Y:=setR_all _ _ (by simp [hY32])
    have htY:(iv .u8 Y).take 32=iv .u8 Y:=tkL (by simp [hY32])
    have hxc:xcells 32 (.slice (some ⟨G.length,0,none⟩) 1 1) (G++[some ⟨iv .u8 Y, 41,some 32⟩])=some (iv .u8 Y):=by
     simp [xcells,hget_app0,hY32,htY]
    obtain⟨v1,G1,F1,hap,ho1,hl1,hk1,hF1⟩:=ownF_appQ (P:=Tryd.prog) (nro:=H0.length) (t := 34) (e := 41) (H:=G++[some ⟨iv .u8 Y, 41,some 32⟩]) (v:=kv) (x:=.slice (some ⟨G.length,0,none⟩) 1 1) (sz:=32) (cells:=kr (pickL made (x.keys.take i))) (news:=iv .u8 Y) (F:=Fo) (by kernel_rfl) (by kernel_rfl) (by omega) (by kernel_rfl)
     (ho.low (fun j hj=>hget_left (ho.lt j hj))) (fun j hj=>by have:=hFo j hj;have:=lw0.2;have:=lwB0.2;omega) (fun s e=>by cases e) hxc (by simp [hY32]) (by rw [hkr,show byt Tryd.prog 41 = 32 by kernel_rfl];simp [hY32];omega) (by rw [hkr];simp [hY32,maxLen];omega)
    have n1:=ownF_nt ho1
    have hl1':G.length+1≤G1.length:=by simpa using hl1
    have hz0':¬ (w:Int)<0:=hz0
    have hzg:¬ (made.length:Int)≤w:=by omega
    (refine aoo fun K hK=>?_;simp (disch:=first|omega|simp only [lnS];try omega) [-getElem?_pos,-getElem?_neg,e2,hz0',hzm,hzg,-notTuple,mnt,-xlen,mxl];refine hK _ _ ?_;clear hK K)
    refine awf (by simp<;>omega) ?_
    refine aw_skip ?_
    (refine aoo fun K hK=>?_;simp (disch:=first|omega|simp only [lnS];try omega) [-getElem?_pos,-getElem?_neg,e2,e9,-xload,m5,-notTuple,mnt,m1,m3,hto.1,-xindexAddr,m2,hrow1,hY32,htY,n1.1,n1.2,-xappend,hap];refine hK _ _ ?_;clear hK K)
    (refine aoo fun K hK=>?_;simp (disch:=first|omega|simp only [lnS];try omega) [-getElem?_pos,-getElem?_neg,e10];refine hK _ _ ?_;clear hK K)
    refine⟨q-1,by omega,i+1,v1,F1,by omega,by (first|simp [e0];done|rfl),by (first|simp [e1];done|rfl),by (first|simp [e2];done|rfl),by (first|simp [e7];done|rfl),by (first|simp;done|rfl),by (first|simp;done|rfl),by rw [htk,hin];exact decide_eq_true hz1,⟨fun j hj=>?_,by omega⟩,?_,fun j hj=>?_⟩
    ·rw [hk1 j (by simp;omega) (fun e=>by have:=hFo j e;omega),hget_left (by omega)]
     exact lwG.1 j hj
    ·rw [hpk,kr_app,kr_one]
     exact ho1
    ·have:=hF1 j hj
     simp at this
     omega
   ·have hf:=hno (by omega)
    have hzg:(made.length:Int)≤z:=by omega
    rw [if_neg (fun e=>by rw [hf]at e;cases e.1)]
    (refine aoo fun K hK=>?_;simp (disch:=first|omega|simp only [lnS];try omega) [-getElem?_pos,-getElem?_neg,e2,hz0,hzm,hzg,-notTuple,mnt,-xlen,mxl];refine hK _ _ ?_;clear hK K)
    refine awt (by simp<;>omega) ?_
    (refine aso fun K hK=>?_;simp (disch:=first|omega|simp only [lnS];try omega) [-getElem?_pos,-getElem?_neg];refine hK _ _ ?_;clear hK K)
    (refine aw_ret ?_;simp (disch:=first|omega|simp only [lnS];try omega) [-getElem?_pos,-getElem?_neg])
    exact rst_nil (f00.trans (low_fr F lwG)) (tB0.low (fun j hj=>lwG.1 j (tB0.bound j hj)) lwG.2)
 ·obtain rfl:i=x.keys.length:=by omega
  rw [tkL (nlE _)]at ho hin
  have hkl:=pickL_len made x.keys
  have hxo:=ho.len (P:=Tryd.prog) (t := 34) (n:=x.keys.length) (by kernel_rfl) (by rw [kr_len (fun k hk2=>hk k (pickL_mem hin k hk2)),hkl]) (by decide)
  have ld0:=((hcB.low lwG).loads hx gG).1
  (refine aoo fun K hK=>?_;simp (disch:=first|omega|simp only [lnS];try omega) [-getElem?_pos,-getElem?_neg,e7,e10,-xload,ld3,-notTuple,hnt,-xlen,hxl,hi];refine hK _ _ ?_;clear hK K)
  refine awf (by simp<;>omega) ?_
  refine aw_exit ?_
  refine aw_seq (aw_seq ?_)
  refine aw_cut (fun α' G'=>α' 0=.pointer (some ⟨b,0,none⟩)∧α' 1=sv∧α' 7=.pointer (some ⟨n,0,none⟩)∧α' 9=kv∧α' 76=.bool (decide (x.keys.length<needN x.kind))∧G'=G) ?_ ?_
  ·have fin:∀ (k d:Nat),needN x.kind=d→(x.keys.length<d∨¬ x.keys.length<d):=fun k d _=>by omega
   by_cases h4:x.kind=4
   ·have hd:needN x.kind=1:=by rw [h4];rfl
    rw [hd]
    rw [h4]at ld0
    by_cases hl:x.keys.length<1
    ·have hl':(x.keys.length:Int)<1:=by omega
     (refine aoo fun K hK=>?_;simp (disch:=first|omega|simp only [lnS];try omega) [-getElem?_pos,-getElem?_neg,e7,e9,-xload,ld0,-notTuple,hto.1,-xlen,hxo,hl',hl];refine hK _ _ ?_;clear hK K)
     exact⟨by (first|simp [e0];done|rfl),by (first|simp [e1];done|rfl),by (first|simp [e7];done|rfl),by (first|simp [e9];done|rfl),by (first|simp [hl];done|rfl),rfl⟩
    ·have hl':¬ (x.keys.length:Int)<1:=by omega
     (refine aoo fun K hK=>?_;simp (disch:=first|omega|simp only [lnS];try omega) [-getElem?_pos,-getElem?_neg,e7,e9,-xload,ld0,-notTuple,hto.1,-xlen,hxo,hl',hl];refine hK _ _ ?_;clear hK K)
     exact⟨by (first|simp [e0];done|rfl),by (first|simp [e1];done|rfl),by (first|simp [e7];done|rfl),by (first|simp [e9];done|rfl),by (first|simp [hl];done|rfl),rfl⟩
   by_cases h5:x.kind=5
   ·have hd:needN x.kind=2:=by rw [h5];rfl
    rw [hd]
    rw [h5]at ld0
    by_cases hl:x.keys.length<2
    ·have hl':(x.keys.length:Int)<2:=by omega
     (refine aoo fun K hK=>?_;simp (disch:=first|omega|simp only [lnS];try omega) [-getElem?_pos,-getElem?_neg,e7,e9,-xload,ld0,-notTuple,hto.1,-xlen,hxo,hl',hl];refine hK _ _ ?_;clear hK K)
     exact⟨by (first|simp [e0];done|rfl),by (first|simp [e1];done|rfl),by (first|simp [e7];done|rfl),by (first|simp [e9];done|rfl),by (first|simp [hl];done|rfl),rfl⟩
    ·have hl':¬ (x.keys.length:Int)<2:=by omega
     (refine aoo fun K hK=>?_;simp (disch:=first|omega|simp only [lnS];try omega) [-getElem?_pos,-getElem?_neg,e7,e9,-xload,ld0,-notTuple,hto.1,-xlen,hxo,hl',hl];refine hK _ _ ?_;clear hK K)
     exact⟨by (first|simp [e0];done|rfl),by (first|simp [e1];done|rfl),by (first|simp [e7];done|rfl),by (first|simp [e9];done|rfl),by (first|simp [hl];done|rfl),rfl⟩
   by_cases h6:x.kind=6
   ·have hd:needN x.kind=2:=by rw [h6];rfl
    rw [hd]
    rw [h6]at ld0
    by_cases hl:x.keys.length<2
    ·have hl':(x.keys.length:Int)<2:=by omega
     (refine aoo fun K hK=>?_;simp (disch:=first|omega|simp only [lnS];try omega) [-getElem?_pos,-getElem?_neg,e7,e9,-xload,ld0,-notTuple,hto.1,-xlen,hxo,hl',hl];refine hK _ _ ?_;clear hK K)
     exact⟨by (first|simp [e0];done|rfl),by (first|simp [e1];done|rfl),by (first|simp [e7];done|rfl),by (first|simp [e9];done|rfl),by (first|simp [hl];done|rfl),rfl⟩
    ·have hl':¬ (x.keys.length:Int)<2:=by omega
     (refine aoo fun K hK=>?_;simp (disch:=first|omega|simp only [lnS];try omega) [-getElem?_pos,-getElem?_neg,e7,e9,-xload,ld0,-notTuple,hto.1,-xlen,hxo,hl',hl];refine hK _ _ ?_;clear hK K)
     exact⟨by (first|simp [e0];done|rfl),by (first|simp [e1];done|rfl),by (first|simp [e7];done|rfl),by (first|simp [e9];done|rfl),by (first|simp [hl];done|rfl),rfl⟩
   by_cases h7:x.kind=7
   ·have hd:needN x.kind=3:=by rw [h7];rfl
    rw [hd]
    rw [h7]at ld0
    by_cases hl:x.keys.length<3
    ·have hl':(x.keys.length:Int)<3:=by omega
     (refine aoo fun K hK=>?_;simp (disch:=first|omega|simp only [lnS];try omega) [-getElem?_pos,-getElem?_neg,e7,e9,-xload,ld0,-notTuple,hto.1,-xlen,hxo,hl',hl];refine hK _ _ ?_;clear hK K)
     exact⟨by (first|simp [e0];done|rfl),by (first|simp [e1];done|rfl),by (first|simp [e7];done|rfl),by (first|simp [e9];done|rfl),by (first|simp [hl];done|rfl),rfl⟩
    ·have hl':¬ (x.keys.length:Int)<3:=by omega
     (refine aoo fun K hK=>?_;simp (disch:=first|omega|simp only [lnS];try omega) [-getElem?_pos,-getElem?_neg,e7,e9,-xload,ld0,-notTuple,hto.1,-xlen,hxo,hl',hl];refine hK _ _ ?_;clear hK K)
     exact⟨by (first|simp [e0];done|rfl),by (first|simp [e1];done|rfl),by (first|simp [e7];done|rfl),by (first|simp [e9];done|rfl),by (first|simp [hl];done|rfl),rfl⟩
   have hd:needN x.kind=0:=by unfold needN;rw [if_neg h4,if_neg (by omega),if_neg h7]
   rw [hd]
   (refine aoo fun K hK=>?_;simp (disch:=first|omega|simp only [lnS];try omega) [-getElem?_pos,-getElem?_neg,e7,e9,-xload,ld0,-notTuple,hto.1,-xlen,hxo,h4,h5,h6,h7];refine hK _ _ ?_;clear hK K)
   exact⟨by (first|simp [e0];done|rfl),by (first|simp [e1];done|rfl),by (first|simp [e7];done|rfl),by (first|simp [e9];done|rfl),by (first|simp;done|rfl),rfl⟩
  rintro α' G' ⟨a0,a1,a7,a9,a76,rfl⟩
  clear e0 e1 e2 e7 e9 e10
  obtain⟨ks,hks⟩:∃ks,ks=pickL made x.keys:=⟨_,rfl⟩
  have hk32:∀k∈ks,k.length=32∧By k:=fun k hk2=>by rw [hks]at hk2;exact hk32m k (pickL_mem hin k hk2)
  have k32:K32 ks:=fun k hk2=>(hk32 k hk2).1
  have hkl:ks.length=x.keys.length:=by rw [hks];exact hkl
  rw [←hks]at ho ⊢
  have f0:Fr H G' F F:=f00.trans (low_fr F lwG)
  have tB:RTbl G' b F T:=tB0.low (fun j hj=>lwG.1 j (tB0.bound j hj)) lwG.2
  have svB:=hsv.fr f0
  have hFk:∀j∈Fo,j∉F:=fun j hj e=>by have:=hFo j hj;have:=hFl j e;omega
  have hc:=hcB.low lwG
  by_cases hlt:x.keys.length<needN x.kind
  ·rw [if_neg (by omega)]
   rw [decide_eq_true hlt]at a76
   refine awt (by simp [a76]<;>omega) ?_
   (refine aso fun K hK=>?_;simp (disch:=first|omega|simp only [lnS];try omega) [-getElem?_pos,-getElem?_neg];refine hK _ _ ?_;clear hK K)
   (refine aw_ret ?_;simp (disch:=first|omega|simp only [lnS];try omega) [-getElem?_pos,-getElem?_neg])
   exact rst_nil f0 tB
  rw [decide_eq_false hlt]at a76
  rw [if_pos ⟨hin,by omega⟩]
  have hneed:needN x.kind≤ks.length:=by omega
  have hkm:ks.length≤1000:=by omega
  refine awf (by simp [a76]<;>omega) ?_
  refine aw_skip ?_
  refine aw_seq (aw_seq ?_)
  obtain⟨B,hBB⟩:∃B,B=G':=⟨_,rfl⟩
  rw [←hBB]at tB f0 svB hc gG ho lwG ⊢
  have hnB:H0.length≤B.length:=by rw [hBB];exact hnG
  clear hBB hxo hcB lwB0 lwG tB0 gC0 hat2 mat2 hvc hnt hxl mnt mvc mxl mnt0 mcs0 f00 hks
  have gC:=gG
  obtain⟨ld0,ld1,ld2,_,ld4,_⟩:=hc.loads hx gC
  have hkacc:=(kr_ksv ho k32).acc k32
  obtain⟨knt,kcs,kxl,kat⟩:=hkacc
  have hsacc:=svB.now.acc hs32
  obtain⟨snt,scs,sxl,sat⟩:=hsacc
  have okv:=ho
  have ksB:KsV B kv ks:=kr_ksv ho k32
  have g0:0<ks.length→(ks.getD 0 []).length=32∧By (ks.getD 0 []):=fun h0=>by
   rw [gdD,geE h0]
   exact hk32 _ (List.getElem_mem _)
  have g1:1<ks.length→(ks.getD 1 []).length=32∧By (ks.getD 1 []):=fun h0=>by
   rw [gdD,geE h0]
   exact hk32 _ (List.getElem_mem _)
  have g2:2<ks.length→(ks.getD 2 []).length=32∧By (ks.getD 2 []):=fun h0=>by
   rw [gdD,geE h0]
   exact hk32 _ (List.getElem_mem _)
  unfold cookM
  (refine aoo fun K hK=>?_;simp (disch:=first|omega|simp only [lnS];try omega) [-getElem?_pos,-getElem?_neg,a7,-xload,ld0,-notTuple];refine hK _ _ ?_;clear hK K)
  refine aw_block ?_
  refine aw_seq ?_
  by_cases h1:x.kind=1
  ·rw [h1]
   (refine aoo fun K hK=>?_;simp (disch:=first|omega|simp only [lnS];try omega) [-getElem?_pos,-getElem?_neg];refine hK _ _ ?_;clear hK K)
   refine awt (by simp<;>omega) ?_
   refine aw_seq (aw_seq ?_)
   rw [if_pos rfl]
   by_cases hn0:0≤x.n
   ·have hn0':¬ x.n<0:=by omega
    by_cases hn1:x.n<seen.length
    ·rw [if_pos ⟨hn0,hn1⟩]
     obtain⟨w,hw⟩:=Int.eq_ofNat_of_zero_le hn0
     rw [hw]at ld1 hn1 hn0' ⊢
     have hn1':¬ (seen.length:Int)≤w:=by omega
     have hw2:w<seen.length:=by omega
     obtain⟨qa,y,q1,q2,q3,rfl,q4⟩:=sat w hw2
     have q5:=q4 B (Low.refl (nlE _))
     have hY:(seen.getD w []).length=32:=hs32 _ (by rw [gdD,geE hw2];exact List.getElem_mem _)
     rw [show ((w:Nat):Int).toNat=w from rfl]
     generalize seen.getD w []=Y at *
     have htY:(iv .u8 Y).take 32=iv .u8 Y:=tkL (by simp [hY])
     have hrow1:setR (List.map (fun j=>(iv .u8 (zl 32))[j%32]?.getD undef) (List.range 32)) 0 (iv .u8 Y)=iv .u8 Y:=setR_all _ _ (by simp [hY])
     (refine aoo fun K hK=>?_;simp (disch:=first|omega|simp only [lnS];try omega) [-getElem?_pos,-getElem?_neg,a1,a7,-xload,ld1,-notTuple,snt,-xlen,sxl,hn0',hn1'];refine hK _ _ ?_;clear hK K)
     refine awf (by simp<;>omega) ?_
     refine aw_skip (aw_seq ?_)
     (refine aoo fun K hK=>?_;simp (disch:=first|omega|simp only [lnS];try omega) [-getElem?_pos,-getElem?_neg,a1,a7,-xload,ld1,q5,-notTuple,snt,q1,q3,-xindexAddr,q2,hY,htY,hrow1,hpl];refine hK _ _ ?_;clear hK K)
     (refine aw_ret ?_;simp (disch:=first|omega|simp only [lnS];try omega) [-getElem?_pos,-getElem?_neg,-notTuple])
     exact rst_one f0 tB hY
    ·rw [if_neg (fun e=>hn1 e.2)]
     have hn1':(seen.length:Int)≤x.n:=by omega
     (refine aoo fun K hK=>?_;simp (disch:=first|omega|simp only [lnS];try omega) [-getElem?_pos,-getElem?_neg,a1,a7,-xload,ld1,-notTuple,snt,-xlen,sxl,hn0',hn1'];refine hK _ _ ?_;clear hK K)
     refine awt (by simp<;>omega) ?_
     (refine aso fun K hK=>?_;simp (disch:=first|omega|simp only [lnS];try omega) [-getElem?_pos,-getElem?_neg];refine hK _ _ ?_;clear hK K)
     (refine aw_ret ?_;simp (disch:=first|omega|simp only [lnS];try omega) [-getElem?_pos,-getElem?_neg])
     exact rst_nil f0 tB
   ·rw [if_neg (fun e=>hn0 e.1)]
    have hn0':x.n<0:=by omega
    (refine aoo fun K hK=>?_;simp (disch:=first|omega|simp only [lnS];try omega) [-getElem?_pos,-getElem?_neg,a1,a7,-xload,ld1,-notTuple,snt,-xlen,sxl,hn0'];refine hK _ _ ?_;clear hK K)
    refine awt (by simp<;>omega) ?_
    (refine aso fun K hK=>?_;simp (disch:=first|omega|simp only [lnS];try omega) [-getElem?_pos,-getElem?_neg];refine hK _ _ ?_;clear hK K)
    (refine aw_ret ?_;simp (disch:=first|omega|simp only [lnS];try omega) [-getElem?_pos,-getElem?_neg])
    exact rst_nil f0 tB
  rw [if_neg h1]
  (refine aoo fun K hK=>?_;simp (disch:=first|omega|simp only [lnS];try omega) [-getElem?_pos,-getElem?_neg,h1];refine hK _ _ ?_;clear hK K)
  refine awf (by simp<;>omega) ?_
  refine aw_seq ?_
  by_cases h2:x.kind=2
  ·rw [if_pos (.inl h2)]
   have ht:ckT T ks x=⟨1,foeS++x.text,[]⟩:=by unfold ckT;rw [if_pos h2]
   rw [ht]
   have hdr:=rmakeT (nro:=H0.length) (γ:=γ) tB hnro hnB (x:=⟨1,foeS++x.text,[]⟩) (wf_atom (by rw [ByteArray.size_append];show 4+_≤_;omega)) (v:=.slice none 0 0) (ks_nil _) hT
   have hfs:(⟨#[102,111,101,32]⟩:ByteArray)++x.text=foeS++x.text:=rfl
   have hba:(⟨#[102,111,101,32]⟩:ByteArray).size+x.text.size≤9223372036854775807:=by show 4+x.text.size≤_;omega
   rw [h2]
   (refine aoo fun K hK=>?_;simp (disch:=first|omega|simp only [lnS];try omega) [-getElem?_pos,-getElem?_neg];refine hK _ _ ?_;clear hK K)
   refine awt (by simp<;>omega) ?_
   refine aso fun K hK=>?_
   simp (disch:=first|omega|simp only [lnS];try omega) [-getElem?_pos,-getElem?_neg,a0,a7,-xload,ld2,-notTuple,hba,hfs]
   refine⟨by kernel_rfl,AC.mono hdr ?_⟩
   rintro v1 G1 ⟨rfl,F1,f1,t1⟩
   unfold nmV
   have lN:(nmL (nameT ⟨1,foeS++x.text,[]⟩ T)).length=32:=rfl
   generalize nmL (nameT ⟨1,foeS++x.text,[]⟩ T)=N at *
   have htN:(iv .u8 N).take 32=iv .u8 N:=tkL (by simp [lN])
   have hrow1:setR (List.map (fun j=>(iv .u8 (zl 32))[j%32]?.getD undef) (List.range 32)) 0 (iv .u8 N)=iv .u8 N:=setR_all _ _ (by simp [lN])
   try simp (disch:=first|omega|simp only [lnS];try omega) [-getElem?_pos,-getElem?_neg,lN,htN,hrow1,hpl,-notTuple]
   refine hK _ _ ?_;clear hK K
   (refine aw_ret ?_;simp (disch:=first|omega|simp only [lnS];try omega) [-getElem?_pos,-getElem?_neg,-notTuple])
   exact rst_one (f0.trans f1) t1 lN
  (refine aoo fun K hK=>?_;simp (disch:=first|omega|simp only [lnS];try omega) [-getElem?_pos,-getElem?_neg,h2];refine hK _ _ ?_;clear hK K)
  refine awf (by simp<;>omega) ?_
  refine aw_seq ?_
  by_cases h3:x.kind=3
  ·rw [if_pos (.inr (.inl h3))]
   have ht:ckT T ks x=⟨2,x.text,ks⟩:=by unfold ckT;rw [if_neg h2,if_pos h3]
   rw [ht]
   have hw:TermD.Wf ⟨2,x.text,ks⟩:=⟨by show 2≤6;omega,by show x.text.size≤_;omega,k32,fun k hk=>(hk32 k hk).2,by show ks.length≤_;omega,fun e=>(by cases e),fun e=>(by cases e),fun e=>(by cases e)⟩
   have hh:=rmakeT (nro:=H0.length) (γ:=γ) tB hnro hnB hw ksB hT
   rw [h3]
   (refine aoo fun K hK=>?_;simp (disch:=first|omega|simp only [lnS];try omega) [-getElem?_pos,-getElem?_neg];refine hK _ _ ?_;clear hK K)
   refine awt (by simp<;>omega) ?_
   refine aso fun K hK=>?_
   simp (disch:=first|omega|simp only [lnS];try omega) [-getElem?_pos,-getElem?_neg,a0,a7,a9,-xload,ld2,-notTuple,knt]
   refine⟨by kernel_rfl,AC.mono hh ?_⟩
   rintro v1 G1 ⟨rfl,F1,f1,t1⟩
   unfold nmV
   have lN:(nmL (nameT ⟨2,x.text,ks⟩ T)).length=32:=rfl
   generalize nmL (nameT ⟨2,x.text,ks⟩ T)=N at *
   have htN:(iv .u8 N).take 32=iv .u8 N:=tkL (by simp [lN])
   have hrow1:setR (List.map (fun j=>(iv .u8 (zl 32))[j%32]?.getD undef) (List.range 32)) 0 (iv .u8 N)=iv .u8 N:=setR_all _ _ (by simp [lN])
   try simp (disch:=first|omega|simp only [lnS];try omega) [-getElem?_pos,-getElem?_neg,lN,htN,hrow1,hpl,-notTuple]
   refine hK _ _ ?_;clear hK K
   (refine aw_ret ?_;simp (disch:=first|omega|simp only [lnS];try omega) [-getElem?_pos,-getElem?_neg,-notTuple])
   exact rst_one (f0.trans f1) t1 lN
  (refine aoo fun K hK=>?_;simp (disch:=first|omega|simp only [lnS];try omega) [-getElem?_pos,-getElem?_neg,h3];refine hK _ _ ?_;clear hK K)
  refine awf (by simp<;>omega) ?_
  refine aw_seq ?_
  by_cases h4:x.kind=4
  ·rw [if_pos (.inr (.inr (.inl h4)))]
   have ht:ckT T ks x=⟨3,⟨#[]⟩,[ks.getD 0 []]⟩:=by unfold ckT;rw [if_neg h2,if_neg h3,if_pos h4]
   rw [ht]
   have hl0:0<ks.length:=by rw [h4]at hneed;exact hneed
   obtain⟨l0,b0⟩:=g0 hl0
   obtain⟨jk,hkvd,gk,hjk⟩:=own_at okv k32 hl0
   have hpre:kr [ks.getD 0 []] <+: kr ks:=by
    refine⟨kr (ks.drop 1),?_⟩
    rw [←kr_app]
    congr 1
    cases ks with
    | nil=>cases hl0
    | cons a l=>rfl
   have hs1:KsV B (.slice (some ⟨jk,0,none⟩) 1 1) [ks.getD 0 []]:=own_ksv (lo:=0) (.inr ⟨jk,kr ks,Nat.zero_le _,rfl,gk,hpre⟩) (fun k hk=>by rw [msG.1 hk];exact l0)
   have hsl:xslice Tryd.prog 34 kv none (some (.int .i64 1)) B=some (.slice (some ⟨jk,0,none⟩) 1 1):=by
    have hu:und Tryd.prog 34 = .slice 41 := by kernel_rfl
    have hs:szt Tryd.prog 41 = 32:=by kernel_rfl
    rw [hkvd]
    unfold xslice
    simp only [hu,bnd,hs]
    rw [show asInt? (Value.int .i64 1)=some 1 from rfl]
    dsimp only
    rw [if_pos ⟨by omega,by omega,by omega,by omega⟩,if_neg (by omega),if_pos trivial]
    rfl
   generalize ks.getD 0 []=Y at *
   have hh:=rmakeT (nro:=H0.length) (γ:=γ) tB hnro hnB (x:=⟨3,⟨#[]⟩,[Y]⟩) (wf_pub l0 b0) hs1 hT
   rw [h4]
   (refine aoo fun K hK=>?_;simp (disch:=first|omega|simp only [lnS];try omega) [-getElem?_pos,-getElem?_neg];refine hK _ _ ?_;clear hK K)
   refine awt (by simp<;>omega) ?_
   refine aso fun K hK=>?_
   simp (disch:=first|omega|simp only [lnS];try omega) [-getElem?_pos,-getElem?_neg,a0,a9,-xslice,hsl,-notTuple,knt]
   refine⟨by kernel_rfl,AC.mono hh ?_⟩
   rintro v1 G1 ⟨rfl,F1,f1,t1⟩
   unfold nmV
   have lN:(nmL (nameT ⟨3,⟨#[]⟩,[Y]⟩ T)).length=32:=rfl
   generalize nmL (nameT ⟨3,⟨#[]⟩,[Y]⟩ T)=N at *
   have htN:(iv .u8 N).take 32=iv .u8 N:=tkL (by simp [lN])
   have hrow1:setR (List.map (fun j=>(iv .u8 (zl 32))[j%32]?.getD undef) (List.range 32)) 0 (iv .u8 N)=iv .u8 N:=setR_all _ _ (by simp [lN])
   try simp (disch:=first|omega|simp only [lnS];try omega) [-getElem?_pos,-getElem?_neg,lN,htN,hrow1,hpl,-notTuple]
   refine hK _ _ ?_;clear hK K
   (refine aw_ret ?_;simp (disch:=first|omega|simp only [lnS];try omega) [-getElem?_pos,-getElem?_neg,-notTuple])
   exact rst_one (f0.trans f1) t1 lN
  (refine aoo fun K hK=>?_;simp (disch:=first|omega|simp only [lnS];try omega) [-getElem?_pos,-getElem?_neg,h4];refine hK _ _ ?_;clear hK K)
  refine awf (by simp<;>omega) ?_
  refine aw_seq ?_
  by_cases h5:x.kind=5
  ·rw [if_neg (by simp [h2,h3,h4,h5]),if_pos h5]
   have ht:ckT T ks x=agreeT T (ks.getD 0 []) (ks.getD 1 []):=by unfold ckT;rw [if_neg h2,if_neg h3,if_neg h4,if_pos h5]
   rw [ht]
   have hl1:1<ks.length:=by rw [h5]at hneed;first | exact hneed | exact Nat.lt_of_succ_lt hneed
   obtain⟨lX,bX⟩:=g0 (by omega)
   obtain⟨lY,bY⟩:=g1 hl1
   have hX:ks[0]?=some (ks.getD 0 []):=by rw [gdD,geE (by omega:0<ks.length)];rfl
   have hY:ks[1]?=some (ks.getD 1 []):=by rw [gdD,geE hl1];rfl
   obtain⟨jk,hkvd,gk,hjk⟩:=own_at okv k32 (by omega)
   have nk:jk∉F:=hFk jk hjk
   have ax:xindexAddr Tryd.prog 34 kv (.int .i64 0)=some (.pointer (some ⟨jk,0,none⟩)):=by rw [hkvd];exact kr_addr (n:=ks.length) (b:=jk) (j:=0) (by omega)
   have ay:xindexAddr Tryd.prog 34 kv (.int .i64 1)=some (.pointer (some ⟨jk,32,none⟩)):=by rw [hkvd];exact kr_addr (n:=ks.length) (b:=jk) (j:=1) (by omega)
   generalize ks.getD 0 []=X at *
   generalize ks.getD 1 []=Y at *
   have lN:(agrK T X Y).length=32:=by unfold agrK;split <;> rfl
   have hN:agrB Y=true→agrK T X Y=nmL (nameT (agreeT T X Y) T:Nat)∧agrT2 T X Y=addT (agreeT T X Y) T:=fun e=>by
    have:Y≠zl 32:=by simpa [agrB] using e
    unfold agrK agrT2
    rw [if_neg this,if_neg this];exact⟨rfl,rfl⟩
   have hN0:agrB Y=false→Y=zl 32∧agrT2 T X Y=T:=fun e=>by
    have:Y=zl 32:=by simpa [agrB] using e
    unfold agrT2
    rw [if_pos this];exact⟨this,rfl⟩
   have hN1:agrB Y=true→Y≠zl 32:=fun e=>by simpa [agrB] using e
   rw [h5]
   generalize hNd:agrK T X Y=N at *
   generalize hOk:agrB Y=ok at *
   generalize hTd:agrT2 T X Y=T1 at *
   have sN:setR (iv .u8 (zl 32)) 0 (iv .u8 N)=iv .u8 N:=setR_all _ _ (by simp [lN])
   have tN:(iv .u8 N).take 32=iv .u8 N:=tkL (by simp [lN])
   have rN:setR (List.map (fun j=>(iv .u8 (zl 32))[j%32]?.getD undef) (List.range 32)) 0 (iv .u8 N)=iv .u8 N:=setR_all _ _ (by simp [lN])
   (refine aoo fun K hK=>?_;simp (disch:=first|omega|simp only [lnS];try omega) [-getElem?_pos,-getElem?_neg];refine hK _ _ ?_;clear hK K)
   refine awt (by simp<;>omega) ?_
   refine aw_seq ?_
   refine name_aw (fun β hβ=>?_)
   have e0:β 0=.pointer (some ⟨b,0,none⟩):=by rw [hβ];(first|simp [a0];done|rfl)
   have e9:β 9=kv:=by rw [hβ];(first|simp [a9];done|rfl)
   have e7:β 7=.pointer (some ⟨n,0,none⟩):=by rw [hβ];(first|simp [a7];done|rfl)
   clear hβ
   refine aw_inv rkAP (JT rkAD (rkAV b jk kv X Y N ok) β (RPA B b F T T1 N)) (by kernel_rfl) (by kernel_rfl) (by kernel_rfl) ?_ ?_ ?_
   ·exact⟨by simp;rfl,fun _ _=>rfl,fun i t' hi h=>(by rw [gs_0]at h;cases h),F,Fr.refl _ _,(by rw [gs_0];exact tB),fun h=>(by rw [gs_0]at h;cases h)⟩
   ·intro i s α G k hJ hi0 hsi hd hcc hcont
    obtain⟨Fc,jf,jt,ja⟩:=hJ.hp
    have j0:=(hJ.lo 0 (by decide)).trans e0
    have j9:=(hJ.lo 9 (by decide)).trans e9
    have gk:=(jf.out _ (hget_lt gk) nk).trans gk
    have ldX:=kr_load k32 hX gk
    have ldY:=kr_load k32 hY gk
    have jl:=jf.len
    have hi:i=0∨i=1∨i=2∨i=3∨i=4∨i=5∨i=6∨i=7∨i=8∨i=9∨i=10∨i=11∨i=12∨i=13:=by have hi0:i<14:=hi0;omega
    rcases hi with rfl | rfl | rfl | rfl | rfl | rfl | rfl | rfl | rfl | rfl | rfl | rfl | rfl | rfl <;> (unfold XOm;simp only [gcS])
    ·simp (disch:=first|omega|simp only [lnS];try omega) [-getElem?_pos,-getElem?_neg,-notTuple,knt,j0]
     exact hcont _ _ (hJ.put rkA_nd (t:=123) rfl rfl (hJ.hp.keep (by decide) (by decide)))
    ·simp (disch:=first|omega|simp only [lnS];try omega) [-getElem?_pos,-getElem?_neg,-notTuple,knt,j9]
     exact hcont _ _ (hJ.put rkA_nd (t:=124) rfl rfl (hJ.hp.keep (by decide) (by decide)))
    ·have f1:α 124=_:=hJ.val 1 124 rfl (hd 1 (by decide))
     simp (disch:=first|omega|simp only [lnS];try omega) [-getElem?_pos,-getElem?_neg,-notTuple,knt,-xindexAddr,ax,f1]
     exact hcont _ _ (hJ.put rkA_nd (t:=125) rfl rfl (hJ.hp.keep (by decide) (by decide)))
    ·have f2:α 125=_:=hJ.val 2 125 rfl (hd 2 (by decide))
     simp (disch:=first|omega|simp only [lnS];try omega) [-getElem?_pos,-getElem?_neg,-notTuple,knt,-xload,ldX,f2]
     exact hcont _ _ (hJ.put rkA_nd (t:=126) rfl rfl (hJ.hp.keep (by decide) (by decide)))
    ·simp (disch:=first|omega|simp only [lnS];try omega) [-getElem?_pos,-getElem?_neg,-notTuple,knt,j9]
     exact hcont _ _ (hJ.put rkA_nd (t:=127) rfl rfl (hJ.hp.keep (by decide) (by decide)))
    ·have f4:α 127=_:=hJ.val 4 127 rfl (hd 4 (by decide))
     simp (disch:=first|omega|simp only [lnS];try omega) [-getElem?_pos,-getElem?_neg,-notTuple,knt,-xindexAddr,ay,f4]
     exact hcont _ _ (hJ.put rkA_nd (t:=128) rfl rfl (hJ.hp.keep (by decide) (by decide)))
    ·have f5:α 128=_:=hJ.val 5 128 rfl (hd 5 (by decide))
     simp (disch:=first|omega|simp only [lnS];try omega) [-getElem?_pos,-getElem?_neg,-notTuple,knt,-xload,ldY,f5]
     exact hcont _ _ (hJ.put rkA_nd (t:=129) rfl rfl (hJ.hp.keep (by decide) (by decide)))
    ·have f0:α 123=_:=hJ.val 0 123 rfl (hd 0 (by decide))
     have f3:α 126=_:=hJ.val 3 126 rfl (hd 3 (by decide))
     have f6:α 129=_:=hJ.val 6 129 rfl (hd 6 (by decide))
     simp (disch:=first|omega|simp only [lnS];try omega) [-getElem?_pos,-getElem?_neg,f0,f3,f6]
     have jt:RTbl G b Fc T:=by rw [hsi]at jt;exact jt
     refine⟨by kernel_rfl,AC.mono (ragreeT (nro:=H0.length) (γ:=γ) jt (jf.lo hnro hnB) (by omega) lX bX lY bY (by omega)) ?_⟩
     rintro v' G' ⟨hv,F1,f1,t1⟩
     rw [hNd,hOk]at hv
     rw [hTd]at t1
     subst hv
     exact hcont _ _ (hJ.put rkA_nd (t:=130) rfl rfl ⟨F1,jf.trans f1,by rw [gs_eq (by rw [hJ.sz];decide)];exact t1,fun a=>by
      rw [gs_ne (by decide)]at a
      obtain⟨r,w1,w2,w3,w4⟩:=ja a
      refine⟨r,by (first|simp [w1];done|rfl),w2,fun e=>?_,by rw [gs_ne (by decide),f1.out r (hget_lt w4) w3];exact w4⟩
      rcases f1.new r e with e1 | e1
      ·exact w3 e1
      ·have:=hget_lt w4;omega⟩)
    ·have f7:α 130=_:=hJ.val 7 130 rfl (hd 7 (by decide))
     simp (disch:=first|omega|simp only [lnS];try omega) [-getElem?_pos,-getElem?_neg,-notTuple,knt,f7]
     exact hcont _ _ (hJ.put rkA_nd (t:=122) rfl rfl (hJ.hp.keep (by decide) (by decide)))
    ·have f8:α 122=_:=hJ.val 8 122 rfl (hd 8 (by decide))
     simp (disch:=first|omega|simp only [lnS];try omega) [-getElem?_pos,-getElem?_neg,-notTuple,knt,f8]
     exact hcont _ _ (hJ.put rkA_nd (t:=131) rfl rfl (hJ.hp.keep (by decide) (by decide)))
    ·have f8:α 122=_:=hJ.val 8 122 rfl (hd 8 (by decide))
     simp (disch:=first|omega|simp only [lnS];try omega) [-getElem?_pos,-getElem?_neg,-notTuple,knt,f8]
     exact hcont _ _ (hJ.put rkA_nd (t:=132) rfl rfl (hJ.hp.keep (by decide) (by decide)))
    ·simp (disch:=first|omega|simp only [lnS];try omega) [-getElem?_pos,-getElem?_neg]
     exact hcont _ _ (hJ.put rkA_nd (t:=12) rfl trivial ⟨Fc,jf.push _,by rw [gs_ne (by decide)];exact jt.push _,fun _=>⟨G.length,by (first|simp;done|rfl),jl,fun e=>by have:=jt.bound _ e;omega,by rw [gs_ne (by decide),hcc 12 (by decide),hget_app0];rfl⟩⟩)
    ·have f9:α 131=_:=hJ.val 9 131 rfl (hd 9 (by decide))
     obtain⟨r,w1,w2,w3,w4⟩:=ja (hd 11 (by decide))
     rw [hsi]at w4
     have w4:hget G r=some ⟨iv .u8 (zl 32), 41,none⟩:=w4
     have wl:=hget_lt w4
     have wn:H0.length≤r:=by omega
     simp (disch:=first|omega|simp only [lnS];try omega) [-getElem?_pos,-getElem?_neg,w1,w4,wl,wn,f9,lN,sN]
     exact hcont _ _ (hJ.put0 rfl ⟨Fc,⟨by simp;omega,fun j hj hn=>(hget_set_ne (by omega)).trans (jf.out j hj hn),jf.new⟩,by rw [gs_ne (by decide)];exact jt.low (fun j hj=>hget_set_ne (fun e=>w3 (e▸hj))) (by simp),fun _=>⟨r,w1,w2,w3,by rw [gs_eq (by rw [hJ.sz];decide)];exact hget_set_eq wl⟩⟩)
    ·have f10:α 132=_:=hJ.val 10 132 rfl (hd 10 (by decide))
     simp (disch:=first|omega|simp only [lnS];try omega) [-getElem?_pos,-getElem?_neg,-notTuple,knt,f10]
     exact hcont _ _ (hJ.put rkA_nd (t:=13) rfl rfl (hJ.hp.keep (by decide) (by decide)))
   rintro s α G hJ hall
   have hsz:s.size=14:=hJ.sz
   have hg:∀i,i<14→s.getD i false=true:=fun i hi=>by
    rw [agD,Array.getElem?_eq_getElem (by omega)]
    exact Array.all_eq_true.1 hall i (by omega)
   obtain⟨Fc,jf,jt,ja⟩:=hJ.hp
   rw [hg 7 (by omega)]at jt
   obtain⟨r,w1,w2,w3,w4⟩:=ja (hg 11 (by omega))
   rw [hg 12 (by omega)]at w4
   have w4:hget G r=some ⟨iv .u8 N, 41,none⟩:=w4
   have jt:RTbl G b Fc T1:=jt
   have a10:α 13=.bool ok:=hJ.val 13 13 rfl (hg 13 (by omega))
   have wl:=hget_lt w4
   clear hall hsz hg hJ
   refine aw_seq (aw_seq ?_)
   (refine aoo fun K hK=>?_;simp (disch:=first|omega|simp only [lnS];try omega) [-getElem?_pos,-getElem?_neg,a10];refine hK _ _ ?_;clear hK K)
   cases ok with
   | true=>
    rw [if_neg (hN1 rfl)]
    obtain⟨rfl,rfl⟩:=hN rfl
    refine awf (by simp<;>omega) ?_
    refine aw_skip (aw_seq ?_)
    (refine aoo fun K hK=>?_;simp (disch:=first|omega|simp only [lnS];try omega) [-getElem?_pos,-getElem?_neg,w1,w4,wl,lN,tN,rN,hpl];refine hK _ _ ?_;clear hK K)
    (refine aw_ret ?_;simp (disch:=first|omega|simp only [lnS];try omega) [-getElem?_pos,-getElem?_neg,-notTuple])
    exact rst_one (f0.trans jf) jt lN
   | false=>
    obtain⟨hy,rfl⟩:=hN0 rfl
    rw [if_pos hy]
    refine awt (by simp<;>omega) ?_
    (refine aso fun K hK=>?_;simp (disch:=first|omega|simp only [lnS];try omega) [-getElem?_pos,-getElem?_neg];refine hK _ _ ?_;clear hK K)
    (refine aw_ret ?_;simp (disch:=first|omega|simp only [lnS];try omega) [-getElem?_pos,-getElem?_neg])
    exact rst_nil (f0.trans jf) jt
  (refine aoo fun K hK=>?_;simp (disch:=first|omega|simp only [lnS];try omega) [-getElem?_pos,-getElem?_neg,h5];refine hK _ _ ?_;clear hK K)
  refine awf (by simp<;>omega) ?_
  refine aw_seq ?_
  by_cases h6:x.kind=6
  ·rw [if_pos (.inr (.inr (.inr h6)))]
   have ht:ckT T ks x=⟨6,x.text,ks.getD 0 []::ks.getD 1 []::ks.drop 2⟩:=by unfold ckT;rw [if_neg h2,if_neg h3,if_neg h4,if_neg h5]
   rw [ht]
   have hl1:1<ks.length:=by rw [h6]at hneed;first | exact hneed | exact Nat.lt_of_succ_lt hneed
   obtain⟨lX,bX⟩:=g0 (by omega)
   obtain⟨lY,bY⟩:=g1 hl1
   have hX:ks[0]?=some (ks.getD 0 []):=by rw [gdD,geE (by omega:0<ks.length)];rfl
   have hY:ks[1]?=some (ks.getD 1 []):=by rw [gdD,geE hl1];rfl
   obtain⟨zv,z1,z2,z3,_,z5,_⟩:=suf_keys okv k32 hl1
   obtain⟨jk,hkvd,gk,hjk⟩:=own_at okv k32 (by omega)
   have nk:jk∉F:=hFk jk hjk
   have ax:xindexAddr Tryd.prog 34 kv (.int .i64 0)=some (.pointer (some ⟨jk,0,none⟩)):=by rw [hkvd];exact kr_addr (n:=ks.length) (b:=jk) (j:=0) (by omega)
   have ay:xindexAddr Tryd.prog 34 kv (.int .i64 1)=some (.pointer (some ⟨jk,32,none⟩)):=by rw [hkvd];exact kr_addr (n:=ks.length) (b:=jk) (j:=1) (by omega)
   generalize ks.getD 0 []=X at *
   generalize ks.getD 1 []=Y at *
   have hw:TermD.Wf ⟨6,x.text,X::Y::ks.drop 2⟩:=wf_seal (by omega) lX bX lY bY (fun z hz=>hk32 z (List.mem_of_mem_drop hz)) (by rw [List.length_drop];omega)
   have lN:(nmL (nameT ⟨6,x.text,X::Y::ks.drop 2⟩ T)).length=32:=rfl
   have bN:By (nmL (nameT ⟨6,x.text,X::Y::ks.drop 2⟩ T)):=nmL_by _
   rw [h6]
   generalize htx:x.text=tx at *
   generalize hNd:nmL (nameT ⟨6,tx,X::Y::ks.drop 2⟩ T)=N at *
   generalize hTd:addT ⟨6,tx,X::Y::ks.drop 2⟩ T=T1 at *
   have tN:(iv .u8 N).take 32=iv .u8 N:=tkL (by simp [lN])
   have rN:setR (List.map (fun j=>(iv .u8 (zl 32))[j%32]?.getD undef) (List.range 32)) 0 (iv .u8 N)=iv .u8 N:=setR_all _ _ (by simp [lN])
   (refine aoo fun K hK=>?_;simp (disch:=first|omega|simp only [lnS];try omega) [-getElem?_pos,-getElem?_neg];refine hK _ _ ?_;clear hK K)
   refine awt (by simp<;>omega) ?_
   refine aw_seq ?_
   refine name_aw (fun β hβ=>?_)
   have e0:β 0=.pointer (some ⟨b,0,none⟩):=by rw [hβ];(first|simp [a0];done|rfl)
   have e9:β 9=kv:=by rw [hβ];(first|simp [a9];done|rfl)
   have e7:β 7=.pointer (some ⟨n,0,none⟩):=by rw [hβ];(first|simp [a7];done|rfl)
   clear hβ
   refine aw_inv rkBP (JT rkBD (rkBV n b jk kv zv tx X Y N) β (RPB B b F T T1 N)) (by kernel_rfl) (by kernel_rfl) (by kernel_rfl) ?_ ?_ ?_
   ·exact⟨by simp;rfl,fun _ _=>rfl,fun i t' hi h=>(by rw [gs_0]at h;cases h),F,Fr.refl _ _,(by rw [gs_0];exact tB),fun _=>Low.refl (nlE _),fun h=>(by rw [gs_0]at h;cases h)⟩
   ·intro i s α G k hJ hi0 hsi hd hcc hcont
    obtain⟨Fc,jf,jt,jlw,ja⟩:=hJ.hp
    have j0:=(hJ.lo 0 (by decide)).trans e0
    have j9:=(hJ.lo 9 (by decide)).trans e9
    have j7:=(hJ.lo 7 (by decide)).trans e7
    have gC:=(jf.out _ (hget_lt gC) nC).trans gC
    have gk:=(jf.out _ (hget_lt gk) nk).trans gk
    have ldX:=kr_load k32 hX gk
    have ldY:=kr_load k32 hY gk
    have jl:=jf.len
    have ldS:=ld_tx hc hx gC
    rw [htx]at ldS
    have hi:i=0∨i=1∨i=2∨i=3∨i=4∨i=5∨i=6∨i=7∨i=8∨i=9∨i=10∨i=11∨i=12∨i=13∨i=14∨i=15:=by have hi0:i<16:=hi0;omega
    rcases hi with rfl | rfl | rfl | rfl | rfl | rfl | rfl | rfl | rfl | rfl | rfl | rfl | rfl | rfl | rfl | rfl <;> (unfold XOm;simp only [gcS])
    ·simp (disch:=first|omega|simp only [lnS];try omega) [-getElem?_pos,-getElem?_neg,-notTuple,knt,j0]
     exact hcont _ _ (hJ.put rkB_nd (t:=139) rfl rfl (hJ.hp.keep (by decide) (by decide)))
    ·simp (disch:=first|omega|simp only [lnS];try omega) [-getElem?_pos,-getElem?_neg,-notTuple,knt,j0]
     exact hcont _ _ (hJ.put rkB_nd (t:=140) rfl rfl (hJ.hp.keep (by decide) (by decide)))
    ·simp (disch:=first|omega|simp only [lnS];try omega) [-getElem?_pos,-getElem?_neg,-notTuple,knt,j9]
     exact hcont _ _ (hJ.put rkB_nd (t:=141) rfl rfl (hJ.hp.keep (by decide) (by decide)))
    ·have f2:α 141=_:=hJ.val 2 141 rfl (hd 2 (by decide))
     simp (disch:=first|omega|simp only [lnS];try omega) [-getElem?_pos,-getElem?_neg,-notTuple,knt,-xindexAddr,ax,f2]
     exact hcont _ _ (hJ.put rkB_nd (t:=142) rfl rfl (hJ.hp.keep (by decide) (by decide)))
    ·have f3:α 142=_:=hJ.val 3 142 rfl (hd 3 (by decide))
     simp (disch:=first|omega|simp only [lnS];try omega) [-getElem?_pos,-getElem?_neg,-notTuple,knt,-xload,ldX,f3]
     exact hcont _ _ (hJ.put rkB_nd (t:=143) rfl rfl (hJ.hp.keep (by decide) (by decide)))
    ·simp (disch:=first|omega|simp only [lnS];try omega) [-getElem?_pos,-getElem?_neg,-notTuple,knt,j9]
     exact hcont _ _ (hJ.put rkB_nd (t:=144) rfl rfl (hJ.hp.keep (by decide) (by decide)))
    ·have f5:α 144=_:=hJ.val 5 144 rfl (hd 5 (by decide))
     simp (disch:=first|omega|simp only [lnS];try omega) [-getElem?_pos,-getElem?_neg,-notTuple,knt,-xindexAddr,ay,f5]
     exact hcont _ _ (hJ.put rkB_nd (t:=145) rfl rfl (hJ.hp.keep (by decide) (by decide)))
    ·have f6:α 145=_:=hJ.val 6 145 rfl (hd 6 (by decide))
     simp (disch:=first|omega|simp only [lnS];try omega) [-getElem?_pos,-getElem?_neg,-notTuple,knt,-xload,ldY,f6]
     exact hcont _ _ (hJ.put rkB_nd (t:=146) rfl rfl (hJ.hp.keep (by decide) (by decide)))
    ·simp (disch:=first|omega|simp only [lnS];try omega) [-getElem?_pos,-getElem?_neg,-notTuple,knt,j7]
     exact hcont _ _ (hJ.put rkB_nd (t:=147) rfl rfl (hJ.hp.keep (by decide) (by decide)))
    ·have f8:α 147=_:=hJ.val 8 147 rfl (hd 8 (by decide))
     simp (disch:=first|omega|simp only [lnS];try omega) [-getElem?_pos,-getElem?_neg,-notTuple,knt,-xload,ldS,f8]
     exact hcont _ _ (hJ.put rkB_nd (t:=148) rfl rfl (hJ.hp.keep (by decide) (by decide)))
    ·simp (disch:=first|omega|simp only [lnS];try omega) [-getElem?_pos,-getElem?_neg,-notTuple,knt,j9]
     exact hcont _ _ (hJ.put rkB_nd (t:=149) rfl rfl (hJ.hp.keep (by decide) (by decide)))
    ·have f10:α 149=_:=hJ.val 10 149 rfl (hd 10 (by decide))
     simp (disch:=first|omega|simp only [lnS];try omega) [-getElem?_pos,-getElem?_neg,-notTuple,knt,-xslice,z1,z2,z3,f10]
     exact hcont _ _ (hJ.put rkB_nd (t:=150) rfl rfl (hJ.hp.keep (by decide) (by decide)))
    ·have f1:α 140=_:=hJ.val 1 140 rfl (hd 1 (by decide))
     have f4:α 143=_:=hJ.val 4 143 rfl (hd 4 (by decide))
     have f7:α 146=_:=hJ.val 7 146 rfl (hd 7 (by decide))
     have f9:α 148=_:=hJ.val 9 148 rfl (hd 9 (by decide))
     have f11:α 150=_:=hJ.val 11 150 rfl (hd 11 (by decide))
     simp (disch:=first|omega|simp only [lnS];try omega) [-getElem?_pos,-getElem?_neg,f1,f4,f7,f9,f11]
     have jt:RTbl G b Fc T:=by rw [hsi]at jt;exact jt
     have lwG:=jlw hsi
     refine⟨by kernel_rfl,AC.mono (rsealT (nro:=H0.length) (γ:=γ) jt (jf.lo hnro hnB) (by omega) lX lY hw (z5.keep (by omega) (fun j hj=>lwG.1 j hj)) (by omega)) ?_⟩
     rintro v' G' ⟨hv,F1,f1,t1⟩
     rw [hNd]at hv
     rw [hTd]at t1
     subst hv
     exact hcont _ _ (hJ.put rkB_nd (t:=151) rfl rfl ⟨F1,jf.trans f1,by rw [gs_eq (by rw [hJ.sz];decide)];exact t1,fun a=>(by rw [gs_eq (by rw [hJ.sz];decide)]at a;cases a),fun a=>(by rw [gs_ne (by decide)]at a;have:=(ja a).1;rw [hcc 13 (by decide)]at this;cases this)⟩)
    ·have f0:α 139=_:=hJ.val 0 139 rfl (hd 0 (by decide))
     have f12:α 151=_:=hJ.val 12 151 rfl (hd 12 (by decide))
     simp (disch:=first|omega|simp only [lnS];try omega) [-getElem?_pos,-getElem?_neg,f0,f12]
     have d14:=hd 12 (by decide)
     have jt:RTbl G b Fc T1:=by rw [d14]at jt;exact jt
     refine⟨by kernel_rfl,AC.mono (rmarkT (nro:=H0.length) (γ:=γ) (s:=strOfNums N) jt (by omega) (by rw [sn_size,lN])) ?_⟩
     rintro v' G' ⟨hv,F1,f1,t1⟩
     rw [nums_of _ bN]at hv
     subst hv
     exact hcont _ _ (hJ.put rkB_nd (t:=152) rfl rfl ⟨F1,jf.trans f1,by rw [gs_ne (by decide),d14];exact t1,fun a=>(by rw [gs_ne (by decide),d14]at a;cases a),fun a=>(by rw [gs_ne (by decide),hcc 14 (by decide)]at a;cases a)⟩)
    ·have f13:α 152=_:=hJ.val 13 152 rfl (hd 13 (by decide))
     simp (disch:=first|omega|simp only [lnS];try omega) [-getElem?_pos,-getElem?_neg,f13,lN,tN,rN,hpl]
     exact hcont _ _ (hJ.put rkB_nd (t:=153) rfl trivial ⟨Fc,jf.push _,by rw [gs_ne (by decide)];exact jt.push _,fun a=>(by rw [gs_ne (by decide)]at a;exact (jlw a).trans (Low.push (by have:=(jlw a).2;omega) _)),fun _=>⟨by rw [gs_ne (by decide)];exact hd 13 (by decide),G.length,jl,by (first|simp;done|rfl),fun a=>(by rw [gs_ne (by decide),hcc 15 (by decide)]at a;cases a),fun e=>by have:=jt.bound _ e;omega,by rw [hget_app0];rfl⟩⟩)
    ·obtain⟨wv,r,w0,w1,w2,w3,w4⟩:=ja (hd 14 (by decide))
     simp (disch:=first|omega|simp only [lnS];try omega) [-getElem?_pos,-getElem?_neg,w1]
     exact hcont _ _ (hJ.put rkB_nd (t:=8) rfl trivial ⟨Fc,jf,by rw [gs_ne (by decide)];exact jt,fun a=>(by rw [gs_ne (by decide)]at a;exact jlw a),fun _=>⟨by rw [gs_ne (by decide)];exact wv,r,w0,by (first|simp [w1];done|rfl),fun _=>by (first|simp;done|rfl),w3,w4⟩⟩)
   rintro s α G hJ hall
   have hsz:s.size=16:=hJ.sz
   have hg:∀i,i<16→s.getD i false=true:=fun i hi=>by
    rw [agD,Array.getElem?_eq_getElem (by omega)]
    exact Array.all_eq_true.1 hall i (by omega)
   obtain⟨Fc,jf,jt,_,ja⟩:=hJ.hp
   rw [hg 12 (by omega)]at jt
   have jt:RTbl G b Fc T1:=jt
   obtain⟨_,r,w0,_,w2,w3,w4⟩:=ja (hg 14 (by omega))
   have a8:=w2 (hg 15 (by omega))
   clear hall hsz hg hJ
   (refine aw_ret ?_;simp (disch:=first|omega|simp only [lnS];try omega) [-getElem?_pos,-getElem?_neg,a8,-notTuple])
   exact⟨rfl,rfl,fun s e=>(by cases e),ksv_cells (keys1 lN w4) (fun k hk=>by rw [msG.1 hk];exact lN),Fc,f0.trans jf,jt⟩
  (refine aoo fun K hK=>?_;simp (disch:=first|omega|simp only [lnS];try omega) [-getElem?_pos,-getElem?_neg,h6];refine hK _ _ ?_;clear hK K)
  refine awf (by simp<;>omega) ?_
  refine aw_seq ?_
  rw [if_neg (by simp [h2,h3,h4,h6]),if_neg h5]
  by_cases h7:x.kind=7
  ·rw [if_pos h7]
   have hl2:2<ks.length:=by rw [h7]at hneed;exact hneed
   have hl1:1<ks.length:=by omega
   obtain⟨lX,bX⟩:=g0 (by omega)
   obtain⟨lY,bY⟩:=g1 hl1
   have hX:ks[0]?=some (ks.getD 0 []):=by rw [gdD,geE (by omega:0<ks.length)];rfl
   have hY:ks[1]?=some (ks.getD 1 []):=by rw [gdD,geE hl1];rfl
   obtain⟨lZ,bZ⟩:=g2 hl2
   have hZ:ks[2]?=some (ks.getD 2 []):=by rw [gdD,geE hl2];rfl
   obtain⟨jk,hkvd,gk,hjk⟩:=own_at okv k32 (by omega)
   have nk:jk∉F:=hFk jk hjk
   have ax:xindexAddr Tryd.prog 34 kv (.int .i64 0)=some (.pointer (some ⟨jk,0,none⟩)):=by rw [hkvd];exact kr_addr (n:=ks.length) (b:=jk) (j:=0) (by omega)
   have ay:xindexAddr Tryd.prog 34 kv (.int .i64 1)=some (.pointer (some ⟨jk,32,none⟩)):=by rw [hkvd];exact kr_addr (n:=ks.length) (b:=jk) (j:=1) (by omega)
   have az:xindexAddr Tryd.prog 34 kv (.int .i64 2)=some (.pointer (some ⟨jk,64,none⟩)):=by rw [hkvd];exact kr_addr (n:=ks.length) (b:=jk) (j:=2) hl2
   generalize ks.getD 0 []=X at *
   generalize ks.getD 1 []=Y at *
   generalize ks.getD 2 []=Z at *
   obtain⟨u,nk,ok,ho2⟩:=opR_ex T X Y (strOfNums Z)
   have hnk:openK (openT T X Y (strOfNums Z))=nk:=by
    rcases ho2 with ⟨e,_,e2,_⟩ | ⟨e,_⟩
    ·rw [e,e2];rfl
    ·rw [e];rfl
   have ho:=ho2
   rw [hnk,h7]
   (refine aoo fun K hK=>?_;simp (disch:=first|omega|simp only [lnS];try omega) [-getElem?_pos,-getElem?_neg];refine hK _ _ ?_;clear hK K)
   refine awt (by simp<;>omega) ?_
   refine aw_seq ?_
   refine name_aw (fun β hβ=>?_)
   have e0:β 0=.pointer (some ⟨b,0,none⟩):=by rw [hβ];(first|simp [a0];done|rfl)
   have e9:β 9=kv:=by rw [hβ];(first|simp [a9];done|rfl)
   have e7:β 7=.pointer (some ⟨n,0,none⟩):=by rw [hβ];(first|simp [a7];done|rfl)
   clear hβ
   have hND:rkCD.Nodup:=by decide
   have hST:=@rkC_st' B F b jk kv X Y Z u nk ok
   refine aw_inv rkCP (IJ rkCD (rkCV B F b jk kv X Y Z u nk ok) β B) (by kernel_rfl) (by kernel_rfl) (by kernel_rfl) (IJ.start rfl) ?_ ?_
   ·intro i s α G k hJ hi0 hsi hd hcc hcont
    have lwG:Low B.length B G:=⟨hJ.lw.2,hJ.lw.1⟩
    have j0:=(hJ.lo 0 (by decide)).trans e0
    have j9:=(hJ.lo 9 (by decide)).trans e9
    have gk:=(lwG.1 _ (hget_lt gk)).trans gk
    have ldX:=kr_load k32 hX gk
    have ldY:=kr_load k32 hY gk
    obtain⟨szl,szc⟩:=key_str k32 hZ gk
    have jl:=lwG.2
    have hi:i=0∨i=1∨i=2∨i=3∨i=4∨i=5∨i=6∨i=7∨i=8∨i=9∨i=10∨i=11∨i=12∨i=13∨i=14∨i=15∨i=16∨i=17∨i=18:=by have hi0:i<19:=hi0;omega
    rcases hi with rfl | rfl | rfl | rfl | rfl | rfl | rfl | rfl | rfl | rfl | rfl | rfl | rfl | rfl | rfl | rfl | rfl | rfl | rfl <;> (unfold XOm;simp only [gcS])
    ·simp (disch:=first|omega|simp only [lnS];try omega) [-getElem?_pos,-getElem?_neg,-notTuple,knt,j0]
     exact hcont _ _ (hJ.put hND hST rfl (nlE _) (fun _ _=>rfl) rfl)
    ·simp (disch:=first|omega|simp only [lnS];try omega) [-getElem?_pos,-getElem?_neg,-notTuple,knt,j9]
     exact hcont _ _ (hJ.put hND hST rfl (nlE _) (fun _ _=>rfl) rfl)
    ·have f1:α 158=_:=hJ.val 1 158 rfl (hd 1 (by decide))
     simp (disch:=first|omega|simp only [lnS];try omega) [-getElem?_pos,-getElem?_neg,-notTuple,knt,-xindexAddr,ax,f1]
     exact hcont _ _ (hJ.put hND hST rfl (nlE _) (fun _ _=>rfl) rfl)
    ·have f2:α 159=_:=hJ.val 2 159 rfl (hd 2 (by decide))
     simp (disch:=first|omega|simp only [lnS];try omega) [-getElem?_pos,-getElem?_neg,-notTuple,knt,-xload,ldX,f2]
     exact hcont _ _ (hJ.put hND hST rfl (nlE _) (fun _ _=>rfl) rfl)
    ·simp (disch:=first|omega|simp only [lnS];try omega) [-getElem?_pos,-getElem?_neg,-notTuple,knt,j9]
     exact hcont _ _ (hJ.put hND hST rfl (nlE _) (fun _ _=>rfl) rfl)
    ·have f4:α 161=_:=hJ.val 4 161 rfl (hd 4 (by decide))
     simp (disch:=first|omega|simp only [lnS];try omega) [-getElem?_pos,-getElem?_neg,-notTuple,knt,-xindexAddr,ay,f4]
     exact hcont _ _ (hJ.put hND hST rfl (nlE _) (fun _ _=>rfl) rfl)
    ·have f5:α 162=_:=hJ.val 5 162 rfl (hd 5 (by decide))
     simp (disch:=first|omega|simp only [lnS];try omega) [-getElem?_pos,-getElem?_neg,-notTuple,knt,-xload,ldY,f5]
     exact hcont _ _ (hJ.put hND hST rfl (nlE _) (fun _ _=>rfl) rfl)
    ·simp (disch:=first|omega|simp only [lnS];try omega) [-getElem?_pos,-getElem?_neg,-notTuple,knt,j9]
     exact hcont _ _ (hJ.put hND hST rfl (nlE _) (fun _ _=>rfl) rfl)
    ·have f7:α 164=_:=hJ.val 7 164 rfl (hd 7 (by decide))
     simp (disch:=first|omega|simp only [lnS];try omega) [-getElem?_pos,-getElem?_neg,-notTuple,knt,-xindexAddr,az,f7]
     exact hcont _ _ (hJ.put hND hST rfl (nlE _) (fun _ _=>rfl) rfl)
    ·have f8:α 165=_:=hJ.val 8 165 rfl (hd 8 (by decide))
     simp (disch:=first|omega|simp only [lnS];try omega) [-getElem?_pos,-getElem?_neg,-notTuple,knt,-xslice,szl,f8]
     exact hcont _ _ (hJ.put hND hST rfl (nlE _) (fun _ _=>rfl) rfl)
    ·have f9:α 166=_:=hJ.val 9 166 rfl (hd 9 (by decide))
     simp (disch:=first|omega|simp only [lnS];try omega) [-getElem?_pos,-getElem?_neg,-notTuple,knt,-xconv,szc,f9]
     exact hcont _ _ (hJ.put hND hST rfl (nlE _) (fun _ _=>rfl) rfl)
    ·have f0:α 157=_:=hJ.val 0 157 rfl (hd 0 (by decide))
     have f3:α 160=_:=hJ.val 3 160 rfl (hd 3 (by decide))
     have f6:α 163=_:=hJ.val 6 163 rfl (hd 6 (by decide))
     have f10:α 167=_:=hJ.val 10 167 rfl (hd 10 (by decide))
     simp (disch:=first|omega|simp only [lnS];try omega) [-getElem?_pos,-getElem?_neg,f0,f3,f6,f10]
     refine⟨by kernel_rfl,AC.mono (ropenT (nro:=H0.length) (γ:=γ) (k:=X) (y:=Y) (s:=strOfNums Z) (tB.low (fun j hj=>lwG.1 j (tB.bound j hj)) lwG.2) (by omega) lX lY (by rw [sn_size,lZ];omega) ho) ?_⟩
     rintro v' G' ⟨lwq,w,rfl,wx⟩
     exact hcont _ _ (hJ.put hND hST (t:=168) rfl lwq.2 lwq.1 ⟨w,rfl,wx.1,wx.2.1,wx.2.2.1,fun A hA=>wx.2.2.2 A (fun j hj=>(hA j hj).trans (lwG.1 j (tB.bound j hj)).symm)⟩)
    ·have f11:=hJ.val 11 168 rfl (hd 11 (by decide))
     obtain⟨w,f,wo⟩:=f11
     have wn1:=wo.1
     simp (disch:=first|omega|simp only [lnS];try omega) [-getElem?_pos,-getElem?_neg,f,-notTuple,wn1]
     exact hcont _ _ (hJ.put hND hST (t:=156) rfl (nlE _) (fun _ _=>rfl) ⟨w,rfl,wo⟩)
    ·have f12:=hJ.val 12 156 rfl (hd 12 (by decide))
     obtain⟨w,f,wo⟩:=f12
     have wn1:=wo.1
     simp (disch:=first|omega|simp only [lnS];try omega) [-getElem?_pos,-getElem?_neg,f,-notTuple,wn1]
     exact hcont _ _ (hJ.put hND hST (t:=169) rfl (nlE _) (fun _ _=>rfl) rfl)
    ·have f12:=hJ.val 12 156 rfl (hd 12 (by decide))
     obtain⟨w,f,wo⟩:=f12
     have wn1:=wo.1
     simp (disch:=first|omega|simp only [lnS];try omega) [-getElem?_pos,-getElem?_neg,f,-notTuple,wn1]
     exact hcont _ _ (hJ.put hND hST (t:=170) rfl (nlE _) (fun _ _=>rfl) wo)
    ·have f12:=hJ.val 12 156 rfl (hd 12 (by decide))
     obtain⟨w,f,wo⟩:=f12
     have wn1:=wo.1
     simp (disch:=first|omega|simp only [lnS];try omega) [-getElem?_pos,-getElem?_neg,f,-notTuple,wn1]
     exact hcont _ _ (hJ.put hND hST (t:=171) rfl (nlE _) (fun _ _=>rfl) rfl)
    ·have f13:α 169=_:=hJ.val 13 169 rfl (hd 13 (by decide))
     simp (disch:=first|omega|simp only [lnS];try omega) [-getElem?_pos,-getElem?_neg,-notTuple,knt,f13]
     exact hcont _ _ (hJ.put hND hST rfl (nlE _) (fun _ _=>rfl) rfl)
    ·have f14:=hJ.val 14 170 rfl (hd 14 (by decide))
     have wn1:=f14.1
     have wn2:=f14.2.1
     simp (disch:=first|omega|simp only [lnS];try omega) [-getElem?_pos,-getElem?_neg,-notTuple,wn1,wn2]
     exact hcont _ _ (hJ.put hND hST (t:=15) rfl (nlE _) (fun _ _=>rfl) f14)
    ·have f15:α 171=_:=hJ.val 15 171 rfl (hd 15 (by decide))
     simp (disch:=first|omega|simp only [lnS];try omega) [-getElem?_pos,-getElem?_neg,-notTuple,knt,f15]
     exact hcont _ _ (hJ.put hND hST rfl (nlE _) (fun _ _=>rfl) rfl)
   rintro s α G hJ hall
   have hsz:s.size=19:=hJ.sz
   have hg:∀i,i<19→s.getD i false=true:=fun i hi=>by
    rw [agD,Array.getElem?_eq_getElem (by omega)]
    exact Array.all_eq_true.1 hall i (by omega)
   have lw8:Low B.length B G:=⟨hJ.lw.2,hJ.lw.1⟩
   have a15:FrX B F (α 15) nk:=hJ.val 17 15 rfl (hg 17 (by omega))
   obtain⟨w1,hw1⟩:∃w1,w1=α 15:=⟨_,rfl⟩
   rw [←hw1]at a15
   have wn1:=a15.1
   have wn2:=a15.2.1
   clear hall hsz hg hJ
   (refine aso fun K hK=>?_;simp (disch:=first|omega|simp only [lnS];try omega) [-getElem?_pos,-getElem?_neg,←hw1,-notTuple,wn1,wn2];refine hK _ _ ?_;clear hK K)
   (refine aw_ret ?_;simp (disch:=first|omega|simp only [lnS];try omega) [-getElem?_pos,-getElem?_neg,-notTuple,wn1,wn2])
   exact⟨wn1,wn2,a15.2.2.1,a15.2.2.2 G (fun j hj=>lw8.1 j (tB.bound j hj)),F,f0.trans (low_fr F lw8),tB.low (fun j hj=>lw8.1 j (tB.bound j hj)) lw8.2⟩
  rw [if_neg h7]
  (refine aoo fun K hK=>?_;simp (disch:=first|omega|simp only [lnS];try omega) [-getElem?_pos,-getElem?_neg,h7];refine hK _ _ ?_;clear hK K)
  refine awf (by simp<;>omega) ?_
  refine aw_seq ?_
  by_cases h8:x.kind=8
  ·rw [if_pos h8]
   have hmb:=shaped_rc (γ:=γ) (H:=B) hx.raw.1 hx.raw.2
   have lR:=hx.raw.1
   rw [h8]
   (refine aoo fun K hK=>?_;simp (disch:=first|omega|simp only [lnS];try omega) [-getElem?_pos,-getElem?_neg];refine hK _ _ ?_;clear hK K)
   refine awt (by simp<;>omega) ?_
   refine aw_seq (aw_seq ?_)
   refine aoo fun K hK=>?_
   simp (disch:=first|omega|simp only [lnS];try omega) [-getElem?_pos,-getElem?_neg,a7,-xload,ld4,-notTuple]
   refine⟨by kernel_rfl,ac_of_rc hmb (by simp [pv_iv,pv_int,pv_bool,pv_string,pv_tup2,pv_tup3,iv_plain,p2_int,p2_bool,p2_string]) ?_⟩
   try simp (disch:=first|omega|simp only [lnS];try omega) [-getElem?_pos,-getElem?_neg,-notTuple]
   refine hK _ _ ?_;clear hK K
   generalize x.raw=R at *
   have htR:(iv .u8 R).take 32=iv .u8 R:=tkL (by simp [lR])
   have hrow1:setR (List.map (fun j=>(iv .u8 (zl 32))[j%32]?.getD undef) (List.range 32)) 0 (iv .u8 R)=iv .u8 R:=setR_all _ _ (by simp [lR])
   by_cases hr:nmL (plN R)=R
   ·rw [if_pos hr,decide_eq_true hr]
    refine awt (by simp<;>omega) ?_
    (refine aso fun K hK=>?_;simp (disch:=first|omega|simp only [lnS];try omega) [-getElem?_pos,-getElem?_neg];refine hK _ _ ?_;clear hK K)
    (refine aw_ret ?_;simp (disch:=first|omega|simp only [lnS];try omega) [-getElem?_pos,-getElem?_neg])
    exact rst_nil f0 tB
   ·rw [if_neg hr,decide_eq_false hr]
    refine awf (by simp<;>omega) ?_
    refine aw_skip (aw_seq ?_)
    (refine aoo fun K hK=>?_;simp (disch:=first|omega|simp only [lnS];try omega) [-getElem?_pos,-getElem?_neg,a7,-xload,ld4,lR,htR,hrow1,hpl,-notTuple];refine hK _ _ ?_;clear hK K)
    (refine aw_ret ?_;simp (disch:=first|omega|simp only [lnS];try omega) [-getElem?_pos,-getElem?_neg,-notTuple])
    exact rst_one f0 tB lR
  ·rw [if_neg h8]
   (refine aoo fun K hK=>?_;simp (disch:=first|omega|simp only [lnS];try omega) [-getElem?_pos,-getElem?_neg,h8];refine hK _ _ ?_;clear hK K)
   refine awf (by simp<;>omega) ?_
   refine aw_skip (aw_seq ?_)
   (refine aoo fun K hK=>?_;simp (disch:=first|omega|simp only [lnS];try omega) [-getElem?_pos,-getElem?_neg];refine hK _ _ ?_;clear hK K)
   (refine aw_ret ?_;simp (disch:=first|omega|simp only [lnS];try omega) [-getElem?_pos,-getElem?_neg])
   exact rst_nil f0 tB
end
section
theorem KsP.less{H:AH}{F F':List Nat}{v:Value}{ks:List (List Int)}(h:KsP H F v ks)(hF:∀j∈F',j∈F):KsP H F' v ks:=fun G hl hg=>h G hl (fun j hj hn=>hg j hj (fun e=>hn (hF j e)))
theorem CkP.less{H:AH}{F F':List Nat}{v:Value}{L:List CookD}(h:CkP H F v L)(hF:∀j∈F',j∈F):CkP H F' v L:=⟨h.nt,h.cs,h.len,fun i x hi=>by
 obtain⟨p,C,kv,h1,h2,h3⟩:=h.at_ i x hi
 exact⟨p,C,kv,h1,h2,fun G hl hg=>h3 G hl (fun j hj hn=>hg j hj (fun e=>hn (hF j e)))⟩⟩
theorem stepR_more(T:List TermD)(seen made:List (List Int))(c:CookD):moreM T seen made c=((stepR T seen made c).1,made++(stepR T seen made c).2):=by
 unfold moreM stepR
 split
 ·rfl
 ·simp
def RMaQ(H:AH)(b:Nat)(F:List Nat)(T':List TermD)(made:List (List Int))(v':Value)(H':AH):Prop:=∃F' Fo,Fr H H' F (F'++Fo)∧RTbl H' b F' T'∧OwnF H' v' 41 32 (kr made) Fo∧∀j∈Fo,j∉F'
theorem rmakeAll_ac{γ:Nat→Option Nat}{H0 H:AH}(lw0:Low H0.length H0 H){b:Nat}{F:List Nat}{T:List TermD}(h:RTbl H b F T)(hnro:∀j∈F,H0.length≤j){sv lv:Value}{seen:List (List Int)}(hsv:KsP H F sv seen)(hs32:∀k∈seen,k.length=32∧By k)
  {L:List CookD} (hlv:CkP H F lv L) (hL:∀x∈L,x.Ok) (hm:L.length≤60) (hT:T.length≤10) (hfew:∀y∈T,y.keys.length≤1000) :
  AC Tryd.prog H0.length γ 11 #[.pointer (some ⟨b,0,none⟩),sv,lv] H (RMaQ H b F (makeM seen L (T,[])).1 (makeM seen L (T,[])).2):=by
 have hpl:plain1 (.slice none 0 0)=true:=rfl
 have hFl:=h.bound
 have snt:=hsv.nt
 have lnt:=hlv.nt
 have lcs:=hlv.cs
 have lln:=hlv.len
 have mk0:MkOk T [] 0:=⟨fun k hk=>(by cases hk),Nat.zero_le _,by omega,hfew⟩
 refine ac_of_aw Tryd.func11 rfl Tryd.ntmps11 Tryd.results11 (by simp) ?_
 (refine aso fun K hK=>?_;simp (disch:=first|omega|simp only [lnS];try omega) [-getElem?_pos,-getElem?_neg];refine hK _ _ ?_;clear hK K)
 (refine aso fun K hK=>?_;simp (disch:=first|omega|simp only [lnS];try omega) [-getElem?_pos,-getElem?_neg];refine hK _ _ ?_;clear hK K)
 refine aw_seq (aw_seq ?_)
 (refine aoo fun K hK=>?_;simp (disch:=first|omega|simp only [lnS];try omega) [-getElem?_pos,-getElem?_neg];refine hK _ _ ?_;clear hK K)
 refine aw_block ?_
 refine aw_loop (fun q α G=>∃ (i:Nat) (F1 Fo:List Nat) (ov:Value),i+q=L.length∧α 0=.pointer (some ⟨b,0,none⟩)∧α 1=sv∧α 2=lv∧α 7=ov∧α 8=.int .i64 (i:Nat)∧Fr H G F (F1++Fo)∧RTbl G b F1 (makeM seen (L.take i) (T,[])).1∧OwnF G ov 41 32 (kr (makeM seen (L.take i) (T,[])).2) Fo∧(∀j∈Fo,j∉F1)∧MkOk (makeM seen (L.take i) (T,[])).1 (makeM seen (L.take i) (T,[])).2 i) L.length ?_ ?_
 ·exact⟨0,F,[],.slice none 0 0,by omega,by (first|simp;done|rfl),by (first|simp;done|rfl),by (first|simp;done|rfl),by (first|simp;done|rfl),by (first|simp;done|rfl),by rw [List.append_nil];exact Fr.refl _ _,h,.inl ⟨rfl,rfl,rfl⟩,fun j hj=>(by cases hj),mk0⟩
 rintro q α G ⟨i,F1,Fo,ov,hiq,e0,e1,e2,e7,e8,f1,t1,o1,d1,mk1⟩
 have ont:=ownF_nt o1
 refine aw_seq (aw_seq ?_)
 by_cases hi:i<L.length
 ·have hi':(i:Int)<L.length:=by omega
  obtain⟨x,hx⟩:∃x,L[i]?=some x:=⟨_,geE hi⟩
  have hxo:=hL x (moG hx)
  obtain⟨p,C,kv,p1,p2,p3⟩:=(hlv.fr f1).at_ i x hx
  obtain⟨p4,p5⟩:=p3 G (nlE _) (fun _ _ _=>rfl)
  have cl:=p5.len
  have htk:=makeM_take (seen:=seen) hx (T,[])
  rw [stepR_more]at htk
  have hmt:=mk1.m
  have htt:=mk1.t
  have mk2:=mk1.more t1.wf hxo hs32
  rw [stepR_more]at mk2
  have hlo:=f1.lo hnro lw0.2
  have lw1:Low H0.length H0 G:=lowFr lw0 hnro f1
  have hst:=rcook_ac (γ:=γ) lw1 t1 (fun j hj=>hlo j (by simp [hj])) ((hsv.fr f1).less (fun j hj=>by simp [hj])) (fun k hk=>(hs32 k hk).1) (ownF_ksp o1 (fun k hk=>(mk1.k k hk).1) d1) mk1.k (by omega) p5 hxo.wf hxo.text (by have:=hxo.keys;omega) (by omega)
  generalize makeM seen (L.take i) (T,[])=M at *
  obtain⟨T1,made⟩:=M
  simp only at t1 o1 mk1 hmt htt hst mk2 htk
  generalize hR:stepR T1 seen made x=R at *
  obtain⟨T2,new⟩:=R
  simp only at hst mk2 htk
  (refine aoo fun K hK=>?_;simp (disch:=first|omega|simp only [lnS];try omega) [-getElem?_pos,-getElem?_neg,e2,e8,-notTuple,lnt,lcs,-xlen,lln,hi'];refine hK _ _ ?_;clear hK K)
  refine awt (by simp<;>omega) ?_
  refine aw_skip (aw_seq ?_)
  refine aw_block ?_
  refine aso fun K hK=>?_
  simp (disch:=first|omega|simp only [lnS];try omega) [-getElem?_pos,-getElem?_neg,e0,e1,e2,e7,e8,-xload,p4,-xindexAddr,p2,p1,-notTuple,lnt,snt.1,ont.1]
  refine⟨by kernel_rfl,AC.mono hst ?_⟩
  rintro wv G2 ⟨w1,w2,w3,w4,F2,f2,t2⟩
  try simp (disch:=first|omega|simp only [lnS];try omega) [-getElem?_pos,-getElem?_neg,-notTuple,w1,w2]
  refine hK _ _ ?_;clear hK K
  have hoF:∀j∈Fo,j<G.length:=o1.lt
  have o2:OwnF G2 ov 41 32 (kr made) Fo:=o1.low (fun j hj=>f2.out j (hoF j hj) (d1 j hj))
  have l1:=kr_len (l:=made) (fun k hk=>(mk1.k k hk).1)
  have l2:(kr new).length=new.length*32:=kr_len (fun k hk=>(mk2.k k (maP.2 (.inr hk))).1)
  have hnm:=mk2.m
  rw [laP]at hnm
  obtain⟨v1,G3,F3,hap,o3,hl3,hk3,hF3⟩:=ownF_appQ (P:=Tryd.prog) (nro:=H0.length) (t := 34) (e := 41) (H:=G2) (v:=ov) (x:=wv) (sz:=32) (cells:=kr made) (news:=kr new) (F:=Fo) (by kernel_rfl) (by kernel_rfl) (by omega) (by kernel_rfl) o2 (fun j hj=>hlo j (by simp [hj])) w3 w4 (by omega) (by rw [l1,l2,show byt Tryd.prog 41 = 32 by kernel_rfl];omega) (by rw [l1,l2];simp only [maxLen];omega)
  have n3:=ownF_nt o3
  (refine aoo fun K hK=>?_;simp (disch:=first|omega|simp only [lnS];try omega) [-getElem?_pos,-getElem?_neg,e7,-notTuple,ont.1,w1,n3.1,n3.2,-xappend,hap];refine hK _ _ ?_;clear hK K)
  (refine aoo fun K hK=>?_;simp (disch:=first|omega|simp only [lnS];try omega) [-getElem?_pos,-getElem?_neg,e8];refine hK _ _ ?_;clear hK K)
  have d2:∀j∈Fo,j∉F2:=fun j hj e=>by
   rcases f2.new j e with e2 | e2
   ·exact d1 j hj e2
   ·have:=hoF j hj;omega
  refine⟨q-1,by omega,i+1,F2,F3,v1,by omega,by (first|simp [e0];done|rfl),by (first|simp [e1];done|rfl),by (first|simp [e2];done|rfl),by (first|simp;done|rfl),by (first|simp;done|rfl),⟨by have:=f1.len;have:=f2.len;omega,fun j hj hn=>?_,fun j hj=>?_⟩,?_,?_,fun j hj e=>?_,?_⟩
  ·have hj5:j∉F1++Fo:=fun e=>by
    rcases f1.new j e with e2 | e2
    ·exact hn e2
    ·omega
   have a1:j∉F1:=fun e=>hj5 (by simp [e])
   have a2:j∉Fo:=fun e=>hj5 (by simp [e])
   rw [hk3 j (by have:=f1.len;have:=f2.len;omega) a2,f2.out j (by have:=f1.len;omega) a1]
   exact f1.out j hj hn
  ·rcases maP.1 hj with e | e
   ·rcases f2.new j e with e2 | e2
    ·exact f1.new j (by simp [e2])
    ·have:=f1.len;exact .inr (by omega)
   ·have:=hF3 j e
    have:=f1.len;have:=f2.len
    exact .inr (by omega)
  ·rw [htk]
   exact t2.low (fun j hj=>hk3 j (t2.bound j hj) (fun e=>d2 j e hj)) hl3
  ·rw [htk]
   show OwnF G3 v1 _ 32 (kr (made++new)) F3
   rw [kr_app]
   exact o3
  ·have:=hF3 j hj
   have:=t2.bound j e
   omega
  ·rw [htk]
   exact mk2
 ·obtain rfl:i=L.length:=by omega
  rw [tkL (nlE _)]at t1 o1 mk1
  (refine aoo fun K hK=>?_;simp (disch:=first|omega|simp only [lnS];try omega) [-getElem?_pos,-getElem?_neg,e2,e8,-notTuple,lnt,lcs,-xlen,lln];refine hK _ _ ?_;clear hK K)
  refine awf (by simp<;>omega) ?_
  refine aw_exit (aw_seq ?_)
  (refine aoo fun K hK=>?_;simp (disch:=first|omega|simp only [lnS];try omega) [-getElem?_pos,-getElem?_neg,e7,-notTuple,ont.1,ont.2];refine hK _ _ ?_;clear hK K)
  have fin:RMaQ H b F (makeM seen L (T,[])).1 (makeM seen L (T,[])).2 ov G:=⟨F1,Fo,f1,t1,o1,d1⟩
  (refine aw_ret ?_;simp (disch:=first|omega|simp only [lnS];try omega) [-getElem?_pos,-getElem?_neg,-notTuple,ont.1,ont.2])
  exact fin
end
section
theorem fol_named{kn:List Bool}{k:List Int}(h:nmL (plN k)=k):fol kn k=kw kn (plN k).toNat:=by
 unfold fol pk
 rw [if_pos h]
theorem fol_raw{kn:List Bool}{k:List Int}(h:¬ nmL (plN k)=k):fol kn k=true:=by
 unfold fol pk
 rw [if_neg h]
theorem kwR_get{kn:List Bool}{p:Nat}(h:p<kn.length):kn[p]?=some (kw kn p):=by
 unfold kw
 rw [gdD,geE h]
 rfl
theorem kw_out{kn:List Bool}{p:Nat}(h:kn.length≤p):kw kn p=false:=by
 unfold kw
 rw [gdD,List.getElem?_eq_none h]
 rfl
theorem bs_addr{m kb i:Nat}(h:i<m):xindexAddr Tryd.prog 55 (.slice (some ⟨kb,0,none⟩) m m) (.int .i64 (i:Nat))=some (.pointer (some ⟨kb,i,none⟩)):=by
 have h1:und Tryd.prog 55 = .slice 4 := by kernel_rfl
 have h2:szt Tryd.prog 4 = 1:=by kernel_rfl
 unfold xindexAddr
 simp only [h1,h2]
 rw [if_pos ⟨by omega,by omega,by omega⟩]
 simp
theorem bs_load{G:AH}{kn:List Bool}{kb i:Nat}(h:i<kn.length)(hb:hget G kb=some ⟨bsC kn, 4,some 1⟩):xload Tryd.prog 4 (.pointer (some ⟨kb,i,none⟩)) G=some (.bool (kw kn i)):=by
 have e1:isAggD (und Tryd.prog 4)=false:=by kernel_rfl
 have e2:okD (und Tryd.prog 4)=true:=by kernel_rfl
 unfold xload
 simp only [hb,e1,e2]
 simp [bsC_get (kwR_get h)]
theorem getD_mem{l:List (List Int)}{i:Nat}(h:i<l.length):l.getD i []∈l:=by
 rw [gdD,geE h]
 exact List.getElem_mem h
theorem all_take{α:Type}{f:α→Bool}{l:List α}{j:Nat}{x:α}(h:(l.take j).all f=true)(hj:l[j]?=some x)(hx:f x=true):(l.take (j+1)).all f=true:=by
 rw [List.take_add_one,hj,List.all_append,h]
 simp [hx]
theorem all_no{α:Type}{f:α→Bool}{l:List α}{j:Nat}{x:α}(hj:l[j]?=some x)(hx:f x=false):l.all f=false:=by
 cases e:l.all f with
 | false=>rfl
 | true=>
  have:=alT.1 e x (moG hj)
  rw [hx]at this
  cases this
theorem has_rc{γ:Nat→Option Nat}{H:AH}{b kb:Nat}{tv sv:Value}{Ft Fs F:List Nat}{L:List (Value×TermD)}(h:RTblF H b tv sv Ft Fs F L){kn:List Bool}(hk:hget H kb=some ⟨bsC kn, 4,some 1⟩)(hl:kn.length=L.length)(hL:L.length≤1000000){k:List Int}(hk32:k.length=32)(hkb:By k) :
  AC Tryd.prog H.length γ 19 #[.pointer (some ⟨b,0,none⟩),.slice (some ⟨kb,0,none⟩) L.length L.length,.agg (iv .u8 k).toArray] H (fun v' _=>v'=.bool (fol kn k)):=by
 have hb:=h.hb
 obtain⟨_,htl⟩:=h.slen
 have hs2:=ownF_nt h.rows
 have tk:(iv .u8 k).take 32=iv .u8 k:=tkL (by simp [hk32])
 obtain⟨G,hG⟩:∃G:AH,G=H++[some ⟨iv .u8 k, 41,none⟩]:=⟨_,rfl⟩
 have gk:hget G H.length=some ⟨iv .u8 k, 41,none⟩:=by rw [hG,hget_app0];rfl
 have gb:hget G b=some ⟨[tv,sv], 33,none⟩:=by rw [hG];exact (hget_left (hget_lt hb)).trans hb
 have gkb:hget G kb=some ⟨bsC kn, 4,some 1⟩:=by rw [hG];exact (hget_left (hget_lt hk)).trans hk
 have ldk:=key_load hk32 gk
 have hnum:=rnum_rc (γ:=γ) (H:=G) gb htl hs2.1 hs2.2 hk32 hkb
 have hsh:=shaped_rc (γ:=γ) (H:=G) hk32 hkb
 have hl9:L.length≤9223372036854775807:=by omega
 refine ac_of_aw Tryd.func19 rfl Tryd.ntmps19 Tryd.results19 (by simp) ?_
 (refine aso fun K hK=>?_;simp (disch:=first|omega|simp only [lnS];try omega) [-getElem?_pos,-getElem?_neg,tk,hk32];refine hK _ _ ?_;clear hK K)
 rw [←hG]
 clear hG
 refine aso fun K hK=>?_
 simp (disch:=first|omega|simp only [lnS];try omega) [-getElem?_pos,-getElem?_neg,-xload,ldk,-notTuple]
 refine⟨by kernel_rfl,ac_of_rc hnum (by simp [pv_iv,pv_int,pv_bool,pv_string,pv_tup2,pv_tup3,iv_plain,p2_int,p2_bool,p2_string]) ?_⟩
 try simp (disch:=first|omega|simp only [lnS];try omega) [-getElem?_pos,-getElem?_neg,-notTuple]
 refine hK _ _ ?_;clear hK K
 refine aw_seq (aw_seq ?_)
 by_cases hn:nmL (plN k)=k
 ·have h0:0≤plN k:=by rw [←hn];exact pl_nm0 _
  rw [fol_named hn]
  by_cases hlt:plN k<L.length
  ·have hnr:numR L.length k=plN k:=by unfold numR;rw [decide_eq_true hlt,decide_eq_true hn];rfl
   rw [hnr]
   obtain⟨p,hp⟩:=Int.eq_ofNat_of_zero_le h0
   rw [hp]at hlt ⊢
   have hpl:p<L.length:=by omega
   have ad:=bs_addr (kb:=kb) hpl
   have ld:=bs_load (i:=p) (by omega) gkb
   rw [show ((p:Nat):Int).toNat=p from rfl]
   generalize kw kn p=bo at *
   (refine aoo fun K hK=>?_;simp (disch:=first|omega|simp only [lnS];try omega) [-getElem?_pos,-getElem?_neg];refine hK _ _ ?_;clear hK K)
   refine awf (by simp<;>omega) ?_
   refine aw_skip (aw_seq ?_)
   (refine aoo fun K hK=>?_;simp (disch:=first|omega|simp only [lnS];try omega) [-getElem?_pos,-getElem?_neg,hl9,hlt,-xindexAddr,ad,-xload,ld,-notTuple];refine hK _ _ ?_;clear hK K)
   (refine aw_ret ?_;simp (disch:=first|omega|simp only [lnS];try omega) [-getElem?_pos,-getElem?_neg])
  ·have hnr:numR L.length k=-1:=by unfold numR;rw [decide_eq_false hlt];rfl
   rw [hnr,kw_out (by omega)]
   rw [decide_eq_true hn]at hsh
   (refine aoo fun K hK=>?_;simp (disch:=first|omega|simp only [lnS];try omega) [-getElem?_pos,-getElem?_neg];refine hK _ _ ?_;clear hK K)
   refine awt (by simp<;>omega) ?_
   refine aso fun K hK=>?_
   simp (disch:=first|omega|simp only [lnS];try omega) [-getElem?_pos,-getElem?_neg,-xload,ldk,-notTuple]
   refine⟨by kernel_rfl,ac_of_rc hsh (by simp [pv_iv,pv_int,pv_bool,pv_string,pv_tup2,pv_tup3,iv_plain,p2_int,p2_bool,p2_string]) ?_⟩
   try simp (disch:=first|omega|simp only [lnS];try omega) [-getElem?_pos,-getElem?_neg,-notTuple]
   refine hK _ _ ?_;clear hK K
   (refine aw_ret ?_;simp (disch:=first|omega|simp only [lnS];try omega) [-getElem?_pos,-getElem?_neg])
 ·have hnr:numR L.length k=-1:=by unfold numR;rw [decide_eq_false hn,Bool.and_false];rfl
  rw [hnr,fol_raw hn]
  rw [decide_eq_false hn]at hsh
  (refine aoo fun K hK=>?_;simp (disch:=first|omega|simp only [lnS];try omega) [-getElem?_pos,-getElem?_neg];refine hK _ _ ?_;clear hK K)
  refine awt (by simp<;>omega) ?_
  refine aso fun K hK=>?_
  simp (disch:=first|omega|simp only [lnS];try omega) [-getElem?_pos,-getElem?_neg,-xload,ldk,-notTuple]
  refine⟨by kernel_rfl,ac_of_rc hsh (by simp [pv_iv,pv_int,pv_bool,pv_string,pv_tup2,pv_tup3,iv_plain,p2_int,p2_bool,p2_string]) ?_⟩
  try simp (disch:=first|omega|simp only [lnS];try omega) [-getElem?_pos,-getElem?_neg,-notTuple]
  refine hK _ _ ?_;clear hK K
  (refine aw_ret ?_;simp (disch:=first|omega|simp only [lnS];try omega) [-getElem?_pos,-getElem?_neg])
theorem pub_rc{γ:Nat→Option Nat}{H:AH}{b kb:Nat}{tv sv:Value}{Ft Fs F:List Nat}{L:List (Value×TermD)}(h:RTblF H b tv sv Ft Fs F L){kn:List Bool}(hk:hget H kb=some ⟨bsC kn, 4,some 1⟩)(hl:kn.length=L.length)(hL:L.length≤1000000){k:List Int}(hk32:k.length=32)(hkb:By k) :
  AC Tryd.prog H.length γ 57 #[.pointer (some ⟨b,0,none⟩),.slice (some ⟨kb,0,none⟩) L.length L.length,.agg (iv .u8 k).toArray] H (fun v' _=>v'=.bool (fol kn k||pubK (L.map (·.2)) kn k)):=by
 have hpl:plain1 (.slice none 0 0)=true:=rfl
 have tk:(iv .u8 k).take 32=iv .u8 k:=tkL (by simp [hk32])
 have hrow1:setR (List.map (fun j=>(iv .u8 (zl 32))[j%32]?.getD undef) (List.range 32)) 0 (iv .u8 k)=iv .u8 k:=setR_all _ _ (by simp [hk32])
 obtain⟨G,hG⟩:∃G:AH,G=H++[some ⟨iv .u8 k, 41,none⟩]:=⟨_,rfl⟩
 have gk:hget G H.length=some ⟨iv .u8 k, 41,none⟩:=by rw [hG,hget_app0];rfl
 have hGl:G.length=H.length+1:=by rw [hG];simp
 have hGj:∀j,j<H.length→hget G j=hget H j:=fun j hj=>by rw [hG];exact hget_left hj
 have ldk:=key_load hk32 gk
 obtain⟨R,hR⟩:∃R:AH,R=G++[some ⟨iv .u8 k, 41,some 32⟩]:=⟨_,rfl⟩
 have gr:hget R G.length=some ⟨iv .u8 k, 41,some 32⟩:=by rw [hR,hget_app0];rfl
 have hRj:∀j,j<G.length→hget R j=hget G j:=fun j hj=>by rw [hR];exact hget_left hj
 have hRl:R.length=G.length+1:=by rw [hR];simp
 have hbd:=h.bound
 have hR2:RTblF R b tv sv Ft Fs F L:=h.low (fun j hj=>(hRj j (by have:=hbd j hj;omega)).trans (hGj j (hbd j hj))) (by omega)
 have hfi:=rfind_ac (nro:=H.length) (γ:=γ) hR2 (by omega) (x:=⟨3,⟨#[]⟩,[k]⟩) (wf_pub hk32 hkb) (keys1 hk32 gr) hL
 unfold tmRow at hfi
 have em:(⟨#[]⟩:ByteArray)=ByteArray.empty:=rfl
 rw [em]at hfi
 have em2:(⟨3,ByteArray.empty,[k]⟩:TermD)=⟨3,⟨#[]⟩,[k]⟩:=rfl
 obtain⟨D,hD⟩:∃D,D=(fol kn k||pubK (L.map (·.2)) kn k):=⟨_,rfl⟩
 rw [←hD]
 unfold pubK at hD
 refine ac_of_aw Tryd.func57 rfl Tryd.ntmps57 Tryd.results57 (by simp) ?_
 (refine aso fun K hK=>?_;simp (disch:=first|omega|simp only [lnS];try omega) [-getElem?_pos,-getElem?_neg,tk,hk32];refine hK _ _ ?_;clear hK K)
 rw [←hG]
 clear hG
 refine aso fun K hK=>?_
 simp (disch:=first|omega|simp only [lnS];try omega) [-getElem?_pos,-getElem?_neg,-xload,ldk,hk32,tk,hrow1,hpl,-notTuple]
 rw [←hR]
 refine⟨by kernel_rfl,AC.mono hfi ?_⟩
 rintro v1 G2 ⟨rfl,lw2⟩
 try simp (disch:=first|omega|simp only [lnS];try omega) [-getElem?_pos,-getElem?_neg,-notTuple]
 refine hK _ _ ?_;clear hK K
 have gkb:hget G2 kb=some ⟨bsC kn, 4,some 1⟩:=(lw2.1 _ (by have:=hget_lt hk;omega)).trans ((hRj _ (by have:=hget_lt hk;omega)).trans ((hGj _ (hget_lt hk)).trans hk))
 have h2:RTblF G2 b tv sv Ft Fs F L:=hR2.low (fun j hj=>lw2.1 j (hR2.bound j hj)) lw2.2
 have gk2:=(lw2.1 _ (by omega)).trans ((hRj _ (hget_lt gk)).trans gk)
 have ldk2:=key_load hk32 gk2
 have hha:=has_rc (γ:=γ) h2 gkb hl hL hk32 hkb
 unfold posI
 refine aso fun K hK=>?_
 simp (disch:=first|omega|simp only [lnS];try omega) [-getElem?_pos,-getElem?_neg,-xload,ldk2,-notTuple]
 refine⟨by kernel_rfl,ac_of_rc hha (by simp [pv_iv,pv_int,pv_bool,pv_string,pv_tup2,pv_tup3,iv_plain,p2_int,p2_bool,p2_string]) ?_⟩
 cases hf:fol kn k with
 | true=>
  have hD2:D=true:=by rw [hD,hf];rfl
  clear hD;subst hD2
  try simp (disch:=first|omega|simp only [lnS];try omega) [-getElem?_pos,-getElem?_neg,-notTuple]
  refine hK _ _ ?_;clear hK K
  (refine aw_ret ?_;simp (disch:=first|omega|simp only [lnS];try omega) [-getElem?_pos,-getElem?_neg])
 | false=>
  cases hp:placeT ⟨3,⟨#[]⟩,[k]⟩ (L.map (·.2)) with
  | none=>
   have hD2:D=false:=by rw [hD,hf,hp];rfl
   clear hD;subst hD2
   try simp (disch:=first|omega|simp only [lnS];try omega) [-getElem?_pos,-getElem?_neg,-notTuple,em,em2,hp]
   refine hK _ _ ?_;clear hK K
   (refine aw_ret ?_;simp (disch:=first|omega|simp only [lnS];try omega) [-getElem?_pos,-getElem?_neg])
  | some p=>
   have hpl2:p<L.length:=by
    have:=idxS_some hp
    have:=(gsI.1 this).1
    simpa using this
   have ad:=bs_addr (kb:=kb) hpl2
   have ld:=bs_load (i:=p) (by omega) gkb
   have hD2:D=kw kn p:=by rw [hD,hf,hp];rfl
   clear hD;subst hD2
   generalize kw kn p=bo at *
   try simp (disch:=first|omega|simp only [lnS];try omega) [-getElem?_pos,-getElem?_neg,-notTuple,em,em2,hp,-xindexAddr,ad,-xload,ld]
   refine hK _ _ ?_;clear hK K
   (refine aw_ret ?_;simp (disch:=first|omega|simp only [lnS];try omega) [-getElem?_pos,-getElem?_neg])
theorem made_rc{γ:Nat→Option Nat}{H:AH}{b kb:Nat}{tv sv:Value}{Ft Fs F:List Nat}{L:List (Value×TermD)}(h:RTblF H b tv sv Ft Fs F L){kn:List Bool}(hk:hget H kb=some ⟨bsC kn, 4,some 1⟩)(hl:kn.length=L.length)(hL:L.length≤1000000){i:Nat}{p:Value×TermD}(hi:L[i]?=some p)(h0:p.2.kind≠0) :
  AC Tryd.prog H.length γ 37 #[.pointer (some ⟨b,0,none⟩),.slice (some ⟨kb,0,none⟩) L.length L.length,.int .i64 (i:Nat)] H (fun v' _=>v'=.bool (mks (L.map (·.2)) kn p.2)):=by
 obtain⟨kv,x⟩:=p
 have hw:x.Wf:=h.wf _ (moG hi)
 obtain⟨a1,a2,a3,a4⟩:=h.at_ hi
 have hgb:=h.hb
 have hs2:=ownF_nt h.rows
 simp only at a4 h0 ⊢
 rw [show tmRow kv x=[.int .i64 (x.kind:Nat),.string x.text,kv] from rfl]at a4
 have hkv0:KsV H kv x.keys:=h.keys _ (moG hi) H (fun _ _=>rfl)
 obtain⟨hnt2,hvc2⟩:=val_nt hkv0
 obtain⟨G,hG⟩:∃G:AH,G=H++[some ⟨[.int .i64 (x.kind:Nat),.string x.text,kv], 92,none⟩]:=⟨_,rfl⟩
 have gz:hget G H.length=some ⟨[.int .i64 (x.kind:Nat),.string x.text,kv], 92,none⟩:=by rw [hG,hget_app0];rfl
 have hGj:∀j,j<H.length→hget G j=hget H j:=fun j hj=>by rw [hG];exact hget_left hj
 have hGl:G.length=H.length+1:=by rw [hG];simp
 have hT:RTblF G b tv sv Ft Fs F L:=h.low (fun j hj=>hGj j (h.bound j hj)) (by omega)
 have hkG:hget G kb=some ⟨bsC kn, 4,some 1⟩:=(hGj _ (hget_lt hk)).trans hk
 have ldt:xload Tryd.prog 30 (.pointer (some ⟨b,0,none⟩)) H=some tv:=by simp [xload,hgb]
 have ld0:xload Tryd.prog 3 (.pointer (some ⟨H.length,0,none⟩)) G=some (.int .i64 (x.kind:Nat)):=by simp [xload,gz]
 have ld2:xload Tryd.prog 34 (.pointer (some ⟨H.length,2,none⟩)) G=some kv:=by simp [xload,gz]
 have hkv:KsV G kv x.keys:=h.keys _ (moG hi) G (fun j hj=>hGj j (h.lt j hj))
 obtain⟨hnt,hvc,hxl,hat⟩:=hkv.acc hw.k32
 have hm:=hw.many
 have r3:List.range 3=[0,1,2]:=rfl
 have hpl:plain1 (.slice none 0 0)=true:=rfl
 have hk6:=hw.kind
 have hha:=fun (k:List Int) (hk32:k.length=32) (hkb:By k)=>has_rc (γ:=γ) hT hkG hl hL hk32 hkb
 have hpu:=fun (k:List Int) (hk32:k.length=32) (hkb:By k)=>pub_rc (γ:=γ) hT hkG hl hL hk32 hkb
 refine ac_of_aw Tryd.func37 rfl Tryd.ntmps37 Tryd.results37 (by simp) ?_
 (refine aso fun K hK=>?_;simp (disch:=first|omega|simp only [lnS];try omega) [-getElem?_pos,-getElem?_neg];refine hK _ _ ?_;clear hK K)
 (refine aso fun K hK=>?_;simp (disch:=first|omega|simp only [lnS];try omega) [-getElem?_pos,-getElem?_neg,-xload,ldt,a4,-xindexAddr,a2,a3,hs2.1,hs2.2,hnt2,hvc2,-notTuple,r3,hpl];refine hK _ _ ?_;clear hK K)
 rw [←hG]
 clear hG
 refine aw_seq (aw_seq ?_)
 by_cases h1:x.kind=1
 ·have hm1:mks (L.map (·.2)) kn x=false:=by unfold mks;simp [h1]
  rw [hm1]
  (refine aoo fun K hK=>?_;simp (disch:=first|omega|simp only [lnS];try omega) [-getElem?_pos,-getElem?_neg,-xload,ld0,-notTuple,h1];refine hK _ _ ?_;clear hK K)
  refine awt (by simp<;>omega) ?_
  (refine aso fun K hK=>?_;simp (disch:=first|omega|simp only [lnS];try omega) [-getElem?_pos,-getElem?_neg];refine hK _ _ ?_;clear hK K)
  (refine aw_ret ?_;simp (disch:=first|omega|simp only [lnS];try omega) [-getElem?_pos,-getElem?_neg])
 have h1':¬ (x.kind:Int)=1:=by omega
 have h1b:((x.kind:Int)==1)=false:=by simp [h1']
 (refine aoo fun K hK=>?_;simp (disch:=first|omega|simp only [lnS];try omega) [-getElem?_pos,-getElem?_neg,-xload,ld0,-notTuple,h1',h1b];refine hK _ _ ?_;clear hK K)
 refine awf (by simp<;>omega) ?_
 refine aw_skip ?_
 refine aw_seq (aw_seq ?_)
 by_cases h4:x.kind=4
 ·have hk2:=hw.agree h4
  obtain⟨p0,x0,q1,q2,q3,rfl,q4⟩:=hat 0 (by omega)
  obtain⟨p1,x1,q11,q21,q31,rfl,q41⟩:=hat 1 (by omega)
  have q4:=q4 G (Low.refl (nlE _))
  have q2:xindexAddr Tryd.prog 34 kv (.int .i64 0)=some p0:=q2
  have q21:xindexAddr Tryd.prog 34 kv (.int .i64 1)=some p1:=q21
  have q41:=q41 G (Low.refl (nlE _))
  have m0:=getD_mem (l:=x.keys) (i:=0) (by omega)
  have m1:=getD_mem (l:=x.keys) (i:=1) (by omega)
  have ha0:=hha (x.keys.getD 0 []) (hw.k32 _ m0) (hw.by_ _ m0)
  have ha1:=hha (x.keys.getD 1 []) (hw.k32 _ m1) (hw.by_ _ m1)
  have hp0:=hpu (x.keys.getD 0 []) (hw.k32 _ m0) (hw.by_ _ m0)
  have hp1:=hpu (x.keys.getD 1 []) (hw.k32 _ m1) (hw.by_ _ m1)
  have t0:(iv .u8 (x.keys.getD 0 [])).take 32=iv .u8 (x.keys.getD 0 []):=tkL (by have:=hw.k32 _ m0;unfold iv;rw [List.length_map];omega)
  have t1:(iv .u8 (x.keys.getD 1 [])).take 32=iv .u8 (x.keys.getD 1 []):=tkL (by have:=hw.k32 _ m1;unfold iv;rw [List.length_map];omega)
  have hm4:mks (L.map (·.2)) kn x=(agrS (L.map (·.2)) kn (x.keys.getD 0 []) (x.keys.getD 1 [])||agrS (L.map (·.2)) kn (x.keys.getD 1 []) (x.keys.getD 0 [])):=by unfold mks;simp [h4,k0,k1]
  rw [hm4]
  unfold agrS
  generalize fol kn (x.keys.getD 0 [])=fa at *
  generalize fol kn (x.keys.getD 1 [])=fb at *
  generalize pubK (L.map (·.2)) kn (x.keys.getD 0 [])=pa at *
  generalize pubK (L.map (·.2)) kn (x.keys.getD 1 [])=pb at *
  generalize x.keys.getD 0 []=ka at *
  generalize x.keys.getD 1 []=kc at *
  (refine aoo fun K hK=>?_;simp (disch:=first|omega|simp only [lnS];try omega) [-getElem?_pos,-getElem?_neg,-xload,ld0,-notTuple,h4];refine hK _ _ ?_;clear hK K)
  refine awt (by simp<;>omega) ?_
  refine aw_seq ?_
  obtain⟨D,hD⟩:∃D,D=(fa&&(fb||pb)||fb&&(fa||pa)):=⟨_,rfl⟩
  rw [←hD]
  generalize hu:(fb||pb)=u at *
  generalize hv:(fa||pa)=v at *
  refine aoo fun K hK=>?_
  simp (disch:=first|omega|simp only [lnS];try omega) [-getElem?_pos,-getElem?_neg,-xload,ld2,q2,q4,-xindexAddr,hnt,q1,q3,t0,-notTuple]
  refine⟨by kernel_rfl,ac_of_rc ha0 (by simp [pv_iv,pv_int,pv_bool,pv_string,pv_tup2,pv_tup3,iv_plain,p2_int,p2_bool,p2_string]) ?_⟩
  cases fa with
  | true=>
   try simp (disch:=first|omega|simp only [lnS];try omega) [-getElem?_pos,-getElem?_neg,-xload,ld2,q21,q41,-xindexAddr,hnt,q11,q31,t1,-notTuple]
   refine⟨by kernel_rfl,ac_of_rc hp1 (by simp [pv_iv,pv_int,pv_bool,pv_string,pv_tup2,pv_tup3,iv_plain,p2_int,p2_bool,p2_string]) ?_⟩
   cases u with
   | true=>
    have hD2:D=true:=by rw [hD];rfl
    clear hD;subst hD2
    try simp (disch:=first|omega|simp only [lnS];try omega) [-getElem?_pos,-getElem?_neg,-notTuple]
    refine hK _ _ ?_;clear hK K
    (refine aw_ret ?_;simp (disch:=first|omega|simp only [lnS];try omega) [-getElem?_pos,-getElem?_neg])
   | false=>
    try simp (disch:=first|omega|simp only [lnS];try omega) [-getElem?_pos,-getElem?_neg,-xload,ld2,q21,q41,-xindexAddr,hnt,q11,q31,t1,-notTuple]
    refine⟨by kernel_rfl,ac_of_rc ha1 (by simp [pv_iv,pv_int,pv_bool,pv_string,pv_tup2,pv_tup3,iv_plain,p2_int,p2_bool,p2_string]) ?_⟩
    cases fb with
    | true=>
     try simp (disch:=first|omega|simp only [lnS];try omega) [-getElem?_pos,-getElem?_neg,-xload,ld2,q2,q4,-xindexAddr,hnt,q1,q3,t0,-notTuple]
     refine⟨by kernel_rfl,ac_of_rc hp0 (by simp [pv_iv,pv_int,pv_bool,pv_string,pv_tup2,pv_tup3,iv_plain,p2_int,p2_bool,p2_string]) ?_⟩
     have hD2:D=v:=by rw [hD];rfl
     clear hD;subst hD2
     try simp (disch:=first|omega|simp only [lnS];try omega) [-getElem?_pos,-getElem?_neg,-notTuple]
     refine hK _ _ ?_;clear hK K
     (refine aw_ret ?_;simp (disch:=first|omega|simp only [lnS];try omega) [-getElem?_pos,-getElem?_neg])
    | false=>
     have hD2:D=false:=by rw [hD];rfl
     clear hD;subst hD2
     try simp (disch:=first|omega|simp only [lnS];try omega) [-getElem?_pos,-getElem?_neg,-notTuple]
     refine hK _ _ ?_;clear hK K
     (refine aw_ret ?_;simp (disch:=first|omega|simp only [lnS];try omega) [-getElem?_pos,-getElem?_neg])
  | false=>
   try simp (disch:=first|omega|simp only [lnS];try omega) [-getElem?_pos,-getElem?_neg,-xload,ld2,q21,q41,-xindexAddr,hnt,q11,q31,t1,-notTuple]
   refine⟨by kernel_rfl,ac_of_rc ha1 (by simp [pv_iv,pv_int,pv_bool,pv_string,pv_tup2,pv_tup3,iv_plain,p2_int,p2_bool,p2_string]) ?_⟩
   cases fb with
   | true=>
    try simp (disch:=first|omega|simp only [lnS];try omega) [-getElem?_pos,-getElem?_neg,-xload,ld2,q2,q4,-xindexAddr,hnt,q1,q3,t0,-notTuple]
    refine⟨by kernel_rfl,ac_of_rc hp0 (by simp [pv_iv,pv_int,pv_bool,pv_string,pv_tup2,pv_tup3,iv_plain,p2_int,p2_bool,p2_string]) ?_⟩
    have hD2:D=v:=by rw [hD];rfl
    clear hD;subst hD2
    try simp (disch:=first|omega|simp only [lnS];try omega) [-getElem?_pos,-getElem?_neg,-notTuple]
    refine hK _ _ ?_;clear hK K
    (refine aw_ret ?_;simp (disch:=first|omega|simp only [lnS];try omega) [-getElem?_pos,-getElem?_neg])
   | false=>
    have hD2:D=false:=by rw [hD];rfl
    clear hD;subst hD2
    try simp (disch:=first|omega|simp only [lnS];try omega) [-getElem?_pos,-getElem?_neg,-notTuple]
    refine hK _ _ ?_;clear hK K
    (refine aw_ret ?_;simp (disch:=first|omega|simp only [lnS];try omega) [-getElem?_pos,-getElem?_neg])
 have h4':¬ (x.kind:Int)=4:=by omega
 have h4b:((x.kind:Int)==4)=false:=by simp [h4']
 have hmA:mks (L.map (·.2)) kn x=x.keys.all (fol kn):=by unfold mks;rw [if_pos (by omega)]
 rw [hmA]
 obtain⟨D,hD⟩:∃D,D=x.keys.all (fol kn):=⟨_,rfl⟩
 rw [←hD]
 (refine aoo fun K hK=>?_;simp (disch:=first|omega|simp only [lnS];try omega) [-getElem?_pos,-getElem?_neg,-xload,ld0,-notTuple,h4',h4b];refine hK _ _ ?_;clear hK K)
 refine awf (by simp<;>omega) ?_
 refine aw_skip ?_
 refine aw_seq (aw_seq ?_)
 (refine aoo fun K hK=>?_;simp (disch:=first|omega|simp only [lnS];try omega) [-getElem?_pos,-getElem?_neg];refine hK _ _ ?_;clear hK K)
 refine aw_block ?_
 refine aw_loop (fun c α R=>∃j:Nat,j+c=x.keys.length∧α 0=.pointer (some ⟨b,0,none⟩)∧α 1=.slice (some ⟨kb,0,none⟩) L.length L.length∧α 7=.pointer (some ⟨H.length,0,none⟩)∧α 8=.int .i64 (j:Nat)∧(x.keys.take j).all (fol kn)=true∧R=G) x.keys.length ?_ ?_
 ·exact⟨0,by omega,by (first|simp;done|rfl),by (first|simp;done|rfl),by (first|simp;done|rfl),by (first|simp;done|rfl),rfl,rfl⟩
 rintro c α R ⟨j,hjc,e0,e1,e7,e8,hall,rfl⟩
 refine aw_seq (aw_seq ?_)
 by_cases hj:j<x.keys.length
 ·have hj':(j:Int)<x.keys.length:=by omega
  obtain⟨pj,xj,q1,q2,q3,rfl,q4⟩:=hat j hj
  have q4:=q4 R (Low.refl (nlE _))
  have mj:=getD_mem (l:=x.keys) (i:=j) hj
  have hgj:x.keys[j]?=some (x.keys.getD j []):=by rw [gdD,geE hj];rfl
  have haj:=hha (x.keys.getD j []) (hw.k32 _ mj) (hw.by_ _ mj)
  have tj:(iv .u8 (x.keys.getD j [])).take 32=iv .u8 (x.keys.getD j []):=tkL (by have:=hw.k32 _ mj;unfold iv;rw [List.length_map];omega)
  generalize x.keys.getD j []=kj at *
  (refine aoo fun K hK=>?_;simp (disch:=first|omega|simp only [lnS];try omega) [-getElem?_pos,-getElem?_neg,e0,e1,e7,e8,-xload,ld2,-xlen,hxl,hnt,hj',-notTuple];refine hK _ _ ?_;clear hK K)
  refine awt (by simp<;>omega) ?_
  refine aw_skip (aw_seq ?_)
  refine aw_block ?_
  refine aso fun K hK=>?_
  simp (disch:=first|omega|simp only [lnS];try omega) [-getElem?_pos,-getElem?_neg,e0,e1,e7,e8,-xload,ld2,q2,q4,-xindexAddr,hnt,q1,q3,tj,-notTuple]
  refine⟨by kernel_rfl,ac_of_rc haj (by simp [pv_iv,pv_int,pv_bool,pv_string,pv_tup2,pv_tup3,iv_plain,p2_int,p2_bool,p2_string]) ?_⟩
  cases hf:fol kn kj with
  | true=>
   try simp (disch:=first|omega|simp only [lnS];try omega) [-getElem?_pos,-getElem?_neg,-notTuple]
   refine hK _ _ ?_;clear hK K
   refine awf (by simp<;>omega) ?_
   refine aw_skip ?_
   (refine aoo fun K hK=>?_;simp (disch:=first|omega|simp only [lnS];try omega) [-getElem?_pos,-getElem?_neg,e8];refine hK _ _ ?_;clear hK K)
   exact⟨c-1,by omega,j+1,by omega,by (first|simp [e0];done|rfl),by (first|simp [e1];done|rfl),by (first|simp [e7];done|rfl),by (first|simp;done|rfl),all_take hall hgj hf,rfl⟩
  | false=>
   have hD2:D=false:=hD.trans (all_no hgj hf)
   clear hD;subst hD2
   try simp (disch:=first|omega|simp only [lnS];try omega) [-getElem?_pos,-getElem?_neg,-notTuple]
   refine hK _ _ ?_;clear hK K
   refine awt (by simp<;>omega) ?_
   (refine aso fun K hK=>?_;simp (disch:=first|omega|simp only [lnS];try omega) [-getElem?_pos,-getElem?_neg];refine hK _ _ ?_;clear hK K)
   (refine aw_ret ?_;simp (disch:=first|omega|simp only [lnS];try omega) [-getElem?_pos,-getElem?_neg])
 ·obtain rfl:j=x.keys.length:=by omega
  rw [tkL (nlE _)]at hall
  have hD2:D=true:=hD.trans hall
  clear hD;subst hD2
  (refine aoo fun K hK=>?_;simp (disch:=first|omega|simp only [lnS];try omega) [-getElem?_pos,-getElem?_neg,e0,e1,e7,e8,-xload,ld2,-xlen,hxl,hnt,-notTuple];refine hK _ _ ?_;clear hK K)
  refine awf (by simp<;>omega) ?_
  refine aw_exit (aw_seq ?_)
  (refine aoo fun K hK=>?_;simp (disch:=first|omega|simp only [lnS];try omega) [-getElem?_pos,-getElem?_neg];refine hK _ _ ?_;clear hK K)
  (refine aw_ret ?_;simp (disch:=first|omega|simp only [lnS];try omega) [-getElem?_pos,-getElem?_neg])
end
section
def shw1(kn:List Bool)(i:Nat)(x:TermD)(u:Nat):Bool:=decide (x.kind=6)&&(kw kn u&&(fol kn (k0 x)&&decide (nmL i∈x.keys.drop 2)))
def shwS(T:List TermD)(kn:List Bool)(i:Nat):Bool:=(List.range T.length).any fun u=>shw1 kn i (trm T u) u
theorem mem_drop2{l:List (List Int)}{k:List Int}:k∈l.drop 2↔∃m,2≤m∧m<l.length∧l.getD m []=k:=by
 constructor
 ·intro h
  obtain⟨n,hn,rfl⟩:=List.getElem_of_mem h
  rw [List.length_drop]at hn
  refine⟨n+2,by omega,by omega,?_⟩
  rw [gdD,List.getElem_drop,geE (by omega)]
  simp [Nat.add_comm]
 ·rintro⟨m,h2,hm,rfl⟩
  rw [gdD,geE hm]
  have:l[m]=(l.drop 2)[m-2]'(by rw [List.length_drop];omega):=by
   rw [List.getElem_drop]
   congr 1
   omega
  simp only [Option.getD_some]
  rw [this]
  exact List.getElem_mem _
theorem any_yes{f:Nat→Bool}{j n:Nat}(h:j<n)(hj:f j=true):(List.range n).any f=true:=
 List.any_eq_true.2 ⟨j,List.mem_range.2 h,hj⟩
theorem shown_rc{γ:Nat→Option Nat}{H:AH}{b kb:Nat}{tv sv:Value}{Ft Fs F:List Nat}{L:List (Value×TermD)}(h:RTblF H b tv sv Ft Fs F L){kn:List Bool}(hk:hget H kb=some ⟨bsC kn, 4,some 1⟩)(hl:kn.length=L.length)(hL:L.length≤1000000){i:Nat}(hi:i≤1000000) :
  AC Tryd.prog H.length γ 38 #[.pointer (some ⟨b,0,none⟩),.slice (some ⟨kb,0,none⟩) L.length L.length,.int .i64 (i:Nat)] H (fun v' _=>v'=.bool (shwS (L.map (·.2)) kn i)):=by
 obtain⟨D,hD⟩:∃D,D=shwS (L.map (·.2)) kn i:=⟨_,rfl⟩
 rw [←hD]
 unfold shwS at hD
 rw [List.length_map]at hD
 have hs2:=ownF_nt h.rows
 obtain⟨_,htl⟩:=h.slen
 have hnm:∀G:AH,AC Tryd.prog G.length γ 49 #[.int .i64 (i:Nat)] G (fun v' _=>v'=.agg (iv .u8 (nmL (i:Nat))).toArray):=fun G=>rname_rc ⟨by omega,by omega⟩
 have hpl:plain1 (.slice none 0 0)=true:=rfl
 have r3:List.range 3=[0,1,2]:=rfl
 have hL9:L.length≤9223372036854775807:=by omega
 refine ac_of_aw Tryd.func38 rfl Tryd.ntmps38 Tryd.results38 (by simp) ?_
 (refine aso fun K hK=>?_;simp (disch:=first|omega|simp only [lnS];try omega) [-getElem?_pos,-getElem?_neg];refine hK _ _ ?_;clear hK K)
 refine aw_seq (aw_seq ?_)
 (refine aoo fun K hK=>?_;simp (disch:=first|omega|simp only [lnS];try omega) [-getElem?_pos,-getElem?_neg];refine hK _ _ ?_;clear hK K)
 refine aw_block ?_
 refine aw_loop (fun c α R=>∃u:Nat,u+c=L.length∧α 0=.pointer (some ⟨b,0,none⟩)∧α 1=.slice (some ⟨kb,0,none⟩) L.length L.length∧α 2=.int .i64 (i:Nat)∧α 7=.int .i64 (u:Nat)∧((List.range u).any fun u=>shw1 kn i (trm (L.map (·.2)) u) u)=false∧Low H.length H R) L.length ?_ ?_
 ·exact⟨0,by omega,by (first|simp;done|rfl),by (first|simp;done|rfl),by (first|simp;done|rfl),by (first|simp;done|rfl),rfl,Low.refl (nlE _)⟩
 rintro c α R ⟨u,huc,e0,e1,e2,e7,hno,lw⟩
 have hR:RTblF R b tv sv Ft Fs F L:=h.low (fun j hj=>lw.1 j (h.bound j hj)) lw.2
 have hgb:=hR.hb
 have ldt:xload Tryd.prog 30 (.pointer (some ⟨b,0,none⟩)) R=some tv:=by simp [xload,hgb]
 refine aw_seq (aw_seq ?_)
 by_cases hu:u<L.length
 case neg=>
  obtain rfl:u=L.length:=by omega
  have hD2:D=false:=hD.trans hno
  clear hD;subst hD2
  (refine aoo fun K hK=>?_;simp (disch:=first|omega|simp only [lnS];try omega) [-getElem?_pos,-getElem?_neg,e0,e7,-xload,ldt,-xlen,htl,hs2.1,hs2.2,-notTuple];refine hK _ _ ?_;clear hK K)
  refine awf (by simp<;>omega) ?_
  refine aw_exit (aw_seq ?_)
  (refine aoo fun K hK=>?_;simp (disch:=first|omega|simp only [lnS];try omega) [-getElem?_pos,-getElem?_neg];refine hK _ _ ?_;clear hK K)
  (refine aw_ret ?_;simp (disch:=first|omega|simp only [lnS];try omega) [-getElem?_pos,-getElem?_neg])
 have hu':(u:Int)<L.length:=by omega
 obtain⟨p,hp⟩:∃p,L[u]?=some p:=⟨_,geE hu⟩
 obtain⟨kv,x⟩:=p
 have htx:trm (L.map (·.2)) u=x:=trm_of (by rw [gmP,hp];rfl)
 have hw:x.Wf:=h.wf _ (moG hp)
 obtain⟨a1,a2,a3,a4⟩:=hR.at_ hp
 simp only at a4
 rw [show tmRow kv x=[.int .i64 (x.kind:Nat),.string x.text,kv] from rfl]at a4
 have hkv0:KsV R kv x.keys:=hR.keys _ (moG hp) R (fun _ _=>rfl)
 obtain⟨hnt2,hvc2⟩:=val_nt hkv0
 obtain⟨G,hG⟩:∃G:AH,G=R++[some ⟨[.int .i64 (x.kind:Nat),.string x.text,kv], 92,none⟩]:=⟨_,rfl⟩
 have gz:hget G R.length=some ⟨[.int .i64 (x.kind:Nat),.string x.text,kv], 92,none⟩:=by rw [hG,hget_app0];rfl
 have hGj:∀j,j<R.length→hget G j=hget R j:=fun j hj=>by rw [hG];exact hget_left hj
 have hGl:G.length=R.length+1:=by rw [hG];simp
 have lR:=lw.2
 have hT:RTblF G b tv sv Ft Fs F L:=hR.low (fun j hj=>hGj j (hR.bound j hj)) (by omega)
 have lkb:=hget_lt hk
 have hkG:hget G kb=some ⟨bsC kn, 4,some 1⟩:=(hGj _ (by omega)).trans ((lw.1 _ lkb).trans hk)
 have lwG:Low H.length H G:=⟨fun j hj=>(hGj j (by omega)).trans (lw.1 j hj),by omega⟩
 have ld0:xload Tryd.prog 3 (.pointer (some ⟨R.length,0,none⟩)) G=some (.int .i64 (x.kind:Nat)):=by simp [xload,gz]
 have ld2:xload Tryd.prog 34 (.pointer (some ⟨R.length,2,none⟩)) G=some kv:=by simp [xload,gz]
 have hkv:KsV G kv x.keys:=hT.keys _ (moG hp) G (fun _ _=>rfl)
 obtain⟨hnt,hvc,hxl,hat⟩:=hkv.acc hw.k32
 have hm:=hw.many
 have ad:=bs_addr (kb:=kb) hu
 have ldk:=bs_load (i:=u) (by omega) hkG
 have hno':(List.range (u+1)).any (fun u=>shw1 kn i (trm (L.map (·.2)) u) u)=shw1 kn i x u:=by
  rw [List.range_succ,List.any_append,hno]
  simp [htx]
 have hyes:shw1 kn i x u=true→D=true:=fun e=>by
  rw [hD]
  exact any_yes hu (by rw [htx];exact e)
 (refine aoo fun K hK=>?_;simp (disch:=first|omega|simp only [lnS];try omega) [-getElem?_pos,-getElem?_neg,e0,e7,-xload,ldt,-xlen,htl,hs2.1,hs2.2,hu',-notTuple];refine hK _ _ ?_;clear hK K)
 refine awt (by simp<;>omega) ?_
 refine aw_skip (aw_seq ?_)
 refine aw_block ?_
 (refine aso fun K hK=>?_;simp (disch:=first|omega|simp only [lnS];try omega) [-getElem?_pos,-getElem?_neg,e0,e7,-xload,ldt,a4,-xindexAddr,a2,a3,hs2.1,hs2.2,hnt2,hvc2,-notTuple,r3,hpl];refine hK _ _ ?_;clear hK K)
 rw [←hG]
 clear hG
 refine aw_seq (aw_seq ?_)
 by_cases h6:x.kind=6
 case neg=>
  have h6':¬ (x.kind:Int)=6:=by omega
  have h6b:((x.kind:Int)==6)=false:=by simp [h6']
  have hs0:shw1 kn i x u=false:=by unfold shw1;rw [decide_eq_false h6];rfl
  rw [hs0]at hno'
  (refine aoo fun K hK=>?_;simp (disch:=first|omega|simp only [lnS];try omega) [-getElem?_pos,-getElem?_neg,e0,e1,e7,-xload,ld0,-notTuple,h6',h6b];refine hK _ _ ?_;clear hK K)
  refine awt (by simp<;>omega) ?_
  refine aw_exit ?_
  (refine aoo fun K hK=>?_;simp (disch:=first|omega|simp only [lnS];try omega) [-getElem?_pos,-getElem?_neg,e7];refine hK _ _ ?_;clear hK K)
  exact⟨c-1,by omega,u+1,by omega,by (first|simp [e0];done|rfl),by (first|simp [e1];done|rfl),by (first|simp [e2];done|rfl),by (first|simp;done|rfl),hno',lwG⟩
 have h6i:(x.kind:Int)=6:=by omega
 cases hku:kw kn u with
 | false=>
  have hs0:shw1 kn i x u=false:=by unfold shw1;rw [hku];simp
  rw [hs0]at hno'
  rw [hku]at ldk
  (refine aoo fun K hK=>?_;simp (disch:=first|omega|simp only [lnS];try omega) [-getElem?_pos,-getElem?_neg,e0,e1,e7,-xload,ld0,ldk,-xindexAddr,ad,-notTuple,h6i];refine hK _ _ ?_;clear hK K)
  refine awt (by simp<;>omega) ?_
  refine aw_exit ?_
  (refine aoo fun K hK=>?_;simp (disch:=first|omega|simp only [lnS];try omega) [-getElem?_pos,-getElem?_neg,e7];refine hK _ _ ?_;clear hK K)
  exact⟨c-1,by omega,u+1,by omega,by (first|simp [e0];done|rfl),by (first|simp [e1];done|rfl),by (first|simp [e2];done|rfl),by (first|simp;done|rfl),hno',lwG⟩
 | true=>
  rw [hku]at ldk
  have hk2:=hw.seal_ h6
  obtain⟨p0,x0,q1,q2,q3,rfl,q4⟩:=hat 0 (by omega)
  have q4:=q4 G (Low.refl (nlE _))
  have q2:xindexAddr Tryd.prog 34 kv (.int .i64 0)=some p0:=q2
  have m0:=getD_mem (l:=x.keys) (i:=0) (by omega)
  have ha0:=has_rc (γ:=γ) hT hkG hl hL (hw.k32 _ m0) (hw.by_ _ m0)
  have t0:(iv .u8 (x.keys.getD 0 [])).take 32=iv .u8 (x.keys.getD 0 []):=tkL (by have:=hw.k32 _ m0;unfold iv;rw [List.length_map];omega)
  have hk0:k0 x=x.keys.getD 0 []:=rfl
  have hs1:shw1 kn i x u=(fol kn (x.keys.getD 0 [])&&decide (nmL i∈x.keys.drop 2)):=by unfold shw1;rw [decide_eq_true h6,hku,hk0];rfl
  rw [hs1]at hno' hyes
  generalize fol kn (x.keys.getD 0 [])=fa at *
  generalize x.keys.getD 0 []=ka at *
  refine aoo fun K hK=>?_
  simp (disch:=first|omega|simp only [lnS];try omega) [-getElem?_pos,-getElem?_neg,e0,e1,e7,-xload,ld0,ldk,-xindexAddr,ad,ld2,q2,q4,hnt,q1,q3,t0,-notTuple,h6i]
  refine⟨by kernel_rfl,ac_of_rc ha0 (by simp [pv_iv,pv_int,pv_bool,pv_string,pv_tup2,pv_tup3,iv_plain,p2_int,p2_bool,p2_string]) ?_⟩
  cases fa with
  | false=>
   try simp (disch:=first|omega|simp only [lnS];try omega) [-getElem?_pos,-getElem?_neg,-notTuple]
   refine hK _ _ ?_;clear hK K
   refine awt (by simp<;>omega) ?_
   refine aw_exit ?_
   (refine aoo fun K hK=>?_;simp (disch:=first|omega|simp only [lnS];try omega) [-getElem?_pos,-getElem?_neg,e7];refine hK _ _ ?_;clear hK K)
   exact⟨c-1,by omega,u+1,by omega,by (first|simp [e0];done|rfl),by (first|simp [e1];done|rfl),by (first|simp [e2];done|rfl),by (first|simp;done|rfl),by rw [hno'];rfl,lwG⟩
  | true=>
   rw [Bool.true_and]at hno' hyes
   try simp (disch:=first|omega|simp only [lnS];try omega) [-getElem?_pos,-getElem?_neg,-notTuple]
   refine hK _ _ ?_;clear hK K
   refine awf (by simp<;>omega) ?_
   refine aw_skip (aw_seq ?_)
   (refine aoo fun K hK=>?_;simp (disch:=first|omega|simp only [lnS];try omega) [-getElem?_pos,-getElem?_neg];refine hK _ _ ?_;clear hK K)
   refine aw_block ?_
   refine aw_loop (fun d β R2=>∃m:Nat,2≤m∧m+d=x.keys.length∧β 0=.pointer (some ⟨b,0,none⟩)∧β 1=.slice (some ⟨kb,0,none⟩) L.length L.length∧β 2=.int .i64 (i:Nat)∧β 7=.int .i64 (u:Nat)∧β 8=.pointer (some ⟨R.length,0,none⟩)∧β 9=.int .i64 (m:Nat)∧(∀t,2≤t→t<m→x.keys.getD t []≠nmL i)∧R2=G) (x.keys.length-2) ?_ ?_
   ·exact⟨2,by omega,by omega,by (first|simp [e0];done|rfl),by (first|simp [e1];done|rfl),by (first|simp [e2];done|rfl),by (first|simp [e7];done|rfl),by (first|simp;done|rfl),by (first|simp;done|rfl),fun t h1 h2=>by omega,rfl⟩
   clear e0 e1 e2 e7 α
   rintro d β R2 ⟨m,hm2,hmd,e0,e1,e2,e7,e8,e9,hpre,rfl⟩
   refine aw_seq (aw_seq ?_)
   by_cases hml:m<x.keys.length
   case neg=>
    have hnm0:nmL i∉x.keys.drop 2:=fun e=>by
     obtain⟨t,t1,t2,t3⟩:=mem_drop2.1 e
     exact hpre t t1 (by omega) t3
    rw [decide_eq_false hnm0]at hno'
    (refine aoo fun K hK=>?_;simp (disch:=first|omega|simp only [lnS];try omega) [-getElem?_pos,-getElem?_neg,e8,e9,-xload,ld2,-xlen,hxl,hnt,-notTuple,(show ¬ (m:Int)<x.keys.length by omega)];refine hK _ _ ?_;clear hK K)
    refine awf (by simp<;>omega) ?_
    refine aw_exit ?_
    (refine aoo fun K hK=>?_;simp (disch:=first|omega|simp only [lnS];try omega) [-getElem?_pos,-getElem?_neg,e7];refine hK _ _ ?_;clear hK K)
    exact⟨c-1,by omega,u+1,by omega,by (first|simp [e0];done|rfl),by (first|simp [e1];done|rfl),by (first|simp [e2];done|rfl),by (first|simp;done|rfl),hno',lwG⟩
   have hml':(m:Int)<x.keys.length:=by omega
   obtain⟨pm,xm,q1,q2,q3,rfl,q4⟩:=hat m hml
   have q4:=q4 R2 (Low.refl (nlE _))
   have mm:=getD_mem (l:=x.keys) (i:=m) hml
   have l32:=hw.k32 _ mm
   have ln32:(nmL (i:Nat)).length=32:=nmL_len _
   have hin:x.keys.getD m []=nmL i→nmL i∈x.keys.drop 2:=fun e=>mem_drop2.2 ⟨m,hm2,hml,e⟩
   obtain⟨km,hkm⟩:∃km,km=x.keys.getD m []:=⟨_,rfl⟩
   rw [←hkm]at q4 l32 hin
   (refine aoo fun K hK=>?_;simp (disch:=first|omega|simp only [lnS];try omega) [-getElem?_pos,-getElem?_neg,e8,e9,-xload,ld2,-xlen,hxl,hnt,-notTuple,hml'];refine hK _ _ ?_;clear hK K)
   refine awt (by simp<;>omega) ?_
   refine aw_skip (aw_seq ?_)
   refine aw_block ?_
   refine aw_seq ?_
   obtain⟨n,hn⟩:∃n:List Int,n=nmL (i:Nat):=⟨_,rfl⟩
   rw [←hn]at hin ln32
   by_cases hq:km=n
   ·have hqb:(km==n)=true:=by simp [hq]
    (refine aw_plan [] [] [0,1,2,3,4,5,6,7] 8 0 (by kernel_rfl) (by kernel_rfl) (by kernel_rfl) (fun K hK=>?_));simp only [sel,gcS,gdZ];simp (disch:=first|omega|simp only [lnS];try omega) [-getElem?_pos,-getElem?_neg,e2,e8,e9,-notTuple,hnt,q1,-xindexAddr,q2,-xload,ld2,q4,Nat.add_assoc]
    refine PLc_call (v:=.agg (iv .u8 n).toArray) (by kernel_rfl) (fun N hN=>by rw [hn];exact hnm _) (by simp [pv_iv,pv_int,pv_bool,pv_string,pv_tup2,pv_tup3,iv_plain,p2_int,p2_bool,p2_string]) ?_
    simp (disch:=first|omega|simp only [lnS];try omega) [-getElem?_pos,-getElem?_neg,l32,ln32,hq,hqb,Nat.add_assoc]
    refine hK _ _ ?_;clear hK K
    refine awt (by simp<;>omega) ?_
    (refine aso fun K hK=>?_;simp (disch:=first|omega|simp only [lnS];try omega) [-getElem?_pos,-getElem?_neg];refine hK _ _ ?_;clear hK K)
    have hD2:D=true:=hyes (by rw [decide_eq_true (hn▸hin hq)])
    clear hD;subst hD2
    (refine aw_ret ?_;simp (disch:=first|omega|simp only [lnS];try omega) [-getElem?_pos,-getElem?_neg])
   ·have hqb:(km==n)=false:=by simp [hq]
    (refine aw_plan [] [] [0,1,2,3,4,5,6,7] 8 0 (by kernel_rfl) (by kernel_rfl) (by kernel_rfl) (fun K hK=>?_));simp only [sel,gcS,gdZ];simp (disch:=first|omega|simp only [lnS];try omega) [-getElem?_pos,-getElem?_neg,e2,e8,e9,-notTuple,hnt,q1,-xindexAddr,q2,-xload,ld2,q4,Nat.add_assoc]
    refine PLc_call (v:=.agg (iv .u8 n).toArray) (by kernel_rfl) (fun N hN=>by rw [hn];exact hnm _) (by simp [pv_iv,pv_int,pv_bool,pv_string,pv_tup2,pv_tup3,iv_plain,p2_int,p2_bool,p2_string]) ?_
    simp (disch:=first|omega|simp only [lnS];try omega) [-getElem?_pos,-getElem?_neg,l32,ln32,hq,hqb,Nat.add_assoc]
    refine hK _ _ ?_;clear hK K
    refine awf (by simp<;>omega) ?_
    refine aw_skip ?_
    (refine aoo fun K hK=>?_;simp (disch:=first|omega|simp only [lnS];try omega) [-getElem?_pos,-getElem?_neg,e9];refine hK _ _ ?_;clear hK K)
    refine⟨d-1,by omega,m+1,by omega,by omega,by (first|simp [e0];done|rfl),by (first|simp [e1];done|rfl),by (first|simp [e2];done|rfl),by (first|simp [e7];done|rfl),by (first|simp [e8];done|rfl),by (first|simp;done|rfl),fun t h1 h2=>?_,rfl⟩
    by_cases et:t=m
    ·rw [et,←hkm,←hn]
     exact hq
    ·exact hpre t h1 (by omega)
end
section
theorem numR_cases{k:List Int}(hb:By k)(n:Nat):(∃p,pk k=some p∧p<n∧numR n k=(p:Nat))∨(numR n k=-1∧∀p,pk k=some p→¬ p<n):=by
 by_cases hn:nmL (plN k)=k
 ·have h0:0≤plN k:=by rw [←hn];exact pl_nm0 _
  have hpk:pk k=some (plN k).toNat:=by unfold pk;rw [if_pos hn]
  by_cases hlt:plN k<n
  ·refine .inl ⟨_,hpk,by omega,?_⟩
   unfold numR
   rw [decide_eq_true hlt,decide_eq_true hn]
   show plN k=_
   omega
  ·refine .inr ⟨by unfold numR;rw [decide_eq_false hlt];rfl,fun p hp=>?_⟩
   rw [hpk]at hp
   cases hp
   omega
 ·have hpk:pk k=none:=by unfold pk;rw [if_neg hn]
  exact .inr ⟨by unfold numR;rw [decide_eq_false hn,Bool.and_false];rfl,fun p hp=>by rw [hpk]at hp;cases hp⟩
theorem kle_anti{a b:List Bool}(hl:a.length=b.length)(h1:kle a b)(h2:kle b a):a=b:=by
 refine List.ext_getElem hl fun i h3 h4=>?_
 have e1:kw a i=a[i]:=by have:=kwR_get h3;rw [geE h3]at this;exact (Option.some.inj this).symm
 have e2:kw b i=b[i]:=by have:=kwR_get h4;rw [geE h4]at this;exact (Option.some.inj this).symm
 rw [←e1,←e2]
 cases ha:kw a i with
 | true=>rw [h1 i ha]
 | false=>
  cases hb:kw b i with
  | false=>rfl
  | true=>rw [h2 i hb]at ha;cases ha
structure FoI (n0:Nat) (H:AH) (T:List TermD) (ks:List (List Int)) (j:Nat) (kn:List Bool) (G:AH):Prop where
 len:kn.length=T.length
 low:Low H.length H G
 blk:hget G H.length=some ⟨bsC kn, 4,some 1⟩
 seed:∀k∈ks.take j,∀p,pk k=some p→p<T.length→kw kn p=true
 le:kle kn (folL T ks)
theorem fo_end{H:AH}{T:List TermD}{ks:List (List Int)}{kn:List Bool}{G:AH}{n0:Nat}(hm:T.length≤1000000)(h:FoI n0 H T ks ks.length kn G)(hC:Cl T kn):kn=folL T ks:=by
 refine kle_anti (h.len.trans (fol_len T ks).symm) h.le (fol_sound hm hC ?_)
 intro k hk
 exact h.seed k (by rw [tkL (nlE _)];exact hk)
theorem cl_of{T:List TermD}{kn:List Bool}(hm:T.length≤1000000)(h:∀w,w<T.length→kw kn w=false→mks T kn (trm T w)=false∧shwS T kn w=false):Cl T kn:=by
 refine⟨fun i hi hmk=>?_,fun i hi h6 hk hf k hkm p hp hpl=>?_⟩
 ·cases e:kw kn i with
  | true=>rfl
  | false=>rw [(h i hi e).1]at hmk;cases hmk
 ·cases e:kw kn p with
  | true=>rfl
  | false=>
   have:=(h p hpl e).2
   have hy:shwS T kn p=true:=by
    unfold shwS
    refine any_yes hi ?_
    unfold shw1
    rw [decide_eq_true h6,hk,hf,pk_some hp,decide_eq_true hkm]
    rfl
   rw [hy]at this
   cases this
theorem fo_le{T:List TermD}(hT:TWf T){ks:List (List Int)}{kn:List Bool}(hle:kle kn (folL T ks)){u:Nat}(hu:u<T.length)(hl:kn.length=T.length)(h:mks T kn (trm T u)=true∨shwS T kn u=true):kle (kn.set u true) (folL T ks):=by
 have hC:=fol_closed hT ks
 have hm:=hT.len
 have hku:kw (folL T ks) u=true:=by
  rcases h with h | h
  ·exact hC.made u hu (mks_mono hle h)
  ·unfold shwS at h
   obtain⟨w,hw,h⟩:=List.any_eq_true.1 h
   unfold shw1 at h
   simp only [Bool.and_eq_true,decide_eq_true_eq]at h
   exact hC.shown w (List.mem_range.1 hw) h.1 (hle w h.2.1) (fol_mono hle h.2.2.1) _ h.2.2.2 u (pk_nm (by omega)) hu
 intro p hp
 rw [kw_set (by omega)]at hp
 by_cases e:p=u
 ·rw [e];exact hku
 ·rw [decide_eq_false e,Bool.false_or]at hp
  exact hle p hp
def RFolQ(H:AH)(T:List TermD)(ks:List (List Int))(v':Value)(H':AH):Prop:=
 v'=.slice (some ⟨H.length,0,none⟩) T.length T.length∧Low H.length H H'∧hget H' H.length=some ⟨bsC (folL T ks), 4,some 1⟩
theorem rfollow_ac{nro:Nat}{γ:Nat→Option Nat}{H:AH}{b:Nat}{tv sv:Value}{Ft Fs F:List Nat}{L:List (Value×TermD)}(h:RTblF H b tv sv Ft Fs F L)(hnH:nro≤H.length)(hW:TWf (L.map (·.2)))(h0:∀x∈L.map (·.2),x.kind≠0){v:Value}{ks:List (List Int)}(hK:KsV H v ks)(hk:∀k∈ks,k.length=32)(hkb:∀k∈ks,By k)(hkm:ks.length≤1000000) :
  AC Tryd.prog nro γ 18 #[.pointer (some ⟨b,0,none⟩),v] H (RFolQ H (L.map (·.2)) ks):=by
 obtain⟨T,hT⟩:∃T,T=L.map (·.2):=⟨_,rfl⟩
 have hTl:T.length=L.length:=by rw [hT];simp
 rw [←hT]at hW h0 ⊢
 have hLm:L.length≤1000000:=by have:=hW.len;omega
 have hTm:T.length≤1000000:=by omega
 obtain⟨hnt,hcs,hxl,hat⟩:=hK.acc hk
 obtain⟨_,htl⟩:=h.slen
 have hs2:=ownF_nt h.rows
 have hgb:=h.hb
 have hbd:=h.bound
 have ldt:xload Tryd.prog 30 (.pointer (some ⟨b,0,none⟩)) H=some tv:=by simp [xload,hgb]
 have hzb:=zero_bools L.length
 have hnl:(L.length:Int)≤maxLen:=by simp only [maxLen];omega
 obtain⟨G0,hG0⟩:∃G0:AH,G0=H++[some ⟨bsC (List.replicate L.length false), 4,some 1⟩]:=⟨_,rfl⟩
 have hI0:FoI nro H T ks 0 (List.replicate L.length false) G0:=⟨by simp [hTl],⟨fun j hj=>by rw [hG0];exact hget_left hj,by rw [hG0];simp⟩,by rw [hG0,hget_app0];rfl,fun k hk=>by simp at hk,zero_le _ _⟩
 have hset:∀ (G:AH) (kn:List Bool) (p j:Nat),FoI nro H T ks j kn G→∀j',(∀k∈ks.take j',∀q,pk k=some q→q<T.length→kw (kn.set p true) q=true)→kle (kn.set p true) (folL T ks)→FoI nro H T ks j' (kn.set p true) (G.set H.length (some ⟨(bsC kn).set p (.bool true), 4,some 1⟩)):=fun G kn p j hI j' hs hle=>by
  refine⟨by simp [hI.len],⟨fun q hq=>(hget_set_ne (by omega)).trans (hI.low.1 q hq),by have:=hI.low.2;simpa using this⟩,?_,hs,hle⟩
  rw [hget_set_eq (hget_lt hI.blk),←setR_one,bsC_set]
 refine ac_of_aw Tryd.func18 rfl Tryd.ntmps18 Tryd.results18 (by simp) ?_
 (refine aso fun K hK=>?_;simp (disch:=first|omega|simp only [lnS];try omega) [-getElem?_pos,-getElem?_neg];refine hK _ _ ?_;clear hK K)
 (refine aso fun K hK=>?_;simp (disch:=first|omega|simp only [lnS];try omega) [-getElem?_pos,-getElem?_neg,-xload,ldt,-xlen,htl,hs2.1,hs2.2,hzb,hnl,-notTuple];refine hK _ _ ?_;clear hK K)
 rw [←hG0]
 clear hG0
 refine aw_seq (aw_seq ?_)
 (refine aoo fun K hK=>?_;simp (disch:=first|omega|simp only [lnS];try omega) [-getElem?_pos,-getElem?_neg];refine hK _ _ ?_;clear hK K)
 refine aw_block ?_
 refine aw_loop (fun c α G=>∃ (j:Nat) (kn:List Bool),j+c=ks.length∧α 0=.pointer (some ⟨b,0,none⟩)∧α 1=v∧α 5=.slice (some ⟨H.length,0,none⟩) L.length L.length∧α 6=.int .i64 (j:Nat)∧FoI nro H T ks j kn G) ks.length ?_ ?_
 ·exact⟨0,_,by omega,by (first|simp;done|rfl),by (first|simp;done|rfl),by (first|simp;done|rfl),by (first|simp;done|rfl),hI0⟩
 rintro c α G ⟨j,kn,hjc,e0,e1,e5,e6,hI⟩
 have hTG:RTblF G b tv sv Ft Fs F L:=h.low (fun j hj=>hI.low.1 j (hbd j hj)) hI.low.2
 have hlG:=hget_lt hI.blk
 have hkl:=hI.len
 refine aw_seq (aw_seq ?_)
 by_cases hj:j<ks.length
 ·have hj':(j:Int)<ks.length:=by omega
  obtain⟨pj,xj,q1,q2,q3,rfl,q4⟩:=hat j hj
  have q4:=q4 G hI.low
  have mj:=getD_mem (l:=ks) (i:=j) hj
  have hgj:ks[j]?=some (ks.getD j []):=by rw [gdD,geE hj];rfl
  have k32:=hk _ mj
  have kby:=hkb _ mj
  obtain⟨k,hkk⟩:∃k,k=ks.getD j []:=⟨_,rfl⟩
  rw [←hkk]at q4 mj hgj k32 kby
  have tj:(iv .u8 k).take 32=iv .u8 k:=tkL (by unfold iv;rw [List.length_map];omega)
  have hnum:=rnum_rc (γ:=γ) (H:=G) hTG.hb htl hs2.1 hs2.2 k32 kby
  have htk:ks.take (j+1)=ks.take j++[k]:=by rw [List.take_add_one,hgj];rfl
  (refine aoo fun K hK=>?_;simp (disch:=first|omega|simp only [lnS];try omega) [-getElem?_pos,-getElem?_neg,e1,e6,-xlen,hxl,hnt,hcs,hj',-notTuple];refine hK _ _ ?_;clear hK K)
  refine awt (by simp<;>omega) ?_
  refine aw_skip (aw_seq ?_)
  refine aw_block ?_
  refine aso fun K hK=>?_
  simp (disch:=first|omega|simp only [lnS];try omega) [-getElem?_pos,-getElem?_neg,e0,e1,e6,-xload,q2,q4,-xindexAddr,hnt,q1,q3,tj,-notTuple]
  refine⟨by kernel_rfl,ac_of_rc hnum (by simp [pv_iv,pv_int,pv_bool,pv_string,pv_tup2,pv_tup3,iv_plain,p2_int,p2_bool,p2_string]) ?_⟩
  try simp (disch:=first|omega|simp only [lnS];try omega) [-getElem?_pos,-getElem?_neg,-notTuple]
  refine hK _ _ ?_;clear hK K
  refine aw_seq ?_
  rcases numR_cases kby L.length with ⟨p,hp,hpl,hnr⟩ | ⟨hnr,hno⟩
  ·rw [hnr]
   have hpG:(0:Int)≤(p:Nat):=by omega
   have hbl:(bsC kn).length=L.length:=by simp [bsC];omega
   have hgk:=hI.blk
   have hle:kle (kn.set p true) (folL T ks):=fun q hq=>by
    rw [kw_set (by omega)]at hq
    by_cases e:q=p
    ·rw [e];exact fol_seen (hkk▸getD_mem hj) hp (by omega)
    ·rw [decide_eq_false e,Bool.false_or]at hq
     exact hI.le q hq
   have hI2:=hset G kn p j hI (j+1) (fun k' hk' q hq hql=>by
    rw [kw_set (by omega)]
    rw [htk]at hk'
    rcases maP.1 hk' with h1 | h1
    ·rw [hI.seed k' h1 q hq hql,Bool.or_true]
    ·rw [msG.1 h1,hp]at hq
     cases hq
     simp) hle
   (refine aoo fun K hK=>?_;simp (disch:=first|omega|simp only [lnS];try omega) [-getElem?_pos,-getElem?_neg,hpG];refine hK _ _ ?_;clear hK K)
   refine awt (by simp<;>omega) ?_
   (refine aoo fun K hK=>?_;simp (disch:=first|omega|simp only [lnS];try omega) [-getElem?_pos,-getElem?_neg,e5,hgk,hlG,hnH,hbl,hpl,-notTuple];refine hK _ _ ?_;clear hK K)
   (refine aoo fun K hK=>?_;simp (disch:=first|omega|simp only [lnS];try omega) [-getElem?_pos,-getElem?_neg,e6];refine hK _ _ ?_;clear hK K)
   exact⟨c-1,by omega,j+1,_,by omega,by (first|simp [e0];done|rfl),by (first|simp [e1];done|rfl),by (first|simp [e5];done|rfl),by (first|simp;done|rfl),hI2⟩
  ·rw [hnr]
   (refine aoo fun K hK=>?_;simp (disch:=first|omega|simp only [lnS];try omega) [-getElem?_pos,-getElem?_neg];refine hK _ _ ?_;clear hK K)
   refine awf (by simp<;>omega) ?_
   refine aw_skip ?_
   (refine aoo fun K hK=>?_;simp (disch:=first|omega|simp only [lnS];try omega) [-getElem?_pos,-getElem?_neg,e6];refine hK _ _ ?_;clear hK K)
   refine⟨c-1,by omega,j+1,kn,by omega,by (first|simp [e0];done|rfl),by (first|simp [e1];done|rfl),by (first|simp [e5];done|rfl),by (first|simp;done|rfl),hI.len,hI.low,hI.blk,fun k' hk' q hq hql=>?_,hI.le⟩
   rw [htk]at hk'
   rcases maP.1 hk' with h1 | h1
   ·exact hI.seed k' h1 q hq hql
   ·rw [msG.1 h1]at hq
    exact absurd (hTl▸hql) (hno q hq)
 obtain rfl:j=ks.length:=by omega
 (refine aoo fun K hK=>?_;simp (disch:=first|omega|simp only [lnS];try omega) [-getElem?_pos,-getElem?_neg,e1,e6,-xlen,hxl,hnt,hcs,-notTuple];refine hK _ _ ?_;clear hK K)
 refine awf (by simp<;>omega) ?_
 refine aw_exit ?_
 refine aw_seq (aw_seq ?_)
 (refine aoo fun K hK=>?_;simp (disch:=first|omega|simp only [lnS];try omega) [-getElem?_pos,-getElem?_neg];refine hK _ _ ?_;clear hK K)
 refine aw_block ?_
 clear hTG hlG
 refine aw_loop (fun c β G=>∃ (ch:Bool) (kn:List Bool),c=kn.count false+(if ch then 1 else 0)∧β 0=.pointer (some ⟨b,0,none⟩)∧β 5=.slice (some ⟨H.length,0,none⟩) L.length L.length∧β 8=.bool ch∧(ch=false→Cl T kn)∧FoI nro H T ks ks.length kn G) (kn.count false+1) ?_ ?_
 ·exact⟨true,kn,rfl,by (first|simp [e0];done|rfl),by (first|simp [e5];done|rfl),by (first|simp;done|rfl),(by intro e;cases e),hI⟩
 clear hI hkl e0 e1 e5 e6 α G kn
 rintro c1 α G ⟨ch,kn,rfl,e0,e5,e8,hcl,hI⟩
 refine aw_seq (aw_seq ?_)
 cases ch with
 | false=>
  have hend:=fo_end hTm hI (hcl rfl)
  have hbk:=hI.blk
  rw [hend]at hbk
  (refine aoo fun K hK=>?_;simp (disch:=first|omega|simp only [lnS];try omega) [-getElem?_pos,-getElem?_neg,e8,-notTuple];refine hK _ _ ?_;clear hK K)
  refine awf (by simp<;>omega) ?_
  refine aw_exit (aw_seq ?_)
  (refine aoo fun K hK=>?_;simp (disch:=first|omega|simp only [lnS];try omega) [-getElem?_pos,-getElem?_neg,e5,-notTuple];refine hK _ _ ?_;clear hK K)
  (refine aw_ret ?_;simp (disch:=first|omega|simp only [lnS];try omega) [-getElem?_pos,-getElem?_neg,-notTuple])
  exact⟨by rw [hTl],hI.low,hbk⟩
 | true=>
  (refine aoo fun K hK=>?_;simp (disch:=first|omega|simp only [lnS];try omega) [-getElem?_pos,-getElem?_neg,e8,-notTuple];refine hK _ _ ?_;clear hK K)
  refine awt (by simp<;>omega) ?_
  refine aw_skip ?_
  refine aw_block ?_
  (refine aso fun K hK=>?_;simp (disch:=first|omega|simp only [lnS];try omega) [-getElem?_pos,-getElem?_neg];refine hK _ _ ?_;clear hK K)
  (refine aso fun K hK=>?_;simp (disch:=first|omega|simp only [lnS];try omega) [-getElem?_pos,-getElem?_neg];refine hK _ _ ?_;clear hK K)
  refine aw_block ?_
  refine aw_loop (fun c β G=>∃ (u:Nat) (ch:Bool) (kn':List Bool),u+c=L.length∧β 0=.pointer (some ⟨b,0,none⟩)∧β 5=.slice (some ⟨H.length,0,none⟩) L.length L.length∧β 8=.bool ch∧β 9=.int .i64 (u:Nat)∧(ch=false→kn'=kn∧∀w,w<u→kw kn w=false→mks T kn (trm T w)=false∧shwS T kn w=false)∧(ch=true→kn'.count false<kn.count false)∧FoI nro H T ks ks.length kn' G) L.length ?_ ?_
  ·exact⟨0,false,kn,by omega,by (first|simp [e0];done|rfl),by (first|simp [e5];done|rfl),by (first|simp;done|rfl),by (first|simp;done|rfl),fun _=>⟨rfl,fun w hw=>by omega⟩,(by intro e;cases e),hI⟩
  clear hI hcl e0 e5 e8 α G
  rintro c α G ⟨u,ch,kn',huc,e0,e5,e8,e9,hcf,hct,hI⟩
  have hTG:RTblF G b tv sv Ft Fs F L:=h.low (fun j hj=>hI.low.1 j (hbd j hj)) hI.low.2
  have hlG:=hget_lt hI.blk
  have hkl:=hI.len
  have hgbG:=hTG.hb
  have ldtG:xload Tryd.prog 30 (.pointer (some ⟨b,0,none⟩)) G=some tv:=by simp [xload,hgbG]
  refine aw_seq (aw_seq ?_)
  by_cases hu:u<L.length
  case neg=>
   obtain rfl:u=L.length:=by omega
   (refine aoo fun K hK=>?_;simp (disch:=first|omega|simp only [lnS];try omega) [-getElem?_pos,-getElem?_neg,e0,e9,-xload,ldtG,-xlen,htl,hs2.1,hs2.2,-notTuple];refine hK _ _ ?_;clear hK K)
   refine awf (by simp<;>omega) ?_
   refine aw_exit ?_
   cases ch with
   | true=>exact⟨kn'.count false+1,by have:=hct rfl;simp;omega,true,kn',rfl,by (first|simp [e0];done|rfl),by (first|simp [e5];done|rfl),by (first|simp [e8];done|rfl),(by intro e;cases e),hI⟩
   | false=>
    obtain⟨rfl,hcc⟩:=hcf rfl
    exact⟨kn'.count false,by simp,false,kn',rfl,by (first|simp [e0];done|rfl),by (first|simp [e5];done|rfl),by (first|simp [e8];done|rfl),fun _=>cl_of hTm (fun w hw=>hcc w (by omega)),hI⟩
  have hu':(u:Int)<L.length:=by omega
  have hbk:=hI.blk
  have ad:=bs_addr (kb:=H.length) hu
  have ld:=bs_load (i:=u) (by omega) hbk
  obtain⟨p,hp⟩:∃p,L[u]?=some p:=⟨_,geE hu⟩
  have htx:trm T u=p.2:=trm_of (by rw [hT,gmP,hp];rfl)
  have hp0:p.2.kind≠0:=h0 _ (by rw [hT];exact List.mem_map.2 ⟨p,moG hp,rfl⟩)
  have hmd:=made_rc (γ:=γ) hTG hbk (by omega) hLm hp hp0
  have hsh:=shown_rc (γ:=γ) hTG hbk (by omega) hLm (i:=u) (by omega)
  rw [←hT,←htx]at hmd
  rw [←hT]at hsh
  (refine aoo fun K hK=>?_;simp (disch:=first|omega|simp only [lnS];try omega) [-getElem?_pos,-getElem?_neg,e0,e9,-xload,ldtG,-xlen,htl,hs2.1,hs2.2,hu',-notTuple];refine hK _ _ ?_;clear hK K)
  refine awt (by simp<;>omega) ?_
  refine aw_skip (aw_seq ?_)
  refine aw_block ?_
  refine aw_seq ?_
  have hgo:∀G',G'=G→True:=fun _ _=>trivial
  cases hku:kw kn' u with
  | true=>
   rw [hku]at ld
   (refine aoo fun K hK=>?_;simp (disch:=first|omega|simp only [lnS];try omega) [-getElem?_pos,-getElem?_neg,e0,e5,e9,-xload,ld,-xindexAddr,ad,-notTuple];refine hK _ _ ?_;clear hK K)
   refine awf (by simp<;>omega) ?_
   refine aw_skip ?_
   (refine aoo fun K hK=>?_;simp (disch:=first|omega|simp only [lnS];try omega) [-getElem?_pos,-getElem?_neg,e9];refine hK _ _ ?_;clear hK K)
   refine⟨c-1,by omega,u+1,ch,kn',by omega,by (first|simp [e0];done|rfl),by (first|simp [e5];done|rfl),by (first|simp [e8];done|rfl),by (first|simp;done|rfl),fun e=>?_,hct,hI⟩
   obtain⟨rfl,hcc⟩:=hcf e
   refine⟨rfl,fun w hw hkw=>?_⟩
   by_cases ew:w=u
   ·rw [ew,hku]at hkw;cases hkw
   ·exact hcc w (by omega) hkw
  | false=>
   rw [hku]at ld
   have hbl:(bsC kn').length=L.length:=by simp [bsC];omega
   have hnew:mks T kn' (trm T u)=true∨shwS T kn' u=true→∃G2,G2=G.set H.length (some ⟨(bsC kn').set u (.bool true), 4,some 1⟩)∧FoI nro H T ks ks.length (kn'.set u true) G2∧(kn'.set u true).count false<kn.count false:=fun e=>by
    refine⟨_,rfl,hset G kn' u ks.length hI ks.length (fun k hk q hq hql=>?_) (fo_le hW hI.le (by omega) hkl e),?_⟩
    ·rw [kw_set (by omega),hI.seed k hk q hq hql,Bool.or_true]
    ·have:=count_set (kn:=kn') (p:=u) (by omega) hku
     cases ch with
     | true=>have:=hct rfl;omega
     | false=>obtain⟨rfl,_⟩:=hcf rfl;omega
   refine aoo fun K hK=>?_
   simp (disch:=first|omega|simp only [lnS];try omega) [-getElem?_pos,-getElem?_neg,e0,e5,e9,-xload,ld,-xindexAddr,ad,-notTuple]
   refine⟨by kernel_rfl,ac_of_rc hmd (by simp [pv_iv,pv_int,pv_bool,pv_string,pv_tup2,pv_tup3,iv_plain,p2_int,p2_bool,p2_string]) ?_⟩
   cases hm1:mks T kn' (trm T u) with
   | true=>
    try simp (disch:=first|omega|simp only [lnS];try omega) [-getElem?_pos,-getElem?_neg,-notTuple]
    refine hK _ _ ?_;clear hK K
    refine awt (by simp<;>omega) ?_
    obtain⟨G2,hG2,hI2,hc2⟩:=hnew (.inl hm1)
    (refine aso fun K hK=>?_;simp (disch:=first|omega|simp only [lnS];try omega) [-getElem?_pos,-getElem?_neg,e5,e9,hbk,hlG,hnH,hbl,hu,-notTuple];refine hK _ _ ?_;clear hK K)
    rw [←hG2]
    (refine aoo fun K hK=>?_;simp (disch:=first|omega|simp only [lnS];try omega) [-getElem?_pos,-getElem?_neg];refine hK _ _ ?_;clear hK K)
    (refine aoo fun K hK=>?_;simp (disch:=first|omega|simp only [lnS];try omega) [-getElem?_pos,-getElem?_neg,e9];refine hK _ _ ?_;clear hK K)
    exact⟨c-1,by omega,u+1,true,_,by omega,by (first|simp [e0];done|rfl),by (first|simp [e5];done|rfl),by (first|simp;done|rfl),by (first|simp;done|rfl),(by intro e;cases e),fun _=>hc2,hI2⟩
   | false=>
    try simp (disch:=first|omega|simp only [lnS];try omega) [-getElem?_pos,-getElem?_neg,e0,e5,e9,-notTuple]
    refine⟨by kernel_rfl,ac_of_rc hsh (by simp [pv_iv,pv_int,pv_bool,pv_string,pv_tup2,pv_tup3,iv_plain,p2_int,p2_bool,p2_string]) ?_⟩
    cases hs1:shwS T kn' u with
    | true=>
     try simp (disch:=first|omega|simp only [lnS];try omega) [-getElem?_pos,-getElem?_neg,-notTuple]
     refine hK _ _ ?_;clear hK K
     refine awt (by simp<;>omega) ?_
     obtain⟨G2,hG2,hI2,hc2⟩:=hnew (.inr hs1)
     (refine aso fun K hK=>?_;simp (disch:=first|omega|simp only [lnS];try omega) [-getElem?_pos,-getElem?_neg,e5,e9,hbk,hlG,hnH,hbl,hu,-notTuple];refine hK _ _ ?_;clear hK K)
     rw [←hG2]
     (refine aoo fun K hK=>?_;simp (disch:=first|omega|simp only [lnS];try omega) [-getElem?_pos,-getElem?_neg];refine hK _ _ ?_;clear hK K)
     (refine aoo fun K hK=>?_;simp (disch:=first|omega|simp only [lnS];try omega) [-getElem?_pos,-getElem?_neg,e9];refine hK _ _ ?_;clear hK K)
     exact⟨c-1,by omega,u+1,true,_,by omega,by (first|simp [e0];done|rfl),by (first|simp [e5];done|rfl),by (first|simp;done|rfl),by (first|simp;done|rfl),(by intro e;cases e),fun _=>hc2,hI2⟩
    | false=>
     try simp (disch:=first|omega|simp only [lnS];try omega) [-getElem?_pos,-getElem?_neg,-notTuple]
     refine hK _ _ ?_;clear hK K
     refine awf (by simp<;>omega) ?_
     refine aw_skip ?_
     (refine aoo fun K hK=>?_;simp (disch:=first|omega|simp only [lnS];try omega) [-getElem?_pos,-getElem?_neg,e9];refine hK _ _ ?_;clear hK K)
     refine⟨c-1,by omega,u+1,ch,kn',by omega,by (first|simp [e0];done|rfl),by (first|simp [e5];done|rfl),by (first|simp [e8];done|rfl),by (first|simp;done|rfl),fun e=>?_,hct,hI⟩
     obtain⟨rfl,hcc⟩:=hcf e
     refine⟨rfl,fun w hw hkw=>?_⟩
     by_cases ew:w=u
     ·rw [ew];exact⟨hm1,hs1⟩
     ·exact hcc w (by omega) hkw
end
end
section
structure FramD where
 kind:Int
 from_:Int
 op:OpD
 ids:List (List Int)
def frameK:List CK:=[CK.int .i64,.int .i64]++(opK++[CK.sl keyK])
def FramD.row(x:FramD):List CD:=[CD.int .i64 x.kind,.int .i64 x.from_]++(x.op.row++[.sl (x.ids.map kd)])
structure FramD.Wf (x:FramD):Prop where
 kind:I64 x.kind
 from_:I64 x.from_
 op:x.op.Wf
 ids:∀k∈x.ids,Key32 k
 ilen:x.ids.length≤maxLen
theorem frame_of{ds:List CD}(h:OkL frameK ds):∃x:FramD,ds=x.row∧x.Wf:=by
 obtain⟨a,r,rfl,h1,h2⟩:=OkL.split h
 obtain⟨d0,r0,rfl,o0,n0⟩:=h1.cons
 obtain⟨d1,r1,rfl,o1,n1⟩:=n0.cons
 obtain rfl:=n1.nil
 obtain⟨c,r2,rfl,h3,h4⟩:=OkL.split h2
 obtain⟨o,rfl,ho⟩:=op_of h3
 obtain⟨d2,r3,rfl,o2,n2⟩:=h4.cons
 obtain rfl:=n2.nil
 obtain⟨k,rfl,hk⟩:=ok_int o0
 obtain⟨f,rfl,hf⟩:=ok_int o1
 obtain⟨rows,rfl,hm,hr⟩:=ok_sl o2
 obtain⟨ids,rfl,hi⟩:=rows_of (f:=kd) (R:=Key32) rows (fun row hrow=>key_of (hr row hrow))
 exact⟨⟨k,f,o,ids⟩,rfl,wf_i64 hk,wf_i64 hf,ho,hi,by simpa using hm⟩
def frRow(x:FramD)(pv wv bv qv:Value):List Value:=[.int .i64 x.kind,.int .i64 x.from_]++(opRow x.op pv wv bv++[qv])
theorem frame_c{H:AH}{x:FramD}(hw:x.Wf){us:List Value}(h:ValL H x.row us):∃pv wv bv qv,us=frRow x pv wv bv qv∧KsV H pv x.op.parents∧InV H wv x.op.who∧BxV H bv x.op.boxes∧KsV H qv x.ids:=by
 obtain⟨a,r,rfl,h1,h2⟩:=ValL.split h
 obtain⟨u0,r0,rfl,v0,n0⟩:=h1.cons
 obtain⟨u1,r1,rfl,v1,n1⟩:=n0.cons
 obtain rfl:=n1.nil
 obtain⟨c,r2,rfl,h3,h4⟩:=ValL.split h2
 obtain⟨pv,wv,bv,hc⟩:=op_c hw.op h3
 obtain⟨qv,r3,rfl,v2,n2⟩:=h4.cons
 obtain rfl:=n2.nil
 rw [val_int v0,val_int v1,hc.row hw.op]
 exact⟨pv,wv,bv,qv,rfl,hc.parents,hc.who,hc.boxes,v2⟩
structure FrB (G:AH) (fb:Nat) (x:FramD) (pv wv bv qv:Value):Prop where
 all:xload Tryd.prog 51 (.pointer (some ⟨fb,0,none⟩)) G=some (.agg (frRow x pv wv bv qv).toArray)
 op:xload Tryd.prog 49 (.pointer (some ⟨fb,2,none⟩)) G=some (.agg (opRow x.op pv wv bv).toArray)
 parents:xload Tryd.prog 34 (.pointer (some ⟨fb,4,none⟩)) G=some pv
 kind:xload Tryd.prog 3 (.pointer (some ⟨fb,5,none⟩)) G=some (.int .i64 x.op.kind)
 of:xload Tryd.prog 41 (.pointer (some ⟨fb,7,none⟩)) G=some (.agg (iv .u8 x.op.of).toArray)
 check:xload Tryd.prog 41 (.pointer (some ⟨fb,39,none⟩)) G=some (.agg (iv .u8 x.op.check).toArray)
 text:xload Tryd.prog 9 (.pointer (some ⟨fb,71,none⟩)) G=some (.string x.op.text)
 boxes:xload Tryd.prog 47 (.pointer (some ⟨fb,72,none⟩)) G=some bv
 ids:xload Tryd.prog 34 (.pointer (some ⟨fb,73,none⟩)) G=some qv
theorem frB{G:AH}{fb:Nat}{x:FramD}(hw:x.Wf){pv wv bv qv:Value}(hb:hget G fb=some ⟨frRow x pv wv bv qv, 51,none⟩):FrB G fb x pv wv bv qv:=by
 have h1:=hw.op.of.1
 have h2:=hw.op.check.1
 have hl:=opRow_len hw.op pv wv bv
 obtain⟨A,hA,hAe⟩:=opRow_cut hw.op pv wv bv
 have l1:(iv .u8 x.op.of).length=32:=by rw [iv_length];exact h1
 have l2:(iv .u8 x.op.check).length=32:=by rw [iv_length];exact h2
 have hd:(frRow x pv wv bv qv).drop 2=opRow x.op pv wv bv++[qv]:=rfl
 have hat:∀i,(frRow x pv wv bv qv)[i+2]?=(opRow x.op pv wv bv++[qv])[i]?:=fun i=>rfl
 have z69:(opRow x.op pv wv bv)[69]?=some (.string x.op.text):=by
  show ([Value.int .i64 x.op.author,.int .u32 x.op.seq,pv,.int .i64 x.op.kind,wv]++(iv .u8 x.op.of++(iv .u8 x.op.check++[.string x.op.text,bv])))[69]?=_
  rw [gaR (by simp),gaR (by simp [l1]),gaR (by simp [l1,l2])]
  simp [l1,l2]
 have z70:=opRow_70 hw.op pv wv bv
 have t7:(frRow x pv wv bv qv).drop 7=iv .u8 x.op.of++(iv .u8 x.op.check++[.string x.op.text,bv]++[qv]):=by
  show (opRow x.op pv wv bv++[qv]).drop 5=_
  show ([Value.int .i64 x.op.author,.int .u32 x.op.seq,pv,.int .i64 x.op.kind,wv]++(iv .u8 x.op.of++(iv .u8 x.op.check++[.string x.op.text,bv]))++[qv]).drop 5=_
  simp
 have t39:(frRow x pv wv bv qv).drop 39=iv .u8 x.op.check++([.string x.op.text,bv]++[qv]):=by
  rw [show (39:Nat)=7+32 from rfl,←List.drop_drop,t7,List.drop_append_of_le_length (by omega),List.drop_of_length_le (by omega)]
  simp
 have k7:((frRow x pv wv bv qv).drop 7).take 32=iv .u8 x.op.of:=by rw [t7,List.take_append_of_le_length (by omega),tkL (by omega)]
 have k39:((frRow x pv wv bv qv).drop 39).take 32=iv .u8 x.op.check:=by rw [t39,List.take_append_of_le_length (by omega),tkL (by omega)]
 have o2:((frRow x pv wv bv qv).drop 2).take 71=opRow x.op pv wv bv:=by rw [hd,List.take_append_of_le_length (by omega),tkL (by omega)]
 have hL:(frRow x pv wv bv qv).length=74:=by simp [frRow,hl]
 have a0:(frRow x pv wv bv qv).take 74=frRow x pv wv bv qv:=tkL (by omega)
 have c4:(frRow x pv wv bv qv)[4]?=some pv:=rfl
 have c5:(frRow x pv wv bv qv)[5]?=some (.int .i64 x.op.kind):=rfl
 have c71:(frRow x pv wv bv qv)[71]?=some (.string x.op.text):=by rw [hat 69,gaL (by omega),z69]
 have c72:(frRow x pv wv bv qv)[72]?=some bv:=by rw [hat 70,gaL (by omega),z70]
 have c73:(frRow x pv wv bv qv)[73]?=some qv:=by rw [hat 71,gaR (by omega),hl];rfl
 have s1:szt Tryd.prog 51 = 74:=by kernel_rfl
 have s2:szt Tryd.prog 49 = 71:=by kernel_rfl
 have s3:szt Tryd.prog 41 = 32:=by kernel_rfl
 have g1:isAggD (und Tryd.prog 51)=true:=by kernel_rfl
 have g2:isAggD (und Tryd.prog 49)=true:=by kernel_rfl
 have g3:isAggD (und Tryd.prog 41)=true:=by kernel_rfl
 have f1:isAggD (und Tryd.prog 34)=false∧okD (und Tryd.prog 34)=true:=⟨by kernel_rfl,by kernel_rfl⟩
 have f2:isAggD (und Tryd.prog 3)=false∧okD (und Tryd.prog 3)=true:=⟨by kernel_rfl,by kernel_rfl⟩
 have f3:isAggD (und Tryd.prog 9)=false∧okD (und Tryd.prog 9)=true:=⟨by kernel_rfl,by kernel_rfl⟩
 have f4:isAggD (und Tryd.prog 47)=false∧okD (und Tryd.prog 47)=true:=⟨by kernel_rfl,by kernel_rfl⟩
 refine⟨?_,?_,?_,?_,?_,?_,?_,?_,?_⟩
 ·simp [xload,hb,g1,s1,a0,hL]
 ·simp [xload,hb,g2,s2,o2,hL]
 ·simp [xload,hb,c4,f1.1,f1.2]
 ·simp [xload,hb,c5,f2.1,f2.2]
 ·simp [xload,hb,g3,s3,k7,hL]
 ·simp [xload,hb,g3,s3,k39,hL]
 ·simp [xload,hb,c71,f3.1,f3.2]
 ·simp [xload,hb,c72,f4.1,f4.2]
 ·simp [xload,hb,c73,f1.1,f1.2]
def OwnX(H:AH)(v:Value)(ks:List (List Int))(Fo:List Nat):Prop:=
 (v=.slice none 0 0∧ks=[]∧Fo=[])∨∃j cs,Fo=[j]∧v=.slice (some ⟨j,0,none⟩) ks.length ks.length∧hget H j=some ⟨cs, 41,some 32⟩∧kr ks <+: cs
theorem OwnX.k{H:AH}{v:Value}{ks:List (List Int)}{Fo:List Nat}(h:OwnX H v ks Fo):OwnK 0 H v ks:=by
 rcases h with ⟨h1,h2,_⟩ | ⟨j,cs,_,h1,h2,h3⟩
 ·exact .inl ⟨h1,h2⟩
 ·exact .inr ⟨j,cs,Nat.zero_le _,h1,h2,h3⟩
theorem OwnK.x{lo:Nat}{H:AH}{v:Value}{ks:List (List Int)}(h:OwnK lo H v ks):∃Fo,OwnX H v ks Fo∧∀j∈Fo,lo≤j:=by
 rcases h with ⟨h1,h2⟩ | ⟨j,cs,h0,h1,h2,h3⟩
 ·exact⟨[],.inl ⟨h1,h2,rfl⟩,fun j hj=>by cases hj⟩
 ·exact⟨[j],.inr ⟨j,cs,rfl,h1,h2,h3⟩,fun i hi=>by rw [msG.1 hi];exact h0⟩
theorem OwnX.lt{H:AH}{v:Value}{ks:List (List Int)}{Fo:List Nat}(h:OwnX H v ks Fo):∀j∈Fo,j<H.length:=by
 rcases h with ⟨_,_,rfl⟩ | ⟨j,cs,rfl,_,h2,_⟩
 ·intro j hj;cases hj
 ·intro i hi;rw [msG.1 hi];exact hget_lt h2
theorem OwnX.low{H G:AH}{v:Value}{ks:List (List Int)}{Fo:List Nat}(h:OwnX H v ks Fo)(hl:∀j∈Fo,hget G j=hget H j):OwnX G v ks Fo:=by
 rcases h with h | ⟨j,cs,rfl,h1,h2,h3⟩
 ·exact .inl h
 ·exact .inr ⟨j,cs,rfl,h1,(hl j (by simp)).trans h2,h3⟩
theorem ownX_append{nro:Nat}{H:AH}{v x:Value}{ks news:List (List Int)}{Fo:List Nat}(h1k:K32 ks)(h2k:K32 news)
  (hv:OwnX H v ks Fo) (hnro:∀j∈Fo,nro≤j) (hstr:∀s,x≠.string s) (hx:xcells 32 x H=some (kr news)) (hb:ks.length+news.length≤1000000000) :
  ∃v' H' F',xappend Tryd.prog nro 34 v x H=some (v',H')∧OwnX H' v' (ks++news) F'∧H.length≤H'.length∧(∀j,j<H.length→j∉Fo→hget H' j=hget H j)∧∀j∈F',H.length≤j:=by
 have hu:und Tryd.prog 34 = .slice 41 := by kernel_rfl
 have hs:szt Tryd.prog 41 = 32:=by kernel_rfl
 have hz:(zer Tryd.prog 41).map (·.cells.size)=some 32:=by kernel_rfl
 have hby:byt Tryd.prog 41 = 32:=by kernel_rfl
 have hnl:=kr_len h2k
 have hml:maxLen=9223372036854775807:=rfl
 rcases hv with ⟨rfl,rfl,rfl⟩ | ⟨j,cs,rfl,rfl,h3,h4⟩
 ·by_cases hn:news=[]
  ·subst hn
   refine⟨.slice none 0 0,H,[],?_,.inl ⟨rfl,rfl,rfl⟩,nlE _,fun _ _ _=>rfl,fun j hj=>by cases hj⟩
   have hx0:xcells 32 x H=some []:=hx
   unfold xappend
   cases x <;> first | (exact absurd rfl (hstr _)) | (simp only [hu,hs,hx0];rw [if_pos ⟨by omega,hz,by simp,by simp⟩];first | rw [if_pos rfl] | rw [if_pos trivial])
  ·have hn0:0<news.length:=List.length_pos_iff.2 hn
   have hne:kr news≠[]:=fun e=>by rw [e]at hnl;simp at hnl;omega
   have hd:(kr news).length/32=news.length:=by rw [hnl];omega
   refine⟨.slice (some ⟨H.length,0,none⟩) news.length news.length,H++[some ⟨kr news, 41,some 32⟩],[H.length],?_,.inr ⟨H.length,_,rfl,by simp,by rw [hget_app0];rfl,List.prefix_rfl⟩,by simp,fun i hi _=>hget_left (by omega),fun i hi=>by rw [msG.1 hi];exact nlE _⟩
   simp only [List.length_nil,Nat.zero_add]at hb
   unfold xappend
   cases x <;> first | (exact absurd rfl (hstr _)) | (simp only [hu,hs,hx];rw [if_pos ⟨by omega,hz,by rw [hby];omega,by omega⟩,if_neg hne,hd])
 ·have hj:=hget_lt h3
  have hnj:nro≤j:=hnro j (by simp)
  have hpl:=h4.length_le
  rw [kr_len h1k]at hpl
  have hpt:cs.take (ks.length*32)=kr ks:=by
   obtain⟨r,rfl⟩:=h4
   rw [←kr_len h1k];simp
  have hd:(kr news).length/32=news.length:=by rw [hnl];omega
  refine⟨.slice (some ⟨H.length,0,none⟩) (ks.length+news.length) (ks.length+news.length),H.set j none++[some ⟨kr ks++kr news, 41,some 32⟩],[H.length],?_,.inr ⟨H.length,_,rfl,by simp,by rw [hga0];rfl,by rw [kr_app];exact List.prefix_rfl⟩,by simp,fun i hi hn=>?_,fun i hi=>by rw [msG.1 hi];exact nlE _⟩
  ·have hc:True∧0<32∧(zer Tryd.prog 41).map (·.cells.size)=some 32∧nro≤j∧True∧True∧ks.length*32≤cs.length∧(ks.length*32+(kr news).length)*byt Tryd.prog 41 ≤ 140737488355328∧ks.length*32+(kr news).length≤maxLen:=
    ⟨trivial,by omega,hz,by omega,trivial,trivial,by omega,by rw [hby];omega,by omega⟩
   unfold xappend
   cases x <;> first | (exact absurd rfl (hstr _)) | (simp only [hu,hs,hx,h3];rw [if_pos hc,hpt,hd])
  ·rw [hget_left (by simp;omega),hget_set_ne (fun e=>hn (by simp [e]))]
abbrev KSt:=List TermD×List (List Int)
def mkS(s:KSt)(x:ByteArray):KSt:=(markT s.1 x,s.2++[markV s.1 x])
def bxS(s:KSt)(b:BoxD):KSt:=(markT s.1 b.body,s.2++[b.pub,markV s.1 b.body])
def hdS(T:List TermD)(o:OpD):KSt:=if o.kind=7 then mkS (T,o.parents++[o.of,o.check]) o.text else (T,o.parents++[o.of,o.check])
def kyS(T:List TermD)(o:OpD):KSt:=o.boxes.foldl bxS (hdS T o)
def keysS(T:List TermD)(x:FramD):KSt:=((kyS T x.op).1,(kyS T x.op).2++x.ids)
theorem idx_app{s:ByteArray}:∀ {L:List ByteArray} {i:Nat},idxS s L=some i→∀R,idxS s (L++R)=some i
 | [],i,h,R=>by cases h
 | y::L,i,h,R=>by
  unfold idxS at h
  show idxS s (y::(L++R))=_
  unfold idxS
  by_cases e:s=y
  ·rw [if_pos e]at h ⊢;exact h
  ·rw [if_neg e]at h ⊢
   cases hr:idxS s L with
   | none=>rw [hr]at h;cases h
   | some j=>rw [hr]at h;rw [idx_app hr];exact h
theorem idx_end{s:ByteArray}:∀ {L:List ByteArray},idxS s L=none→∀R,idxS s (L++s::R)=some L.length
 | [],h,R=>by show idxS s (s::R)=_;unfold idxS;rw [if_pos rfl];rfl
 | y::L,h,R=>by
  unfold idxS at h
  show idxS s (y::(L++s::R))=_
  unfold idxS
  by_cases e:s=y
  ·rw [if_pos e]at h;cases h
  ·rw [if_neg e]at h ⊢
   cases hr:idxS s L with
   | none=>rw [idx_end hr];rfl
   | some j=>rw [hr]at h;cases h
theorem markT_up(T:List TermD)(s:ByteArray):∃r,markT T s=T++r:=by
 unfold markT
 split
 ·exact⟨[],(List.append_nil _).symm⟩
 ·unfold addT
  split
  ·exact⟨[],(List.append_nil _).symm⟩
  ·exact⟨_,rfl⟩
theorem mark_up{T U:List TermD}{s:ByteArray}(h:∃r,U=markT T s++r):markT U s=U∧markV U s=markV T s:=by
 obtain⟨r,rfl⟩:=h
 unfold markT markV
 by_cases e:s.size=32
 ·rw [if_pos e]
  simp [e]
 ·simp only [if_neg e]
  have hp:placeT (boxT s) (addT (boxT s) T++r)=some (nameT (boxT s) T):=by
   unfold addT nameT
   cases hp:placeT (boxT s) T with
   | some i=>
    show placeT _ (T++r)=some i
    unfold placeT at hp ⊢
    rw [List.map_append]
    exact idx_app hp _
   | none=>
    show placeT _ (T++[boxT s]++r)=some T.length
    unfold placeT at hp ⊢
    rw [List.append_assoc,List.map_append]
    have:=idx_end hp ((([]:List TermD)++r).map TermD.rec_)
    rw [List.length_map]at this
    exact this
  generalize addT (boxT s) T++r=U at *
  constructor
  ·unfold addT
   rw [hp]
  ·rw [show nameT (boxT s) U=nameT (boxT s) T by
    show (match placeT (boxT s) U with | some i=>i | none=>U.length)=_
    rw [hp]]
theorem bxs_up:∀ (l:List BoxD) (s:KSt),∃r,(l.foldl bxS s).1=s.1++r
 | [],s=>⟨[],(List.append_nil _).symm⟩
 | b::l,s=>by
  obtain⟨r1,h1⟩:=bxs_up l (bxS s b)
  obtain⟨r2,h2⟩:=markT_up s.1 b.body
  exact⟨r2++r1,by show (l.foldl bxS (bxS s b)).1=_;rw [h1,show (bxS s b).1=markT s.1 b.body from rfl,h2,List.append_assoc]⟩
theorem bxs_again:∀ (l:List BoxD) (s:KSt) (U:List TermD),(∃r,U=(l.foldl bxS s).1++r)→l.foldl bxS (U,s.2)=(U,(l.foldl bxS s).2)
 | [],s,U,h=>rfl
 | b::l,s,U,⟨r,h⟩=>by
  have h:U=(l.foldl bxS (bxS s b)).1++r:=h
  obtain⟨r1,h1⟩:=bxs_up l (bxS s b)
  have hm:=mark_up (T:=s.1) (U:=U) (s:=b.body) ⟨r1++r,by rw [h,h1,List.append_assoc];rfl⟩
  have e:bxS (U,s.2) b=(U,(bxS s b).2):=by
   unfold bxS
   rw [hm.1,hm.2]
  show l.foldl bxS (bxS (U,s.2) b)=_
  rw [e]
  exact bxs_again l (bxS s b) U ⟨r,h⟩
theorem keys_again(T:List TermD)(x:FramD):keysS (keysS T x).1 x=keysS T x:=by
 obtain⟨r1,h1⟩:=bxs_up x.op.boxes (hdS T x.op)
 have hh:hdS (kyS T x.op).1 x.op=((kyS T x.op).1,(hdS T x.op).2):=by
  have h1:(kyS T x.op).1=(hdS T x.op).1++r1:=h1
  unfold hdS at h1 ⊢
  by_cases e:x.op.kind=7
  ·rw [if_pos e]at h1
   rw [if_pos e,if_pos e]
   have hm:=mark_up (T:=T) (U:=(kyS T x.op).1) (s:=x.op.text) ⟨r1,h1⟩
   unfold mkS
   rw [hm.1,hm.2]
  ·rw [if_neg e,if_neg e]
 have hk:kyS (kyS T x.op).1 x.op=kyS T x.op:=by
  show x.op.boxes.foldl bxS (hdS (kyS T x.op).1 x.op)=_
  rw [hh]
  exact bxs_again x.op.boxes (hdS T x.op) (kyS T x.op).1 ⟨[],(List.append_nil _).symm⟩
 unfold keysS
 rw [hk]
end
end Go.Proofs.YtlaglpnbmkoakaaDoor
