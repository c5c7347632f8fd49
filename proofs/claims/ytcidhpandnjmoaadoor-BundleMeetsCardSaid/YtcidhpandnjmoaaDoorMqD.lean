/-
  bundle.Show, by a free kit.
-/
import Derived.Test.YtcidhpandnjmoaaDoorMqC
import Derived.Test.YtcidhpandnjmoaaDoorMqB
namespace Go.Proofs.YtcidhpandnjmoaaDoor
open Go Go.RowKit
set_option linter.unusedSimpArgs false
set_option linter.unusedVariables false
set_option maxRecDepth 100000
set_option maxHeartbeats 8000000
section
def shD:List (Option Nat):=[some 9,some 10,some 11,some 12,some 13,some 14,some 15,some 16,some 17,some 18,some 19,some 20,some 21,none]
def shP:List (List Nat):=[[],[],[1],[0,2],[],[],[5],[3,4,6],[],[8],[],[7,9,10],[3,7,11],[0,1,2,3,4,5,6,7,8,9,10,11,12]]
def shV(n lo r3 b:Nat)(id pre N1 N2:List Int)(sv:Value)(NS:List (List Int))(G:AH)(X:List Nat)(i:Nat)(v:Value):Prop:=match i with
 | 0=>v=.func (.method "Pub") #[.iface 43 (.agg #[.pointer (some ⟨b,0,none⟩)])] #[]
 | 1=>v=.pointer (some ⟨r3,0,none⟩)
 | 2=>v=.agg (iv .u8 id).toArray
 | 3=>v=.agg (iv .u8 N1).toArray
 | 4=>v=.func (.method "Pub") #[.iface 43 (.agg #[.pointer (some ⟨b,0,none⟩)])] #[]
 | 5=>v=.pointer (some ⟨r3,32,none⟩)
 | 6=>v=.agg (iv .u8 pre).toArray
 | 7=>v=.agg (iv .u8 N2).toArray
 | 8=>v=.pointer (some ⟨r3,64,none⟩)
 | 9=>v=sv
 | 10=>v=.func (.method "Pub") #[.iface 43 (.agg #[.pointer (some ⟨b,0,none⟩)])] #[]
 | 11=>KoN lo X G v NS
 | 12=>∃ov,v=.agg (bnC N1 N2 ov).toArray∧KoN lo X G ov NS
 | _=>True
def shS(n lo r3 b:Nat)(id pre N1 N2:List Int)(sv:Value)(NS:List (List Int)):List Slot:=[⟨none,4,13,iv .u8 (zl 64)++[.slice none 0 0], 101,fun G X cs=>∃ov,cs=bnC N1 N2 ov∧KoN lo X G ov NS⟩]
def ShowQ(H0:AH)(Y:List Nat)(B:AH)(b:Nat)(T T':List TermD)(N1 N2:List Int)(NS:List (List Int))(v':Value)(H':AH):Prop:=
 ∃R ov,v'=.agg (bnC N1 N2 ov).toArray∧FrK H0 Y B b T' R H'∧KoV R H' ov NS
attribute [local simp] wb_bool wb_undef with_lit XL_nil XL_cons XLc_val XLc_call step1_eq stepW_t stepW_f stepC_n stepC_s stepX_s stepX_n stepN_s calleeX xrecv oneV xop_eq xopR_s xopR_n wantedA_eq wantedG_n wantedG_s plain1_int plain1_bool plain1_string bits_i64 bits_u64 bits_u32 bits_u16 bits_u8 xeqA xagg xcmp xarr allK_iv num_iv calleeOf xread xeff xbin xint xnil xun xstr xload xconv xpart xfield xfieldAddr xindexAddr xindex bnd asInt? xslice xlen xmin xmax xbuild xfill xappend xapp2 xappstr xappmk xcap xcopy xcells eval_tmp eval_const put_at put_none fr0_at cells_agg cells_int cells_bool cells_string cells_ptr cells_slice notTuple tab iv_all hget_app hget_app0 hget_cons0 hget_cons set_app set_app0 setR setR_one QL_nil QL_cons QLc_val stepQ_t stepQ_f stepQC_n stepQC_s stepQX_s SL_nil SL_cons SLc_val stepS_t stepS_f ltT ltF leT leF eqT eqF ltTn ltFn leTn leFn eqTn eqFn beqT beqF bneT bneF wi64 wu64 wu32 wu16 wu8 tmodP tdivP hgetL hgetNe hgetEq setL nums_def nums_len Nat.succ_le_of_lt List.getElem?_cons_zero List.getElem?_cons_succ Option.getD_some Int.toNat_add Int.toNat_mul agM okM agB agI agS agP agL agA okB okI okS okP okSl okA thenQ_ret scopeQ_ret inBlockQ_ret RQ resL resV
theorem show_ac{γ:Nat→Option Nat}{H0 B:AH}{Y:List Nat}{b:Nat}{T:List TermD}(hpw:Pw γ H0)(h:Kt H0 Y B b T){id pre:List Int}{sv:Value}{ks:List (List Int)}(li:id.length=32)(bi:By id)(lp:pre.length=32)(bp:By pre)(hK:KsX H0.length Y B sv ks)(hk:∀k∈ks,k.length=32∧By k)(hk1:ks.length≤100000)(hT:T.length+ks.length≤900000) :
  AC Tryd.prog H0.length γ 44 #[kitV b,.agg (bnC id pre sv).toArray] B
   (ShowQ H0 Y B b T (pubsT ks (addT (pubD pre) (addT (pubD id) T))) (nN (pubD id) T) (nN (pubD pre) (addT (pubD id) T)) (pubsN ks (addT (pubD pre) (addT (pubD id) T)))):=by
 unfold kitV
 have hpl:plain1 (.slice none 0 0)=true:=rfl
 have snt:=hK.nt
 have hall:=bnC_all (v:=sv) li lp
 have hl65:=bnC_len (v:=sv) li lp
 obtain⟨r3,hr3⟩:∃r3,r3=B.length:=⟨_,rfl⟩
 obtain⟨T1,hT1⟩:∃T1,T1=addT (pubD id) T:=⟨_,rfl⟩
 rw [←hT1]
 obtain⟨T2,hT2⟩:∃T2,T2=addT (pubD pre) T1:=⟨_,rfl⟩
 rw [←hT2]
 obtain⟨T3,hT3⟩:∃T3,T3=pubsT ks T2:=⟨_,rfl⟩
 rw [←hT3]
 obtain⟨N1,hN1⟩:∃N1,N1=nN (pubD id) T:=⟨_,rfl⟩
 rw [←hN1]
 obtain⟨N2,hN2⟩:∃N2,N2=nN (pubD pre) T1:=⟨_,rfl⟩
 rw [←hN2]
 obtain⟨NS,hNS⟩:∃NS,NS=pubsN ks T2:=⟨_,rfl⟩
 rw [←hNS]
 have m1:N1.length=32:=by rw [hN1];rfl
 have m2:N2.length=32:=by rw [hN2];rfl
 have tl1:T1.length≤T.length+1:=by rw [hT1];exact addT_len _ _
 have tl2:T2.length≤T1.length+1:=by rw [hT2];exact addT_len _ _
 have hnB:=h.le
 have nsk:K32 NS:=fun k hk=>by rw [hNS]at hk;exact (pubsN_k _ _ k hk).1
 refine ac_of_aw Tryd.func44 rfl Tryd.ntmps44 Tryd.results44 (by simp) ?_
 (refine aso fun K hK=>?_;simp (disch:=first|omega|simp only [lnS];try omega) [-getElem?_pos,-getElem?_neg,hall,hl65];refine hK _ _ ?_;clear hK K)
 obtain⟨B1,hB1⟩:∃B1:AH,B1=B++[some ⟨bnC id pre sv, 99,none⟩,some ⟨iv .u8 (zl 64)++[.slice none 0 0], 101,none⟩]:=⟨_,rfl⟩
 have g3:hget B1 r3=some ⟨bnC id pre sv, 99,none⟩:=by rw [hB1,hr3,hget_app0];rfl
 have g4:hget B1 (r3+1)=some ⟨iv .u8 (zl 64)++[.slice none 0 0], 101,none⟩:=by rw [hB1,hr3,hget_app];rfl
 have k1:Kt H0 (r3::(r3+1)::Y) B1 b T:=by
  have:=h.grow (R:=[r3,r3+1]) (G':=B1) (by rw [hB1];exact⟨fun j hj=>hget_left hj,by simp⟩) (fun j hj=>by rw [hB1,hr3]at *;simp only [mcN]at hj;simp;omega)
  exact this
 have s1:∀j,j<B.length→hget B1 j=hget B j:=fun j hj=>by rw [hB1];exact hget_left hj
 have l1:B1.length=B.length+2:=by rw [hB1];simp
 have hKB:=hK.step (Y':=Y) (G':=B1) (by omega) (fun j hj=>s1 j (by omega)) (fun j hj=>⟨hj,s1 j (h.y j hj).2⟩)
 rw [←hr3,←hB1]
 clear hB1
 (refine aso fun K hK=>?_;simp (disch:=first|omega|simp only [lnS];try omega) [-getElem?_pos,-getElem?_neg,xm_pub,-notTuple,nt_aggG];refine hK _ _ ?_;clear hK K)
 have lo3:=hget_lt g3
 refine aw_seq ?_
 refine name_aw (fun β hβ=>?_)
 have e3:β 3=.pointer (some ⟨r3,0,none⟩):=by rw [hβ];(first|simp [put_at,put_none,fr0_at];done|rfl)
 have e4:β 4=.pointer (some ⟨r3+1,0,none⟩):=by rw [hβ];(first|simp [put_at,put_none,fr0_at];done|rfl)
 have e5:β 5=.func (.method "Pub") #[.iface 43 (.agg #[.pointer (some ⟨b,0,none⟩)])] #[]:=by rw [hβ];(first|simp [put_at,put_none,fr0_at];done|rfl)
 clear hβ
 have hob:=kt_obj (H0:=H0) (b:=b) (l:=[(3,T1),(7,T2),(11,T3)]) (T0:=T)
 have hsh:shapeK shD (shS H0.length (r3+2) r3 b id pre N1 N2 sv NS) [3,7,11]=true:=rfl
 have hst:StV H0.length (shV H0.length (r3+2) r3 b id pre N1 N2 sv NS):=by
  intro G G' X X' i v hl hn hx hv
  unfold shV at hv ⊢
  split at hv <;> first | exact hv | exact hv.step hx | (obtain⟨ov,h1,h2⟩:=hv;exact⟨ov,h1,h2.step hx⟩)
 have hsc:∀k∈shS H0.length (r3+2) r3 b id pre N1 N2 sv NS,StC H0.length k.c:=by
  intro k hk
  simp only [shS,mcN]at hk
  subst hk
  intro G G' X X' cs hl hn hx hv
  obtain⟨ov,h1,h2⟩:=hv
  exact⟨ov,h1,h2.step hx⟩
 refine aw_inv shP (JkE H0.length shD shP (shV H0.length (r3+2) r3 b id pre N1 N2 sv NS) (shS H0.length (r3+2) r3 b id pre N1 N2 sv NS) (fun s Y G=>Kt H0 Y G b (stT [(3,T1),(7,T2),(11,T3)] T s)) β (r3::Y) B1) (by kernel_rfl) (by kernel_rfl) (by kernel_rfl) ?_ ?_ ?_
 ·refine JK.start (Y:=r3::(r3+1)::Y) (by show Kt H0 _ B1 b (stT _ _ _);rw [stT_0];exact k1) (fun j hj=>by simp only [List.mem_cons]at hj ⊢;rcases hj with h | h <;> simp [h]) (fun _=>r3+1) ?_ ?_
  ·intro k sk hk ha
   match k,hk with
   | 0,hk=>
    cases hk
    refine⟨e4,by simp,fun hm=>?_,g4⟩
    rcases List.mem_cons.1 hm with e | e
    ·omega
    ·have:=(h.y _ e).2;omega
  ·intro k k' sk sk' hk hk' hne
   match k,k',hk,hk' with
   | 0,0,_,_=>exact absurd rfl hne
 ·intro i s α G k hJ hi0 hsi hd hcc hcont
  obtain⟨X,Y,rs,hJ⟩:=hJ
  have g3:=(hJ.ss r3 (by simp)).2.trans g3
  have j5:=(hJ.lo 5 (by decide)).trans e5
  have j3:=(hJ.lo 3 (by decide)).trans e3
  have hle:=hJ.le
  have hi:i=0∨i=1∨i=2∨i=3∨i=4∨i=5∨i=6∨i=7∨i=8∨i=9∨i=10∨i=11∨i=12∨i=13:=by have hi0:i<14:=hi0;omega
  rcases hi with rfl | rfl | rfl | rfl | rfl | rfl | rfl | rfl | rfl | rfl | rfl | rfl | rfl | rfl
  ·unfold XOm
   simp only [gcS]
   simp (disch:=first|omega|simp only [lnS];try omega) [-getElem?_pos,-getElem?_neg,-notTuple,nt_boolG,nt_aggG,nt_intG,nt_ptrG,nt_slG,nt_strG,j5,XO_s,XO_z,XLk_val,XLk_call,headsO,behind,List.length_cons,List.length_nil,mcN,forall_eq_or_imp,forall_eq,List.contains_cons,List.contains_nil]
   exact hcont _ _ ⟨X,Y,rs,hJ.plain hsh hob (i:=0) (t:=9) rfl (by decide) (by simp [shS]) rfl hd⟩
  ·unfold XOm
   simp only [gcS]
   simp (disch:=first|omega|simp only [lnS];try omega) [-getElem?_pos,-getElem?_neg,-notTuple,nt_boolG,nt_aggG,nt_intG,nt_ptrG,nt_slG,nt_strG,j3,XO_s,XO_z,XLk_val,XLk_call,headsO,behind,List.length_cons,List.length_nil,mcN,forall_eq_or_imp,forall_eq,List.contains_cons,List.contains_nil]
   exact hcont _ _ ⟨X,Y,rs,hJ.plain hsh hob (i:=1) (t:=10) rfl (by decide) (by simp [shS]) rfl hd⟩
  ·have f1:α 10=.pointer (some ⟨r3,0,none⟩):=hJ.val 1 10 rfl (hd 1 (by decide))
   unfold XOm
   simp only [gcS]
   simp (disch:=first|omega|simp only [lnS];try omega) [-getElem?_pos,-getElem?_neg,-notTuple,nt_boolG,nt_aggG,nt_intG,nt_ptrG,nt_slG,nt_strG,g3,bnC_1 li lp,f1,XO_s,XO_z,XLk_val,XLk_call,headsO,behind,List.length_cons,List.length_nil,mcN,forall_eq_or_imp,forall_eq,List.contains_cons,List.contains_nil]
   exact hcont _ _ ⟨X,Y,rs,hJ.plain hsh hob (i:=2) (t:=11) rfl (by decide) (by simp [shS]) rfl hd⟩
  ·have f0:α 9=.func (.method "Pub") #[.iface 43 (.agg #[.pointer (some ⟨b,0,none⟩)])] #[]:=hJ.val 0 9 rfl (hd 0 (by decide))
   have f2:α 11=.agg (iv .u8 id).toArray:=hJ.val 2 11 rfl (hd 2 (by decide))
   unfold XOm
   simp only [gcS]
   simp (disch:=first|omega|simp only [lnS];try omega) [-getElem?_pos,-getElem?_neg,f0,f2,xm_pub,nt_aggG,nt_ptrG,-notTuple,XO_s,XO_z,XLk_val,XLk_call,headsO,behind,List.length_cons,List.length_nil,mcN,forall_eq_or_imp,forall_eq,List.contains_cons,List.contains_nil]
   have ko:Kt H0 Y G b T:=by have:=hJ.o;simp only [stT,hsi,if_true,Bool.false_eq_true,if_false]at this;exact this
   refine⟨by kernel_rfl,AC.mono (kt_pub hpw ko li bi (by omega)) ?_⟩
   rintro v' G' ⟨rfl,q1,q2,q3⟩
   have kold:=ko.old ⟨q1,q2,q3⟩
   have hT1:addT ⟨3,⟨#[]⟩,[id]⟩ T=T1:=hT1.symm
   rw [hT1]at q1
   exact hcont _ _ ⟨_,_,rs,hJ.call (R:=[]) (Y':=Y) hsh hst hsc (by have e:stT [(3,T1),(7,T2),(11,T3)] T (s.setIfInBounds 3 true)=T1:=(by simp only [stT,sgE (show 3<s.size from by rw [hJ.sz];decide),sgN (show (3:Nat)≠7 by decide),hcc 7 (by decide),if_true,Bool.false_eq_true,if_false]);show Kt H0 _ G' b (stT [(3,T1),(7,T2),(11,T3)] T _);rw [e];exact q1) q3 kold (fun j hj=>⟨hj,q2 j hj⟩) (fun j hj=>by cases hj) (i:=3) (t:=12) rfl (by simp [shS]) (by show _=_;rw [hN1];rfl) hd⟩
  ·unfold XOm
   simp only [gcS]
   simp (disch:=first|omega|simp only [lnS];try omega) [-getElem?_pos,-getElem?_neg,-notTuple,nt_boolG,nt_aggG,nt_intG,nt_ptrG,nt_slG,nt_strG,j5,XO_s,XO_z,XLk_val,XLk_call,headsO,behind,List.length_cons,List.length_nil,mcN,forall_eq_or_imp,forall_eq,List.contains_cons,List.contains_nil]
   exact hcont _ _ ⟨X,Y,rs,hJ.plain hsh hob (i:=4) (t:=13) rfl (by decide) (by simp [shS]) rfl hd⟩
  ·unfold XOm
   simp only [gcS]
   simp (disch:=first|omega|simp only [lnS];try omega) [-getElem?_pos,-getElem?_neg,-notTuple,nt_boolG,nt_aggG,nt_intG,nt_ptrG,nt_slG,nt_strG,j3,XO_s,XO_z,XLk_val,XLk_call,headsO,behind,List.length_cons,List.length_nil,mcN,forall_eq_or_imp,forall_eq,List.contains_cons,List.contains_nil]
   exact hcont _ _ ⟨X,Y,rs,hJ.plain hsh hob (i:=5) (t:=14) rfl (by decide) (by simp [shS]) rfl hd⟩
  ·have f5:α 14=.pointer (some ⟨r3,32,none⟩):=hJ.val 5 14 rfl (hd 5 (by decide))
   unfold XOm
   simp only [gcS]
   simp (disch:=first|omega|simp only [lnS];try omega) [-getElem?_pos,-getElem?_neg,-notTuple,nt_boolG,nt_aggG,nt_intG,nt_ptrG,nt_slG,nt_strG,g3,bnC_2 li lp,f5,XO_s,XO_z,XLk_val,XLk_call,headsO,behind,List.length_cons,List.length_nil,mcN,forall_eq_or_imp,forall_eq,List.contains_cons,List.contains_nil]
   exact hcont _ _ ⟨X,Y,rs,hJ.plain hsh hob (i:=6) (t:=15) rfl (by decide) (by simp [shS]) rfl hd⟩
  ·have f4:α 13=.func (.method "Pub") #[.iface 43 (.agg #[.pointer (some ⟨b,0,none⟩)])] #[]:=hJ.val 4 13 rfl (hd 4 (by decide))
   have f6:α 15=.agg (iv .u8 pre).toArray:=hJ.val 6 15 rfl (hd 6 (by decide))
   unfold XOm
   simp only [gcS]
   simp (disch:=first|omega|simp only [lnS];try omega) [-getElem?_pos,-getElem?_neg,f4,f6,xm_pub,nt_aggG,nt_ptrG,-notTuple,XO_s,XO_z,XLk_val,XLk_call,headsO,behind,List.length_cons,List.length_nil,mcN,forall_eq_or_imp,forall_eq,List.contains_cons,List.contains_nil]
   have ko:Kt H0 Y G b T1:=by have:=hJ.o;simp only [stT,(hd 3 (by decide)),hsi,if_true,Bool.false_eq_true,if_false]at this;exact this
   refine⟨by kernel_rfl,AC.mono (kt_pub hpw ko lp bp (by omega)) ?_⟩
   rintro v' G' ⟨rfl,q1,q2,q3⟩
   have kold:=ko.old ⟨q1,q2,q3⟩
   have hT2:addT ⟨3,⟨#[]⟩,[pre]⟩ T1=T2:=hT2.symm
   rw [hT2]at q1
   exact hcont _ _ ⟨_,_,rs,hJ.call (R:=[]) (Y':=Y) hsh hst hsc (by have e:stT [(3,T1),(7,T2),(11,T3)] T (s.setIfInBounds 7 true)=T2:=(by simp only [stT,sgE (show 7<s.size from by rw [hJ.sz];decide),sgN (show (7:Nat)≠3 by decide),(hd 3 (by decide)),sgN (show (7:Nat)≠11 by decide),hcc 11 (by decide),if_true,Bool.false_eq_true,if_false]);show Kt H0 _ G' b (stT [(3,T1),(7,T2),(11,T3)] T _);rw [e];exact q1) q3 kold (fun j hj=>⟨hj,q2 j hj⟩) (fun j hj=>by cases hj) (i:=7) (t:=16) rfl (by simp [shS]) (by show _=_;rw [hN2];rfl) hd⟩
  ·unfold XOm
   simp only [gcS]
   simp (disch:=first|omega|simp only [lnS];try omega) [-getElem?_pos,-getElem?_neg,-notTuple,nt_boolG,nt_aggG,nt_intG,nt_ptrG,nt_slG,nt_strG,j3,XO_s,XO_z,XLk_val,XLk_call,headsO,behind,List.length_cons,List.length_nil,mcN,forall_eq_or_imp,forall_eq,List.contains_cons,List.contains_nil]
   exact hcont _ _ ⟨X,Y,rs,hJ.plain hsh hob (i:=8) (t:=17) rfl (by decide) (by simp [shS]) rfl hd⟩
  ·have f8:α 17=.pointer (some ⟨r3,64,none⟩):=hJ.val 8 17 rfl (hd 8 (by decide))
   unfold XOm
   simp only [gcS]
   simp (disch:=first|omega|simp only [lnS];try omega) [-getElem?_pos,-getElem?_neg,-notTuple,nt_boolG,nt_aggG,nt_intG,nt_ptrG,nt_slG,nt_strG,g3,bnC_3 li lp,snt.1,f8,XO_s,XO_z,XLk_val,XLk_call,headsO,behind,List.length_cons,List.length_nil,mcN,forall_eq_or_imp,forall_eq,List.contains_cons,List.contains_nil]
   exact hcont _ _ ⟨X,Y,rs,hJ.plain hsh hob (i:=9) (t:=18) rfl (by decide) (by simp [shS]) rfl hd⟩
  ·unfold XOm
   simp only [gcS]
   simp (disch:=first|omega|simp only [lnS];try omega) [-getElem?_pos,-getElem?_neg,-notTuple,nt_boolG,nt_aggG,nt_intG,nt_ptrG,nt_slG,nt_strG,j5,XO_s,XO_z,XLk_val,XLk_call,headsO,behind,List.length_cons,List.length_nil,mcN,forall_eq_or_imp,forall_eq,List.contains_cons,List.contains_nil]
   exact hcont _ _ ⟨X,Y,rs,hJ.plain hsh hob (i:=10) (t:=19) rfl (by decide) (by simp [shS]) rfl hd⟩
  ·have f9:α 18=sv:=hJ.val 9 18 rfl (hd 9 (by decide))
   have f10:α 19=.func (.method "Pub") #[.iface 43 (.agg #[.pointer (some ⟨b,0,none⟩)])] #[]:=hJ.val 10 19 rfl (hd 10 (by decide))
   unfold XOm
   simp only [gcS]
   simp (disch:=first|omega|simp only [lnS];try omega) [-getElem?_pos,-getElem?_neg,f9,f10,xm_pub,nt_aggG,nt_ptrG,-notTuple,XO_s,XO_z,XLk_val,XLk_call,headsO,behind,List.length_cons,List.length_nil,mcN,forall_eq_or_imp,forall_eq,List.contains_cons,List.contains_nil]
   have hks:KsX H0.length Y G sv ks:=hKB.step hle (fun j hj=>hJ.low j hj) (fun j hj=>⟨hJ.xy j (hJ.ss j (List.mem_cons_of_mem _ hj)).1,(hJ.ss j (List.mem_cons_of_mem _ hj)).2⟩)
   have ko:Kt H0 Y G b T2:=by have:=hJ.o;simp only [stT,(hJ.cl 7 (hd 7 (by decide)) 3 (by decide)),(hd 7 (by decide)),hsi,if_true,Bool.false_eq_true,if_false]at this;exact this
   refine⟨by kernel_rfl,AC.mono (each_ac hpw ko hks hk (by omega) hk1) ?_⟩
   rintro v' G' ⟨R,p1,p2,p3,p4,p5⟩
   have fk:FrK H0 Y G b T3 R G':=⟨hT3▸p1,p2,p3,p5⟩
   exact hcont _ _ ⟨_,_,rs,hJ.call (R:=R) (Y':=R++Y) hsh hst hsc (by have e:stT [(3,T1),(7,T2),(11,T3)] T (s.setIfInBounds 11 true)=T3:=(by simp only [stT,sgE (show 11<s.size from by rw [hJ.sz];decide),sgN (show (11:Nat)≠3 by decide),(hJ.cl 7 (hd 7 (by decide)) 3 (by decide)),sgN (show (11:Nat)≠7 by decide),(hd 7 (by decide)),if_true,Bool.false_eq_true,if_false]);show Kt H0 _ G' b (stT [(3,T1),(7,T2),(11,T3)] T _);rw [e];exact fk.kt) fk.le (fun j hj=>(fk.kt.lw.1 j hj).trans (ko.lw.1 j hj).symm) (fun j hj=>⟨List.mem_append_right _ hj,fk.st j hj⟩) (fun j hj=>⟨List.mem_append_left _ hj,fun e=>by have:=fk.nw j hj;have:=(ko.y j e).2;omega⟩) (i:=11) (t:=20) rfl (by simp [shS]) ⟨R,ownF_kov (hNS▸p4) nsk (fun j hj=>hj),fun j hj=>⟨List.mem_append_left _ hj,by have:=p5 j hj;omega⟩⟩ hd⟩
  ·have f3:α 12=.agg (iv .u8 N1).toArray:=hJ.val 3 12 rfl (hd 3 (by decide))
   have f7:α 16=.agg (iv .u8 N2).toArray:=hJ.val 7 16 rfl (hd 7 (by decide))
   have f11:=hJ.val 11 20 rfl (hd 11 (by decide))
   have f11:KoN (r3+2) X G (α 20) NS:=f11
   have nt20:=f11.nt
   unfold XOm
   simp only [gcS]
   simp (disch:=first|omega|simp only [lnS];try omega) [-getElem?_pos,-getElem?_neg,f3,f7,m1,m2,-notTuple,nt20.1,nt20.2,nt_aggG,hpl,bnC_build m1 m2,XO_s,XO_z,XLk_val,XLk_call,headsO,behind,List.length_cons,List.length_nil,mcN,forall_eq_or_imp,forall_eq,List.contains_cons,List.contains_nil]
   exact hcont _ _ ⟨X,Y,rs,hJ.plain hsh hob (i:=12) (t:=21) rfl (by decide) (by simp [shS]) ⟨_,rfl,f11⟩ hd⟩
  ·have f12:=hJ.val 12 21 rfl (hd 12 (by decide))
   obtain⟨ov,e12,k12⟩:=f12
   obtain⟨w1,w2,w3,cs0,w4,w5⟩:=hJ.sla 0 _ rfl rfl
   rw [hsi]at w5
   have w5:cs0=iv .u8 (zl 64)++[.slice none 0 0]:=w5
   subst w5
   have wl:=(hob.lo _ _ _ hJ.o).2 _ w2
   have w1:α 4=.pointer (some ⟨rs 0,0,none⟩):=w1
   have w4:hget G (rs 0)=some ⟨iv .u8 (zl 64)++[.slice none 0 0], 101,none⟩:=w4
   have wl1:=wl.1
   have wl2:=wl.2
   unfold XOm
   simp only [gcS]
   simp (disch:=first|omega|simp only [lnS];try omega) [-getElem?_pos,-getElem?_neg,-notTuple,nt_boolG,nt_aggG,nt_intG,nt_ptrG,nt_slG,nt_strG,w1,w4,wl1,wl2,e12,bnC_len m1 m2,bnC_set m1 m2,XO_s,XO_z,XLk_val,XLk_call,headsO,behind,List.length_cons,List.length_nil,mcN,forall_eq_or_imp,forall_eq,List.contains_cons,List.contains_nil]
   exact hcont _ _ ⟨X,Y,rs,hJ.store hsh hob hst hsc (k:=0) rfl rfl ⟨ov,rfl,k12⟩ hd⟩
 rintro s α G hJ hall
 obtain⟨X,Y2,rs,hJ⟩:=hJ
 have hd:∀i,i<14→s.getD i false=true:=fun i hi=>all_done hall (by rw [hJ.sz];exact hi)
 obtain⟨w1,w2,w3,cs,w4,w5⟩:=hJ.sla 0 _ rfl rfl
 rw [show (⟨none,4,13,iv .u8 (zl 64)++[.slice none 0 0], 101,fun G X cs=>∃ov,cs=bnC N1 N2 ov∧KoN (r3+2) X G ov NS⟩:Slot).st=13 from rfl,hd 13 (by omega)]at w5
 obtain⟨ov,rfl,R,k1,k2⟩:=w5
 have w1:α 4=.pointer (some ⟨rs 0,0,none⟩):=w1
 have w4:hget G (rs 0)=some ⟨bnC N1 N2 ov, 101,none⟩:=w4
 have wl:=hget_lt w4
 have ko:Kt H0 Y2 G b T3:=by
  have:=hJ.o
  simp only [stT,hd 3 (by omega),hd 7 (by omega),hd 11 (by omega),if_true]at this
  exact this
 (refine aw_ret ?_;simp (disch:=first|omega|simp only [lnS];try omega) [-getElem?_pos,-getElem?_neg,w1,w4,wl,bnC_all m1 m2,bnC_len m1 m2,nt_aggG])
 refine⟨R,ov,rfl,⟨ko.less (fun j hj=>?_),fun j hj=>?_,by have:=hJ.le;omega,fun j hj=>by have:=(k2 j hj).2;omega⟩,k1⟩
 ·rcases maP.1 hj with e | e
  ·exact hJ.xy j (k2 j e).1
  ·exact hJ.xy j (hJ.ss j (by simp [e])).1
 ·exact (hJ.ss j (by simp [hj])).2.trans (s1 j (h.y j hj).2)
end
section
def hlC(a e o:List Int):List Value:=iv .u8 a++iv .u8 e++iv .u8 o
section
variable {a e o:List Int} {C:List Value}
theorem rowP(ha:a.length=32)(he:e.length=32)(hC:C.length=64):setR (setR C 0 (iv .u8 a)) 32 (iv .u8 e)=iv .u8 a++iv .u8 e:=row2 hC (by simp [ha]) (by simp [he])
theorem row3C{a b c:List Value}{n:Nat}(ha:a.length=n)(hb:b.length=n)(hc:c.length=n)(hC:C.length=n+n+n):setR (setR (setR C 0 a) n b) (n+n) c=a++b++c:=by
 have h1:=setR_app a b C 0
 rw [Nat.zero_add,ha]at h1
 have h2:=setR_app (a++b) c C 0
 rw [Nat.zero_add,laP,ha,hb]at h2
 rw [←h1,←h2,setR_all _ _ (by simp [ha,hb,hc,hC];omega)]
theorem hlC_len(ha:a.length=32)(he:e.length=32)(ho:o.length=32):(hlC a e o).length=96:=by simp [hlC,ha,he,ho]
theorem hlC_1(ha:a.length=32)(he:e.length=32)(ho:o.length=32):(hlC a e o).take 32=iv .u8 a:=by
 unfold hlC
 rw [List.append_assoc,List.take_append_of_le_length (by simp [ha]),tkL (by simp [ha])]
theorem hlC_2(ha:a.length=32)(he:e.length=32)(ho:o.length=32):((hlC a e o).drop 32).take 32=iv .u8 e:=by
 unfold hlC
 rw [List.append_assoc,List.drop_append_of_le_length (by simp [ha]),List.drop_of_length_le (by simp [ha]),List.nil_append,List.take_append_of_le_length (by simp [he]),tkL (by simp [he])]
theorem hlC_3(ha:a.length=32)(he:e.length=32)(ho:o.length=32):((hlC a e o).drop 64).take 32=iv .u8 o:=by
 unfold hlC
 rw [List.drop_append_of_le_length (by simp [ha,he]),List.drop_of_length_le (by simp [ha,he]),List.nil_append,tkL (by simp [ho])]
theorem hlC_all(ha:a.length=32)(he:e.length=32)(ho:o.length=32):(hlC a e o).take 96=hlC a e o:=tkL (by rw [hlC_len ha he ho];omega)
theorem hlC_set(ha:a.length=32)(he:e.length=32)(ho:o.length=32)(hC:C.length=96):setR C 0 (hlC a e o)=hlC a e o:=setR_all _ _ (by rw [hlC_len ha he ho,hC])
theorem hlC_build(ha:a.length=32)(he:e.length=32)(ho:o.length=32)(hC:C.length=96):setR (setR (setR C 0 (iv .u8 a)) 32 (iv .u8 e)) 64 (iv .u8 o)=hlC a e o:=row3C (n:=32) (by simp [ha]) (by simp [he]) (by simp [ho]) (by omega)
end
theorem pr_append{nro:Nat}{H0 G:AH}{A Y:List Nat}{b:Nat}{T:List TermD}{av x:Value}{all new:List PrD}(h:Kt H0 (A++Y) G b T)(ho:OwnF G av 180 64 (prs all) A)(hn:∀j∈A,nro≤j)(hstr:∀s,x≠.string s)(hx:xcells 64 x G=some (prs new))(ka:PrOk all)(kn:PrOk new)(hm:all.length+new.length≤1000000) :
  ∃v' G' C,xappend Tryd.prog nro 181 av x G=some (v',G')∧Kt H0 (C++Y) G' b T∧OwnF G' v' 180 64 (prs (all++new)) C∧G.length≤G'.length∧(∀j,j<G.length→j∉A→hget G' j=hget G j)∧(∀j∈C,G.length≤j):=by
 have l1:=pr_len ka
 have l2:=pr_len kn
 obtain⟨v',G',C,h1,h2,h3,h4,h5⟩:=ownF_appK (P:=Tryd.prog) (nro:=nro) (t := 181) (e := 180) (H:=G) (v:=av) (x:=x) (sz:=64) (cells:=prs all) (news:=prs new) (F:=A) (by kernel_rfl) (by kernel_rfl) (by omega) (by kernel_rfl) ho hn hstr hx (by omega) (by rw [show byt Tryd.prog 180 = 64 by kernel_rfl];omega) (by simp [maxLen];omega)
 rw [←prs_app]at h2
 exact⟨v',G',C,h1,h.swap h3 h4 (fun j hj=>⟨h5 j hj,h2.lt j hj⟩),h2,h3,h4,h5⟩
theorem own_pr{H:AH}{v:Value}{l:List PrD}{F:List Nat}(h:OwnF H v 180 64 (prs l) F)(hl:PrOk l)(h0:0<l.length):∃j,v=.slice (some ⟨j,0,none⟩) l.length l.length∧hget H j=some ⟨prs l, 180,some 64⟩∧F=[j]:=by
 have hc:=pr_len hl
 rcases h with ⟨_,e,_⟩ | ⟨j,len,rfl,h2,h3,rfl⟩
 ·rw [e]at hc;simp at hc;omega
 ·have:len=l.length:=by omega
  subst this
  exact⟨j,rfl,h2,rfl⟩
def bgD:List (Option Nat):=[some 69,some 70,some 71,some 72,some 73,some 74,some 75,some 76,some 77,some 78,none,none,none,some 11]
def bgP:List (List Nat):=[[],[],[0,1],[],[],[2,3,4],[],[2,5,6],[],[],[0,1,2,3,4,5,6,7],[0,1,2,3,4,5,6,7,8,10],[0,1,2,3,4,5,6,7,8,9,10,11],[0,1,2,3,4,5,6,7,8,9,10,11,12]]
def bgV(b:Nat)(id eph NI NE one N bid bpre:List Int)(ov:Value)(G:AH)(X:List Nat)(i:Nat)(v:Value):Prop:=match i with
 | 0=>v=.iface 43 (.agg #[.pointer (some ⟨b,0,none⟩)])
 | 1=>v=.agg (iv .u8 id).toArray
 | 2=>v=.agg (iv .u8 NI).toArray
 | 3=>v=.iface 43 (.agg #[.pointer (some ⟨b,0,none⟩)])
 | 4=>v=.agg (iv .u8 eph).toArray
 | 5=>v=.agg (iv .u8 NE).toArray
 | 6=>v=.agg (iv .u8 one).toArray
 | 7=>v=.agg (hlC NI NE one).toArray
 | 8=>v=.agg (iv .u8 N).toArray
 | 9=>v=.agg (bnC bid bpre ov).toArray
 | 13=>v=.int .i64 0
 | _=>True
def bgS(b:Nat)(id eph NI NE one N bid bpre:List Int)(ov:Value):List Slot:=[⟨none,8,10,iv .u8 (zl 96), 104,fun G X cs=>cs=hlC NI NE one⟩,⟨none,9,11,iv .u8 (zl 32), 26,fun G X cs=>cs=iv .u8 N⟩,⟨none,10,12,iv .u8 (zl 64)++[.slice none 0 0], 101,fun G X cs=>cs=bnC bid bpre ov⟩]
def begL(id eph bid bpre:List Int)(os:List (List Int)):List PrD:=[(id,bpre),(eph,bid),(eph,bpre)]++(os.take 1).map fun o=>(eph,o)
def oneOf(os:List (List Int)):List Int:=os.headD (zl 32)
def begT0(id eph bid bpre:List Int)(os:List (List Int))(T:List TermD):List TermD:=addT (helD (begL id eph bid bpre os) T) (agsT (begL id eph bid bpre os) T)
def begT(id eph bid bpre:List Int)(os:List (List Int))(T:List TermD):List TermD:=addT (pubD eph) (addT (pubD id) (begT0 id eph bid bpre os T))
def begN(id eph bid bpre:List Int)(os:List (List Int))(T:List TermD):List Int:=nN (helD (begL id eph bid bpre os) T) (agsT (begL id eph bid bpre os) T)
def Beg28Q(H0:AH)(Y:List Nat)(B:AH)(b:Nat)(T':List TermD)(NI NE one N bid bpre:List Int)(os:List (List Int))(v':Value)(H':AH):Prop:=
 ∃R ov,v'=.tuple #[.agg (hlC NI NE one).toArray,.agg (iv .u8 N).toArray,.agg (bnC bid bpre ov).toArray,.int .i64 0]∧FrK H0 Y B b T' R H'∧KoV R H' ov (os.drop 1)
attribute [local simp] wb_bool wb_undef with_lit XL_nil XL_cons XLc_val XLc_call step1_eq stepW_t stepW_f stepC_n stepC_s stepX_s stepX_n stepN_s calleeX xrecv oneV xop_eq xopR_s xopR_n wantedA_eq wantedG_n wantedG_s plain1_int plain1_bool plain1_string bits_i64 bits_u64 bits_u32 bits_u16 bits_u8 xeqA xagg xcmp xarr allK_iv num_iv calleeOf xread xeff xbin xint xnil xun xstr xload xconv xpart xfield xfieldAddr xindexAddr xindex bnd asInt? xslice xlen xmin xmax xbuild xfill xappend xapp2 xappstr xappmk xcap xcopy xcells eval_tmp eval_const put_at put_none fr0_at cells_agg cells_int cells_bool cells_string cells_ptr cells_slice notTuple tab iv_all hget_app hget_app0 hget_cons0 hget_cons set_app set_app0 setR setR_one QL_nil QL_cons QLc_val stepQ_t stepQ_f stepQC_n stepQC_s stepQX_s SL_nil SL_cons SLc_val stepS_t stepS_f ltT ltF leT leF eqT eqF ltTn ltFn leTn leFn eqTn eqFn beqT beqF bneT bneF wi64 wu64 wu32 wu16 wu8 tmodP tdivP hgetL hgetNe hgetEq setL nums_def nums_len Nat.succ_le_of_lt List.getElem?_cons_zero List.getElem?_cons_succ Option.getD_some Int.toNat_add Int.toNat_mul agM okM agB agI agS agP agL agA okB okI okS okP okSl okA thenQ_ret scopeQ_ret inBlockQ_ret RQ resL resV
theorem begin28_ac{γ:Nat→Option Nat}{H0 B:AH}{Y:List Nat}{b:Nat}{T:List TermD}(hpw:Pw γ H0)(h:Kt H0 Y B b T){id eph bid bpre:List Int}{bv:Value}{os:List (List Int)}(li:id.length=32)(bi:By id)(le:eph.length=32)(be:By eph)(lb:bid.length=32)(bb:By bid)(nb:bid≠zl 32)(lp:bpre.length=32)(bp:By bpre)(np:bpre≠zl 32)
  (hK:KoV Y B bv os) (hk:∀k∈os,k.length=32∧By k∧k≠zl 32) (hk1:os.length≤100000) (hT:T.length≤800000) :
  AC Tryd.prog H0.length γ 45 #[kitV b,.agg (iv .u8 id).toArray,.agg (iv .u8 eph).toArray,.agg (bnC bid bpre bv).toArray] B
   (Beg28Q H0 Y B b (begT id eph bid bpre os T) (nN (pubD id) (begT0 id eph bid bpre os T)) (nN (pubD eph) (addT (pubD id) (begT0 id eph bid bpre os T))) (oneOf os) (begN id eph bid bpre os T) bid bpre os):=by
 have hnt:=hK.nt
 have k32:K32 os:=fun k hm=>(hk k hm).1
 have hpl:plain1 (.slice none 0 0)=true:=rfl
 have hall:=bnC_all (v:=bv) lb lp
 have hl65:=bnC_len (v:=bv) lb lp
 have ti:(iv .u8 id).take 32=iv .u8 id:=tkL (by simp [li])
 have te:(iv .u8 eph).take 32=iv .u8 eph:=tkL (by simp [le])
 have hlen:=hK.len
 have hnB:=h.le
 unfold kitV
 obtain⟨r,hr⟩:∃r,r=B.length:=⟨_,rfl⟩
 refine ac_of_aw Tryd.func45 rfl Tryd.ntmps45 Tryd.results45 (by simp) ?_
 (refine aso fun K hK=>?_;simp (disch:=first|omega|simp only [lnS];try omega) [-getElem?_pos,-getElem?_neg,hall,hl65,ti,te,li,le];refine hK _ _ ?_;clear hK K)
 (refine aso fun K hK=>?_;simp (disch:=first|omega|simp only [lnS];try omega) [-getElem?_pos,-getElem?_neg];refine hK _ _ ?_;clear hK K)
 obtain⟨B1,hB1⟩:∃B1:AH,B1=B++[some ⟨iv .u8 id, 26,none⟩,some ⟨iv .u8 eph, 26,none⟩,some ⟨bnC bid bpre bv, 101,none⟩,some ⟨iv .u8 (zl 96), 104,none⟩,some ⟨iv .u8 (zl 32), 26,none⟩,some ⟨iv .u8 (zl 64)++[.slice none 0 0], 101,none⟩,some ⟨iv .u8 (zl 32), 26,none⟩]:=⟨_,rfl⟩
 have gi:hget B1 r=some ⟨iv .u8 id, 26,none⟩:=by rw [hB1,hr,hget_app0];rfl
 have ge:hget B1 (r+1)=some ⟨iv .u8 eph, 26,none⟩:=by rw [hB1,hr,hget_app];rfl
 have gb:hget B1 (r+2)=some ⟨bnC bid bpre bv, 101,none⟩:=by rw [hB1,hr,hget_app];rfl
 have gh:hget B1 (r+3)=some ⟨iv .u8 (zl 96), 104,none⟩:=by rw [hB1,hr,hget_app];rfl
 have gk:hget B1 (r+4)=some ⟨iv .u8 (zl 32), 26,none⟩:=by rw [hB1,hr,hget_app];rfl
 have gB:hget B1 (r+5)=some ⟨iv .u8 (zl 64)++[.slice none 0 0], 101,none⟩:=by rw [hB1,hr,hget_app];rfl
 have go:hget B1 (r+6)=some ⟨iv .u8 (zl 32), 26,none⟩:=by rw [hB1,hr,hget_app];rfl
 have l1:B1.length=r+7:=by rw [hB1];simp [hr]
 have s1:∀j,j<B.length→hget B1 j=hget B j:=fun j hj=>by rw [hB1];exact hget_left hj
 have k1:Kt H0 ([r,r+1,r+2,r+3,r+4,r+5,r+6]++Y) B1 b T:=h.grow (by rw [hB1];exact⟨fun j hj=>hget_left hj,by simp⟩) (fun j hj=>by simp only [mcN]at hj;omega)
 rw [←hr,←hB1]
 clear hB1
 have lo1:r+6<B1.length:=by omega
 have pr1:=rowP (C:=iv .u8 (zl 64)) li lp (by simp)
 have pr2:=rowP (C:=iv .u8 (zl 64)) le lb (by simp)
 have pr3:=rowP (C:=iv .u8 (zl 64)) le lp (by simp)
 have b1:=bnC_1 (v:=bv) lb lp
 have b2:=bnC_2 (v:=bv) lb lp
 have b3:=bnC_3 (v:=bv) lb lp
 have q1:(iv .u8 id++iv .u8 bpre).take 64=iv .u8 id++iv .u8 bpre:=tkL (by simp [li,lp])
 have q2:(iv .u8 eph++iv .u8 bid).take 64=iv .u8 eph++iv .u8 bid:=tkL (by simp [le,lb])
 have q3:(iv .u8 eph++iv .u8 bpre).take 64=iv .u8 eph++iv .u8 bpre:=tkL (by simp [le,lp])
 have li0:=hget_lt gi
 have le0:=hget_lt ge
 have lb0:=hget_lt gb
 have rw3:setR (setR (setR (List.map (fun j=>(iv .u8 (zl 64))[j%64]?.getD undef) (List.range 192)) 0 (iv .u8 id++iv .u8 bpre)) 64 (iv .u8 eph++iv .u8 bid)) 128 (iv .u8 eph++iv .u8 bpre)=prs [(id,bpre),(eph,bid),(eph,bpre)]:=
  (row3C (n:=64) (by simp [li,lp]) (by simp [le,lb]) (by simp [le,lp]) (by simp)).trans (by simp [prs,prC])
 have ok3:PrOk [(id,bpre),(eph,bid),(eph,bpre)]:=fun p hp=>by
  simp only [mcN]at hp
  rcases hp with rfl | rfl | rfl
  ·exact⟨li,bi,lp,bp,np⟩
  ·exact⟨le,be,lb,bb,nb⟩
  ·exact⟨le,be,lp,bp,np⟩
 (refine aso fun K hK=>?_;simp (disch:=first|omega|simp only [lnS];try omega) [-getElem?_pos,-getElem?_neg,gi,ge,gb,li0,le0,lb0,ti,te,b1,b2,pr1,pr2,pr3,q1,q2,q3,li,le,lb,lp,nt_aggG,nt_slG,rw3];refine hK _ _ ?_;clear hK K)
 have hp3:hget (B1++[some ⟨prs [(id,bpre),(eph,bid),(eph,bpre)], 180,some 64⟩]) B1.length=some ⟨prs [(id,bpre),(eph,bid),(eph,bpre)], 180,some 64⟩:=by rw [hget_app0];rfl
 obtain⟨B2,hB2⟩:∃B2:AH,B2=B1++[some ⟨prs [(id,bpre),(eph,bid),(eph,bpre)], 180,some 64⟩]:=⟨_,rfl⟩
 have k2:Kt H0 (B1.length::([r,r+1,r+2,r+3,r+4,r+5,r+6]++Y)) B2 b T:=by rw [hB2];exact k1.push _
 have l2:B2.length=r+8:=by rw [hB2];simp [l1]
 have s2:∀j,j<B1.length→hget B2 j=hget B1 j:=fun j hj=>by rw [hB2];exact hget_left hj
 rw [←hB2]at hp3
 rw [←hB2]
 clear hB2
 have gb2:=(s2 (r+2) (by omega)).trans gb
 have ge2:=(s2 (r+1) (by omega)).trans ge
 have go2:=(s2 (r+6) (by omega)).trans go
 have okL:PrOk (begL id eph bid bpre os):=by
  intro p hp
  rcases maP.1 hp with hp | hp
  ·exact ok3 p hp
  ·obtain⟨o,ho,rfl⟩:=List.mem_map.1 hp
   have:=hk o (List.mem_of_mem_take ho)
   exact⟨le,be,this.1,this.2.1,this.2.2⟩
 have lo2:r+7<B2.length:=by omega
 have hKB:=hK.step (R':=Y) (G':=B2) (fun j hj=>⟨hj,by have:=(h.y j hj).2;exact (s2 j (by omega)).trans (s1 j this)⟩)
 refine aw_seq ?_
 refine aw_cut (fun α G=>α 0=.iface 43 (.agg #[.pointer (some ⟨b,0,none⟩)])∧α 5=.pointer (some ⟨r,0,none⟩)∧α 6=.pointer (some ⟨r+1,0,none⟩)∧α 7=.pointer (some ⟨r+2,0,none⟩)∧α 8=.pointer (some ⟨r+3,0,none⟩)∧α 9=.pointer (some ⟨r+4,0,none⟩)∧α 10=.pointer (some ⟨r+5,0,none⟩)∧α 12=.pointer (some ⟨r+6,0,none⟩) ∧
  ∃j,α 13=.slice (some ⟨j,0,none⟩) (begL id eph bid bpre os).length (begL id eph bid bpre os).length∧hget G j=some ⟨prs (begL id eph bid bpre os), 180,some 64⟩∧r+7≤j∧Kt H0 (j::([r,r+1,r+2,r+3,r+4,r+5,r+6]++Y)) G b T∧(∀i∈[r,r+1,r+2,r+3,r+4,r+5]++Y,hget G i=hget B1 i)∧hget G (r+6)=some ⟨iv .u8 (oneOf os), 26,none⟩∧B2.length≤G.length) ?_ ?_
 ·refine aw_seq ?_
  match os,hk,k32,hlen,okL,hKB with
  | [],hk,k32,hlen,okL,hKB=>
   have hlen:xlen Tryd.prog 23 bv=some (.int .i64 0):=hlen
   (refine aoo fun K hK=>?_;simp (disch:=first|omega|simp only [lnS];try omega) [-getElem?_pos,-getElem?_neg,gb2,b3,hnt.1,-notTuple,-xlen,hlen,nt_intG];refine hK _ _ ?_;clear hK K)
   refine awf (by simp [eval_tmp,put_at]<;>omega) ?_
   refine aw_skip ?_
   refine⟨by (first|simp [put_at,put_none,fr0_at];done|rfl),by (first|simp [put_at,put_none,fr0_at];done|rfl),by (first|simp [put_at,put_none,fr0_at];done|rfl),by (first|simp [put_at,put_none,fr0_at];done|rfl),by (first|simp [put_at,put_none,fr0_at];done|rfl),by (first|simp [put_at,put_none,fr0_at];done|rfl),by (first|simp [put_at,put_none,fr0_at];done|rfl),by (first|simp [put_at,put_none,fr0_at];done|rfl),B1.length,by (first|simp [put_at,put_none,fr0_at];done|rfl),hp3,by omega,k2,fun i hi=>s2 i ?_,go2,nlE _⟩
   have:=k1.y i (by
    rcases maP.1 hi with e | e
    ·exact List.mem_append_left _ (by simp only [mcN]at e ⊢;omega)
    ·exact List.mem_append_right _ e)
   omega
  | o::rest,hk,k32,hlen,okL,hKB=>
   obtain⟨lo,bo,no⟩:=hk o (by simp)
   have hlen:xlen Tryd.prog 23 bv=some (.int .i64 ((rest.length+1:Nat):Int)):=hlen
   have hps:(0:Int)<((rest.length+1:Nat):Int):=by omega
   have hto:(iv .u8 o).take 32=iv .u8 o:=tkL (by simp [lo])
   have hso:setR (iv .u8 (zl 32)) 0 (iv .u8 o)=iv .u8 o:=setR_all _ _ (by simp [lo])
   have hob:(o==zl 32)=false:=by rw [beq_eq_false_iff_ne];exact no
   obtain⟨p,y,n1,p1,n2,ey,ld⟩:=((hKB.now k32).acc k32).at_ 0 (by simp)
   have ey:y=.agg (iv .u8 o).toArray:=ey
   subst ey
   have p1:xindexAddr Tryd.prog 23 bv (.int .i64 0)=some p:=p1
   have ld2:=ld B2 ⟨fun _ _=>rfl,nlE _⟩
   have hn6:H0.length≤r+6:=by omega
   have lo6:r+6<B2.length:=by omega
   have lo1':r+1<B2.length:=by omega
   generalize hz:((rest.length+1:Nat):Int)=z at *
   have ldb:xload Tryd.prog 23 (.pointer (some ⟨r+2,64,none⟩)) B2=some bv:=by
    have h1:und Tryd.prog 23 = .slice 26 := by kernel_rfl
    simp [xload,gb2,b3,isAggD,okD,h1]
   (refine aoo fun K hK=>?_;simp (disch:=first|omega|simp only [lnS];try omega) [-getElem?_pos,-getElem?_neg,gb2,b3,hnt.1,-notTuple,-xlen,hlen,nt_intG,hps];refine hK _ _ ?_;clear hK K)
   refine awt (by simp [eval_tmp,put_at]<;>omega) ?_
   refine aso fun K hK=>?_
   simp (disch:=first|omega|simp only [lnS];try omega) [-getElem?_pos,-getElem?_neg,ldb,hnt.1,-notTuple,-xindexAddr,p1,-xload,ld2,go2,hto,hso,hn6,lo6,lo,nt_aggG,nt_ptrG,n1]
   refine hK _ _ ?_;clear hK K
   obtain⟨B3,hB3⟩:∃B3:AH,B3=B2.set (r+6) (some ⟨iv .u8 o, 26,none⟩):=⟨_,rfl⟩
   have k3:Kt H0 (B1.length::([r,r+1,r+2,r+3,r+4,r+5,r+6]++Y)) B3 b T:=by rw [hB3];exact k2.set (by simp) _
   have l3:B3.length=B2.length:=by rw [hB3];simp
   have s3:∀j,j≠r+6→hget B3 j=hget B2 j:=fun j hj=>by rw [hB3];exact hget_set_ne (Ne.symm hj)
   have go3:hget B3 (r+6)=some ⟨iv .u8 o, 26,none⟩:=by rw [hB3];exact hget_set_eq lo6
   have ge3:=(s3 (r+1) (by omega)).trans ge2
   have hp4:=(s3 B1.length (by omega)).trans hp3
   rw [←hB3]
   clear hB3
   have lo63:=hget_lt go3
   have lo13:=hget_lt ge3
   refine aw_seq (aw_seq ?_)
   (refine aoo fun K hK=>?_;simp (disch:=first|omega|simp only [lnS];try omega) [-getElem?_pos,-getElem?_neg,go3,lo63,hto,hob,nt_aggG];refine hK _ _ ?_;clear hK K)
   refine awf (by simp [eval_tmp,put_at]<;>omega) ?_
   refine aw_skip ?_
   have pr4:=rowP (C:=iv .u8 (zl 64)) le lo (by simp)
   have q4:(iv .u8 eph++iv .u8 o).take 64=iv .u8 eph++iv .u8 o:=tkL (by simp [le,lo])
   have rw1:setR (List.map (fun j=>(iv .u8 (zl 64))[j%64]?.getD undef) (List.range 64)) 0 (iv .u8 eph++iv .u8 o)=prs [(eph,o)]:=(setR_all _ _ (by simp [le,lo])).trans (by simp [prs,prC])
   have lp1:(prs [(eph,o)]).length=64:=by simp [prs,prC,le,lo]
   have okO:PrOk [(eph,o)]:=fun p hp=>by rw [msG.1 hp];exact⟨le,be,lo,bo,no⟩
   have hxc:xcells 64 (.slice (some ⟨B3.length,0,none⟩) 1 1) (B3++[some ⟨prs [(eph,o)], 180,some 64⟩])=some (prs [(eph,o)]):=by
    simp [xcells,hget_app0,hget_cons0,lp1,tkL]
   obtain⟨v4,G4,C,hap,k4,ho4,l4,s4,hC⟩:=pr_append (nro:=H0.length) (A:=[B1.length]) (Y:=[r,r+1,r+2,r+3,r+4,r+5,r+6]++Y) (k3.low (G':=B3++[some ⟨prs [(eph,o)], 180,some 64⟩]) ⟨fun j hj=>hget_left hj,by simp⟩) (av:=.slice (some ⟨B1.length,0,none⟩) 3 3) (.inr ⟨B1.length,3,rfl,(hget_left (by omega)).trans hp4,pr_len ok3,rfl⟩) (fun j hj=>by rw [msG.1 hj];omega) (fun s e=>by cases e) hxc ok3 okO (by simp)
   obtain⟨j4,rfl,gj4,rfl⟩:=own_pr ho4 (fun p hp=>by
    rcases maP.1 hp with e | e
    ·exact ok3 p e
    ·exact okO p e) (by simp)
   have hl3:(B3++[some (⟨prs [(eph,o)], 180,some 64⟩:Blk)]).length=B3.length+1:=by simp
   have hap:xappend Tryd.prog H0.length 181 (.slice (some ⟨B1.length,0,none⟩) 3 3) (.slice (some ⟨B3.length,0,none⟩) 1 1) (B3++[some ⟨prs [(eph,o)], 180,some 64⟩])=some (.slice (some ⟨j4,0,none⟩) 4 4,G4):=hap
   (refine aoo fun K hK=>?_;simp (disch:=first|omega|simp only [lnS];try omega) [-getElem?_pos,-getElem?_neg,go3,ge3,lo13,lo63,te,hto,le,lo,pr4,q4,rw1,nt_aggG,nt_slG,-notTuple,hpl,-xappend,hap];refine hK _ _ ?_;clear hK K)
   refine⟨by (first|simp [put_at,put_none,fr0_at];done|rfl),by (first|simp [put_at,put_none,fr0_at];done|rfl),by (first|simp [put_at,put_none,fr0_at];done|rfl),by (first|simp [put_at,put_none,fr0_at];done|rfl),by (first|simp [put_at,put_none,fr0_at];done|rfl),by (first|simp [put_at,put_none,fr0_at];done|rfl),by (first|simp [put_at,put_none,fr0_at];done|rfl),by (first|simp [put_at,put_none,fr0_at];done|rfl),j4,by (first|simp [put_at,put_none,fr0_at];done|rfl),gj4,by have:=hC j4 (by simp);omega,k4,fun i hi=>?_,?_,by omega⟩
   ·have hi1:i<B1.length:=(k1.y i (by
     rcases maP.1 hi with e | e
     ·exact List.mem_append_left _ (by simp only [mcN]at e ⊢;omega)
     ·exact List.mem_append_right _ e)).2
    have hi6:i≠r+6:=by
     rcases maP.1 hi with e | e
     ·simp only [mcN]at e;omega
     ·have:=(h.y i e).2;omega
    rw [s4 i (by omega) (by simp;omega),hget_left (by omega),s3 i hi6,s2 i hi1]
   ·rw [s4 (r+6) (by omega) (by simp;omega),hget_left (by omega)]
    exact go3
 rintro α G ⟨a0,a5,a6,a7,a8,a9,a10,a12,j,a13,gj,hjr,kt,sW,gO,lG⟩
 clear hKB hp3 k2 s2 gb2 ge2 go2 rw3 ok3
 have one32:(oneOf os).length=32:=by
  unfold oneOf
  cases os with
  | nil=>rfl
  | cons o rest=>exact (hk o (by simp)).1
 have hL4:(begL id eph bid bpre os).length≤4:=by
  unfold begL
  simp only [laP,List.length_cons,List.length_nil,List.length_map,List.length_take]
  omega
 have hcall:=agreed_ac hpw kt (v:=.slice (some ⟨j,0,none⟩) (begL id eph bid bpre os).length (begL id eph bid bpre os).length) rfl gj (by simp) okL (by omega) (by omega)
 unfold kitV at hcall
 refine aso fun K hK=>?_
 simp (disch:=first|omega|simp only [lnS];try omega) [-getElem?_pos,-getElem?_neg,a0,a13,nt_aggG,nt_slG,-notTuple]
 refine⟨by kernel_rfl,AC.mono hcall ?_⟩
 rintro v1 G1 ⟨rfl,kt1,st1,lt1⟩
 have lN:(begN id eph bid bpre os T).length=32:=rfl
 have eN:nN (helD (begL id eph bid bpre os) T) (agsT (begL id eph bid bpre os) T)=begN id eph bid bpre os T:=rfl
 have eT:addT (helD (begL id eph bid bpre os) T) (agsT (begL id eph bid bpre os) T)=begT0 id eph bid bpre os T:=rfl
 rw [eT]at kt1
 rw [eN]
 have tl0:(begT0 id eph bid bpre os T).length≤T.length+5:=by
  unfold begT0
  have h1:=addT_len (helD (begL id eph bid bpre os) T) (agsT (begL id eph bid bpre os) T)
  have h2:=agsT_len (begL id eph bid bpre os) T
  omega
 generalize begN id eph bid bpre os T=N at *
 generalize hT0:begT0 id eph bid bpre os T=T0 at *
 have htN:(iv .u8 N).take 32=iv .u8 N:=tkL (by simp [lN])
 have hsN:setR (iv .u8 (zl 32)) 0 (iv .u8 N)=iv .u8 N:=setR_all _ _ (by simp [lN])
 have hn1:=kt1.le
 try simp (disch:=first|omega|simp only [lnS];try omega) [-getElem?_pos,-getElem?_neg,lN,htN,hsN,nt_aggG,nt_boolG,-notTuple,hn1]
 refine hK _ _ ?_;clear hK K
 obtain⟨G2,hG2⟩:∃G2:AH,G2=G1++[some ⟨iv .u8 N, 26,none⟩]:=⟨_,rfl⟩
 obtain⟨n14,hn14⟩:∃n14,n14=G1.length:=⟨_,rfl⟩
 have kt2:=kt1.push (some ⟨iv .u8 N, 26,none⟩)
 rw [←hG2,←hn14]at kt2
 have g14:hget G2 n14=some ⟨iv .u8 N, 26,none⟩:=by rw [hG2,hn14,hget_app0];rfl
 have l2':G2.length=n14+1:=by rw [hG2,hn14];simp
 have st2:∀i∈j::([r,r+1,r+2,r+3,r+4,r+5,r+6]++Y),hget G2 i=hget G i:=fun i hi=>by
  rw [hG2,hget_left (kt1.y i hi).2];exact st1 i hi
 rw [←hn14,←hG2]
 clear hG2 st1 kt1 kt hcall
 have W2:∀i∈[r,r+1,r+2,r+3,r+4,r+5]++Y,hget G2 i=hget B1 i:=fun i hi=>(st2 i (by
  rcases maP.1 hi with e | e
  ·refine List.mem_cons_of_mem _ (List.mem_append_left _ ?_)
   simp only [mcN]at e ⊢;omega
  ·exact List.mem_cons_of_mem _ (List.mem_append_right _ e))).trans (sW i hi)
 have gb2:=(W2 (r+2) (by simp)).trans gb
 have gO2:=(st2 (r+6) (by simp)).trans gO
 have hn14r:r+7<n14:=by
  have:=(kt2.y j (by simp)).2
  omega
 refine aw_seq (aw_seq ?_)
 (refine aoo fun K hK=>?_;simp (disch:=first|omega|simp only [lnS];try omega) [-getElem?_pos,-getElem?_neg];refine hK _ _ ?_;clear hK K)
 refine awf (by simp [eval_tmp,put_at]<;>omega) ?_
 refine aw_skip ?_
 have hKG:=hK.step (R':=Y) (G':=G2) (fun i hi=>⟨hi,(W2 i (by simp [hi])).trans (s1 i (h.y i hi).2)⟩)
 obtain⟨m,hm⟩:∃m:Nat,m=min os.length 1:=⟨_,rfl⟩
 have hmin:xmin (.int .i64 (os.length:Nat)) (.int .i64 1)=some (.int .i64 (m:Nat)):=by
  have:(if (1:Int)<(os.length:Nat) then (1:Int) else (os.length:Nat))=(m:Nat):=by split <;> omega
  simp [xmin,this]
 obtain⟨sv,hsl,svn,svc,hpt⟩:=hKG.cut k32 (m:=m) (by omega)
 have hdm:os.drop m=os.drop 1:=by
  cases os with
  | nil=>simp
  | cons o rest=>rw [hm];simp
 rw [hdm]at hpt
 have k32d:K32 (os.drop 1):=fun k hk'=>k32 k (List.mem_of_mem_drop hk')
 have hcl:=kt_clone (γ:=γ) kt2 hpt k32d (by rw [List.length_drop];omega)
 have ldb:xload Tryd.prog 23 (.pointer (some ⟨r+2,64,none⟩)) G2=some bv:=by
  have h1:und Tryd.prog 23 = .slice 26 := by kernel_rfl
  simp [xload,gb2,b3,isAggD,okD,h1]
 have hlen:xlen Tryd.prog 23 bv=some (.int .i64 (os.length:Nat)):=hlen
 refine aso fun K hK=>?_
 simp (disch:=first|omega|simp only [lnS];try omega) [-getElem?_pos,-getElem?_neg,a7,-xload,ldb,hnt.1,svn,-notTuple,-xlen,hlen,-xmin,hmin,-xslice,hsl,nt_intG,nt_slG,nt_ptrG]
 refine⟨by kernel_rfl,AC.mono hcl ?_⟩
 rintro ov G3 ⟨R,hov,fk⟩
 have ont:=hov.nt
 have gb3:=(fk.st (r+2) (by simp)).trans gb2
 have lb3:=hget_lt gb3
 have hn3:H0.length≤r+2:=by omega
 have hup:(bnC bid bpre bv).set 64 ov=bnC bid bpre ov:=bnC_upd lb lp
 have hl65':=bnC_len (v:=ov) lb lp
 try simp (disch:=first|omega|simp only [lnS];try omega) [-getElem?_pos,-getElem?_neg,gb3,lb3,hn3,ont.1,ont.2,-notTuple,hup,hl65]
 refine hK _ _ ?_;clear hK K
 obtain⟨G4,hG4⟩:∃G4:AH,G4=G3.set (r+2) (some ⟨bnC bid bpre ov, 101,none⟩):=⟨_,rfl⟩
 have kt4:Kt H0 (R++(n14::j::([r,r+1,r+2,r+3,r+4,r+5,r+6]++Y))) G4 b T0:=by rw [hG4];exact fk.kt.set (by simp) _
 have s4:∀i,i≠r+2→hget G4 i=hget G3 i:=fun i hi=>by rw [hG4];exact hget_set_ne (Ne.symm hi)
 have gb4:hget G4 (r+2)=some ⟨bnC bid bpre ov, 101,none⟩:=by rw [hG4];exact hget_set_eq lb3
 have l4:G4.length=G3.length:=by rw [hG4];simp
 rw [←hG4]
 clear hG4
 have old4:∀i∈n14::j::([r,r+1,r+2,r+3,r+4,r+5,r+6]++Y),i≠r+2→hget G4 i=hget G2 i:=fun i hi hn=>(s4 i hn).trans (fk.st i hi)
 have gi4:=((old4 r (by simp) (by omega)).trans (W2 r (by simp))).trans gi
 have ge4:=((old4 (r+1) (by simp) (by omega)).trans (W2 (r+1) (by simp))).trans ge
 have gh4:=((old4 (r+3) (by simp) (by omega)).trans (W2 (r+3) (by simp))).trans gh
 have gk4:=((old4 (r+4) (by simp) (by omega)).trans (W2 (r+4) (by simp))).trans gk
 have gB4:=((old4 (r+5) (by simp) (by omega)).trans (W2 (r+5) (by simp))).trans gB
 have go4:=(old4 (r+6) (by simp) (by omega)).trans gO2
 have gn4:=(old4 n14 (by simp) (by omega)).trans g14
 have Rnew:∀i∈R,n14<i:=fun i hi=>by have:=fk.nw i hi;omega
 have hov4:=hov.step (R':=R) (G':=G4) (fun i hi=>⟨hi,s4 i (by have:=Rnew i hi;omega)⟩)
 have to1:(iv .u8 (oneOf os)).take 32=iv .u8 (oneOf os):=tkL (by simp [one32])
 generalize oneOf os=one at *
 obtain⟨Ta,hTa⟩:∃Ta,Ta=addT (pubD id) T0:=⟨_,rfl⟩
 obtain⟨Tb,hTb⟩:∃Tb,Tb=addT (pubD eph) Ta:=⟨_,rfl⟩
 obtain⟨NI,hNI⟩:∃NI,NI=nN (pubD id) T0:=⟨_,rfl⟩
 obtain⟨NE,hNE⟩:∃NE,NE=nN (pubD eph) Ta:=⟨_,rfl⟩
 have mI:NI.length=32:=by rw [hNI];rfl
 have mE:NE.length=32:=by rw [hNE];rfl
 have tla:Ta.length≤T0.length+1:=by rw [hTa];exact addT_len _ _
 have hYr:∀i∈Y,i<r:=fun i hi=>by have:=(h.y i hi).2;omega
 have ebT:begT id eph bid bpre os T=Tb:=by rw [hTb,hTa,←hT0];rfl
 rw [ebT]
 rw [←hTa,←hNI,←hNE]
 clear ebT
 refine aw_seq ?_
 refine name_aw (fun β hβ=>?_)
 have e0:β 0=.iface 43 (.agg #[.pointer (some ⟨b,0,none⟩)]):=by rw [hβ];(first|simp [put_at,put_none,fr0_at,a0];done|rfl)
 have e5:β 5=.pointer (some ⟨r,0,none⟩):=by rw [hβ];(first|simp [put_at,put_none,fr0_at,a5];done|rfl)
 have e6:β 6=.pointer (some ⟨r+1,0,none⟩):=by rw [hβ];(first|simp [put_at,put_none,fr0_at,a6];done|rfl)
 have e7:β 7=.pointer (some ⟨r+2,0,none⟩):=by rw [hβ];(first|simp [put_at,put_none,fr0_at,a7];done|rfl)
 have e8:β 8=.pointer (some ⟨r+3,0,none⟩):=by rw [hβ];(first|simp [put_at,put_none,fr0_at,a8];done|rfl)
 have e9:β 9=.pointer (some ⟨r+4,0,none⟩):=by rw [hβ];(first|simp [put_at,put_none,fr0_at,a9];done|rfl)
 have e10:β 10=.pointer (some ⟨r+5,0,none⟩):=by rw [hβ];(first|simp [put_at,put_none,fr0_at,a10];done|rfl)
 have e12:β 12=.pointer (some ⟨r+6,0,none⟩):=by rw [hβ];(first|simp [put_at,put_none,fr0_at,a12];done|rfl)
 have e14:β 14=.pointer (some ⟨n14,0,none⟩):=by rw [hβ];(first|simp [put_at,put_none,fr0_at];done|rfl)
 clear hβ
 have hob:=kt_obj (H0:=H0) (b:=b) (l:=[(2,Ta),(5,Tb)]) (T0:=T0)
 have hsh:shapeK bgD (bgS b id eph NI NE one N bid bpre ov) [2,5]=true:=rfl
 have hst:StV H0.length (bgV b id eph NI NE one N bid bpre ov):=by
  intro G G' X X' i v hl hn hx hv
  exact hv
 have hsc:∀k∈bgS b id eph NI NE one N bid bpre ov,StC H0.length k.c:=by
  intro k hk
  simp only [bgS,mcN]at hk
  rcases hk with rfl | rfl | rfl <;> exact fun G G' X X' cs hl hn hx hv=>hv
 refine aw_inv bgP (JkE H0.length bgD bgP (bgV b id eph NI NE one N bid bpre ov) (bgS b id eph NI NE one N bid bpre ov) (fun s Y G=>Kt H0 Y G b (stT [(2,Ta),(5,Tb)] T0 s)) β ([r,r+1,r+2,r+6,n14]++(R++Y)) G4) (by kernel_rfl) (by kernel_rfl) (by kernel_rfl) ?_ ?_ ?_
 ·refine JK.start (Y:=R++(n14::j::([r,r+1,r+2,r+3,r+4,r+5,r+6]++Y))) (by show Kt H0 _ G4 b (stT _ _ _);rw [stT_0];exact kt4) (fun i hi=>?_) (fun q=>r+3+q) ?_ ?_
  ·simp only [maP,mcN]at hi ⊢
   rcases hi with (h | h | h | h | h) | h | h <;> simp [h]
  ·intro k sk hk ha
   have hm:∀q,q<3→r+3+q∉[r,r+1,r+2,r+6,n14]++(R++Y):=fun q hq hm=>by
    simp only [maP,mcN]at hm
    rcases hm with h | h | h
    ·omega
    ·have:=Rnew _ h;omega
    ·have:=hYr _ h;omega
   match k,hk with
   | 0,hk=>cases hk;exact⟨e8,by simp,hm 0 (by omega),gh4⟩
   | 1,hk=>cases hk;exact⟨e9,by simp,hm 1 (by omega),gk4⟩
   | 2,hk=>cases hk;exact⟨e10,by simp,hm 2 (by omega),gB4⟩
  ·intro k k' sk sk' hk hk' hne _ _ e
   omega
 ·intro i s α G k hJ hi0 hsi hd hcc hcont
  obtain⟨X,Y,rs,hJ⟩:=hJ
  have gi:=(hJ.ss r (by simp)).2.trans gi4
  have ge:=(hJ.ss (r+1) (by simp)).2.trans ge4
  have gb:=(hJ.ss (r+2) (by simp)).2.trans gb4
  have go:=(hJ.ss (r+6) (by simp)).2.trans go4
  have gn:=(hJ.ss n14 (by simp)).2.trans gn4
  have li5:=hget_lt gi
  have le5:=hget_lt ge
  have lb5:=hget_lt gb
  have lo5:=hget_lt go
  have ln5:=hget_lt gn
  have j0:=(hJ.lo 0 (by decide)).trans e0
  have j5:=(hJ.lo 5 (by decide)).trans e5
  have j6:=(hJ.lo 6 (by decide)).trans e6
  have j7:=(hJ.lo 7 (by decide)).trans e7
  have j12:=(hJ.lo 12 (by decide)).trans e12
  have j14:=(hJ.lo 14 (by decide)).trans e14
  have hle:=hJ.le
  have hi:i=0∨i=1∨i=2∨i=3∨i=4∨i=5∨i=6∨i=7∨i=8∨i=9∨i=10∨i=11∨i=12∨i=13:=by have hi0:i<14:=hi0;omega
  rcases hi with rfl | rfl | rfl | rfl | rfl | rfl | rfl | rfl | rfl | rfl | rfl | rfl | rfl | rfl
  ·unfold XOm
   simp only [gcS]
   simp (disch:=first|omega|simp only [lnS];try omega) [-getElem?_pos,-getElem?_neg,-notTuple,nt_boolG,nt_aggG,nt_intG,nt_ptrG,nt_slG,nt_strG,j0,XO_s,XO_z,XLk_val,XLk_call,headsO,behind,List.length_cons,List.length_nil,mcN,forall_eq_or_imp,forall_eq,List.contains_cons,List.contains_nil]
   exact hcont _ _ ⟨X,Y,rs,hJ.plain hsh hob (i:=0) (t:=69) rfl (by decide) (by simp [bgS]) rfl hd⟩
  ·unfold XOm
   simp only [gcS]
   simp (disch:=first|omega|simp only [lnS];try omega) [-getElem?_pos,-getElem?_neg,-notTuple,nt_boolG,nt_aggG,nt_intG,nt_ptrG,nt_slG,nt_strG,j5,gi,li5,ti,li,XO_s,XO_z,XLk_val,XLk_call,headsO,behind,List.length_cons,List.length_nil,mcN,forall_eq_or_imp,forall_eq,List.contains_cons,List.contains_nil]
   exact hcont _ _ ⟨X,Y,rs,hJ.plain hsh hob (i:=1) (t:=70) rfl (by decide) (by simp [bgS]) rfl hd⟩
  ·have f0:α 69=.iface 43 (.agg #[.pointer (some ⟨b,0,none⟩)]):=hJ.val 0 69 rfl (hd 0 (by decide))
   have f1:α 70=.agg (iv .u8 id).toArray:=hJ.val 1 70 rfl (hd 1 (by decide))
   unfold XOm
   simp only [gcS]
   simp (disch:=first|omega|simp only [lnS];try omega) [-getElem?_pos,-getElem?_neg,f0,f1,xm_pub,nt_aggG,nt_ptrG,-notTuple,XO_s,XO_z,XLk_val,XLk_call,headsO,behind,List.length_cons,List.length_nil,mcN,forall_eq_or_imp,forall_eq,List.contains_cons,List.contains_nil]
   have ko:Kt H0 Y G b T0:=by have:=hJ.o;simp only [stT,hsi,if_true,Bool.false_eq_true,if_false]at this;exact this
   refine⟨by kernel_rfl,AC.mono (kt_pub hpw ko li bi (by omega)) ?_⟩
   rintro v' G' ⟨rfl,q1,q2,q3⟩
   have kold:=ko.old ⟨q1,q2,q3⟩
   have hTa:addT ⟨3,⟨#[]⟩,[id]⟩ T0=Ta:=hTa.symm
   rw [hTa]at q1
   exact hcont _ _ ⟨_,_,rs,hJ.call (R:=[]) (Y':=Y) hsh hst hsc (by have e:stT [(2,Ta),(5,Tb)] T0 (s.setIfInBounds 2 true)=Ta:=(by simp only [stT,sgE (show 2<s.size from by rw [hJ.sz];decide),sgN (show (2:Nat)≠5 by decide),hcc 5 (by decide),if_true,Bool.false_eq_true,if_false]);show Kt H0 _ G' b (stT [(2,Ta),(5,Tb)] T0 _);rw [e];exact q1) q3 kold (fun j hj=>⟨hj,q2 j hj⟩) (fun j hj=>by cases hj) (i:=2) (t:=71) rfl (by simp [bgS]) (by show _=_;rw [hNI];rfl) hd⟩
  ·unfold XOm
   simp only [gcS]
   simp (disch:=first|omega|simp only [lnS];try omega) [-getElem?_pos,-getElem?_neg,-notTuple,nt_boolG,nt_aggG,nt_intG,nt_ptrG,nt_slG,nt_strG,j0,XO_s,XO_z,XLk_val,XLk_call,headsO,behind,List.length_cons,List.length_nil,mcN,forall_eq_or_imp,forall_eq,List.contains_cons,List.contains_nil]
   exact hcont _ _ ⟨X,Y,rs,hJ.plain hsh hob (i:=3) (t:=72) rfl (by decide) (by simp [bgS]) rfl hd⟩
  ·unfold XOm
   simp only [gcS]
   simp (disch:=first|omega|simp only [lnS];try omega) [-getElem?_pos,-getElem?_neg,-notTuple,nt_boolG,nt_aggG,nt_intG,nt_ptrG,nt_slG,nt_strG,j6,ge,le5,te,le,XO_s,XO_z,XLk_val,XLk_call,headsO,behind,List.length_cons,List.length_nil,mcN,forall_eq_or_imp,forall_eq,List.contains_cons,List.contains_nil]
   exact hcont _ _ ⟨X,Y,rs,hJ.plain hsh hob (i:=4) (t:=73) rfl (by decide) (by simp [bgS]) rfl hd⟩
  ·have f3:α 72=.iface 43 (.agg #[.pointer (some ⟨b,0,none⟩)]):=hJ.val 3 72 rfl (hd 3 (by decide))
   have f4:α 73=.agg (iv .u8 eph).toArray:=hJ.val 4 73 rfl (hd 4 (by decide))
   unfold XOm
   simp only [gcS]
   simp (disch:=first|omega|simp only [lnS];try omega) [-getElem?_pos,-getElem?_neg,f3,f4,xm_pub,nt_aggG,nt_ptrG,-notTuple,XO_s,XO_z,XLk_val,XLk_call,headsO,behind,List.length_cons,List.length_nil,mcN,forall_eq_or_imp,forall_eq,List.contains_cons,List.contains_nil]
   have ko:Kt H0 Y G b Ta:=by have:=hJ.o;simp only [stT,(hd 2 (by decide)),hsi,if_true,Bool.false_eq_true,if_false]at this;exact this
   refine⟨by kernel_rfl,AC.mono (kt_pub hpw ko le be (by omega)) ?_⟩
   rintro v' G' ⟨rfl,q1,q2,q3⟩
   have kold:=ko.old ⟨q1,q2,q3⟩
   have hTb:addT ⟨3,⟨#[]⟩,[eph]⟩ Ta=Tb:=hTb.symm
   rw [hTb]at q1
   exact hcont _ _ ⟨_,_,rs,hJ.call (R:=[]) (Y':=Y) hsh hst hsc (by have e:stT [(2,Ta),(5,Tb)] T0 (s.setIfInBounds 5 true)=Tb:=(by simp only [stT,sgE (show 5<s.size from by rw [hJ.sz];decide),sgN (show (5:Nat)≠2 by decide),(hd 2 (by decide)),if_true,Bool.false_eq_true,if_false]);show Kt H0 _ G' b (stT [(2,Ta),(5,Tb)] T0 _);rw [e];exact q1) q3 kold (fun j hj=>⟨hj,q2 j hj⟩) (fun j hj=>by cases hj) (i:=5) (t:=74) rfl (by simp [bgS]) (by show _=_;rw [hNE];rfl) hd⟩
  ·unfold XOm
   simp only [gcS]
   simp (disch:=first|omega|simp only [lnS];try omega) [-getElem?_pos,-getElem?_neg,-notTuple,nt_boolG,nt_aggG,nt_intG,nt_ptrG,nt_slG,nt_strG,j12,go,lo5,to1,one32,XO_s,XO_z,XLk_val,XLk_call,headsO,behind,List.length_cons,List.length_nil,mcN,forall_eq_or_imp,forall_eq,List.contains_cons,List.contains_nil]
   exact hcont _ _ ⟨X,Y,rs,hJ.plain hsh hob (i:=6) (t:=75) rfl (by decide) (by simp [bgS]) rfl hd⟩
  ·have f2:α 71=.agg (iv .u8 NI).toArray:=hJ.val 2 71 rfl (hd 2 (by decide))
   have f5:α 74=.agg (iv .u8 NE).toArray:=hJ.val 5 74 rfl (hd 5 (by decide))
   have f6:α 75=.agg (iv .u8 one).toArray:=hJ.val 6 75 rfl (hd 6 (by decide))
   unfold XOm
   simp only [gcS]
   simp (disch:=first|omega|simp only [lnS];try omega) [-getElem?_pos,-getElem?_neg,-notTuple,nt_boolG,nt_aggG,nt_intG,nt_ptrG,nt_slG,nt_strG,mI,mE,one32,hlC_build (C:=iv .u8 (zl 96)) mI mE one32 (by simp),hpl,f2,f5,f6,XO_s,XO_z,XLk_val,XLk_call,headsO,behind,List.length_cons,List.length_nil,mcN,forall_eq_or_imp,forall_eq,List.contains_cons,List.contains_nil]
   exact hcont _ _ ⟨X,Y,rs,hJ.plain hsh hob (i:=7) (t:=76) rfl (by decide) (by simp [bgS]) rfl hd⟩
  ·unfold XOm
   simp only [gcS]
   simp (disch:=first|omega|simp only [lnS];try omega) [-getElem?_pos,-getElem?_neg,-notTuple,nt_boolG,nt_aggG,nt_intG,nt_ptrG,nt_slG,nt_strG,j14,gn,ln5,htN,lN,XO_s,XO_z,XLk_val,XLk_call,headsO,behind,List.length_cons,List.length_nil,mcN,forall_eq_or_imp,forall_eq,List.contains_cons,List.contains_nil]
   exact hcont _ _ ⟨X,Y,rs,hJ.plain hsh hob (i:=8) (t:=77) rfl (by decide) (by simp [bgS]) rfl hd⟩
  ·unfold XOm
   simp only [gcS]
   simp (disch:=first|omega|simp only [lnS];try omega) [-getElem?_pos,-getElem?_neg,-notTuple,nt_boolG,nt_aggG,nt_intG,nt_ptrG,nt_slG,nt_strG,j7,gb,lb5,bnC_all (v:=ov) lb lp,bnC_len (v:=ov) lb lp,XO_s,XO_z,XLk_val,XLk_call,headsO,behind,List.length_cons,List.length_nil,mcN,forall_eq_or_imp,forall_eq,List.contains_cons,List.contains_nil]
   exact hcont _ _ ⟨X,Y,rs,hJ.plain hsh hob (i:=9) (t:=78) rfl (by decide) (by simp [bgS]) rfl hd⟩
  ·have f7:α 76=.agg (hlC NI NE one).toArray:=hJ.val 7 76 rfl (hd 7 (by decide))
   obtain⟨w1,w2,w3,cs0,w4,w5⟩:=hJ.sla 0 _ rfl rfl
   rw [hsi]at w5
   have w5:cs0=iv .u8 (zl 96):=w5
   subst w5
   have wl:=(hob.lo _ _ _ hJ.o).2 _ w2
   have w1:α 8=.pointer (some ⟨rs 0,0,none⟩):=w1
   have w4:hget G (rs 0)=some ⟨iv .u8 (zl 96), 104,none⟩:=w4
   have wl1:=wl.1
   have wl2:=wl.2
   unfold XOm
   simp only [gcS]
   simp (disch:=first|omega|simp only [lnS];try omega) [-getElem?_pos,-getElem?_neg,-notTuple,nt_boolG,nt_aggG,nt_intG,nt_ptrG,nt_slG,nt_strG,f7,w1,w4,wl1,wl2,hlC_len mI mE one32,hlC_set mI mE one32 (C:=iv .u8 (zl 96)) (by simp),XO_s,XO_z,XLk_val,XLk_call,headsO,behind,List.length_cons,List.length_nil,mcN,forall_eq_or_imp,forall_eq,List.contains_cons,List.contains_nil]
   exact hcont _ _ ⟨X,Y,rs,hJ.store hsh hob hst hsc (k:=0) rfl rfl rfl hd⟩
  ·have f8:α 77=.agg (iv .u8 N).toArray:=hJ.val 8 77 rfl (hd 8 (by decide))
   obtain⟨w1,w2,w3,cs0,w4,w5⟩:=hJ.sla 1 _ rfl rfl
   rw [hsi]at w5
   have w5:cs0=iv .u8 (zl 32):=w5
   subst w5
   have wl:=(hob.lo _ _ _ hJ.o).2 _ w2
   have w1:α 9=.pointer (some ⟨rs 1,0,none⟩):=w1
   have w4:hget G (rs 1)=some ⟨iv .u8 (zl 32), 26,none⟩:=w4
   have wl1:=wl.1
   have wl2:=wl.2
   unfold XOm
   simp only [gcS]
   simp (disch:=first|omega|simp only [lnS];try omega) [-getElem?_pos,-getElem?_neg,-notTuple,nt_boolG,nt_aggG,nt_intG,nt_ptrG,nt_slG,nt_strG,f8,w1,w4,wl1,wl2,lN,hsN,XO_s,XO_z,XLk_val,XLk_call,headsO,behind,List.length_cons,List.length_nil,mcN,forall_eq_or_imp,forall_eq,List.contains_cons,List.contains_nil]
   exact hcont _ _ ⟨X,Y,rs,hJ.store hsh hob hst hsc (k:=1) rfl rfl rfl hd⟩
  ·have f9:α 78=.agg (bnC bid bpre ov).toArray:=hJ.val 9 78 rfl (hd 9 (by decide))
   obtain⟨w1,w2,w3,cs0,w4,w5⟩:=hJ.sla 2 _ rfl rfl
   rw [hsi]at w5
   have w5:cs0=iv .u8 (zl 64)++[.slice none 0 0]:=w5
   subst w5
   have wl:=(hob.lo _ _ _ hJ.o).2 _ w2
   have w1:α 10=.pointer (some ⟨rs 2,0,none⟩):=w1
   have w4:hget G (rs 2)=some ⟨iv .u8 (zl 64)++[.slice none 0 0], 101,none⟩:=w4
   have wl1:=wl.1
   have wl2:=wl.2
   unfold XOm
   simp only [gcS]
   simp (disch:=first|omega|simp only [lnS];try omega) [-getElem?_pos,-getElem?_neg,-notTuple,nt_boolG,nt_aggG,nt_intG,nt_ptrG,nt_slG,nt_strG,f9,w1,w4,wl1,wl2,bnC_len (v:=ov) lb lp,bnC_set (v:=ov) (C:=iv .u8 (zl 64)++[.slice none 0 0]) lb lp (by simp),XO_s,XO_z,XLk_val,XLk_call,headsO,behind,List.length_cons,List.length_nil,mcN,forall_eq_or_imp,forall_eq,List.contains_cons,List.contains_nil]
   exact hcont _ _ ⟨X,Y,rs,hJ.store hsh hob hst hsc (k:=2) rfl rfl rfl hd⟩
  ·unfold XOm
   simp only [gcS]
   simp (disch:=first|omega|simp only [lnS];try omega) [-getElem?_pos,-getElem?_neg,-notTuple,nt_boolG,nt_aggG,nt_intG,nt_ptrG,nt_slG,nt_strG,XO_s,XO_z,XLk_val,XLk_call,headsO,behind,List.length_cons,List.length_nil,mcN,forall_eq_or_imp,forall_eq,List.contains_cons,List.contains_nil]
   exact hcont _ _ ⟨X,Y,rs,hJ.plain hsh hob (i:=13) (t:=11) rfl (by decide) (by simp [bgS]) rfl hd⟩
 rintro s α G hJ hall
 obtain⟨X,Y2,rs,hJ⟩:=hJ
 have hd:∀i,i<14→s.getD i false=true:=fun i hi=>all_done hall (by rw [hJ.sz];exact hi)
 have slt:∀ (q:Nat) (sk:Slot),(bgS b id eph NI NE one N bid bpre ov)[q]?=some sk→sk.a=none→sk.st<14→α sk.t=.pointer (some ⟨rs q,0,none⟩)∧∃cs,hget G (rs q)=some ⟨cs,sk.ty,none⟩∧sk.c G X cs:=fun q sk hq ha hs=>by
  obtain⟨w1,w2,w3,cs,w4,w5⟩:=hJ.sla q sk hq (by unfold al;rw [ha])
  rw [hd _ hs,if_pos rfl]at w5
  exact⟨w1,cs,w4,w5⟩
 obtain⟨w8,cs8,g8,rfl⟩:=slt 0 _ rfl rfl (by show 10<14;omega)
 obtain⟨w9,cs9,g9,rfl⟩:=slt 1 _ rfl rfl (by show 11<14;omega)
 obtain⟨w10,cs10,g10,rfl⟩:=slt 2 _ rfl rfl (by show 12<14;omega)
 have w8:α 8=.pointer (some ⟨rs 0,0,none⟩):=w8
 have w9:α 9=.pointer (some ⟨rs 1,0,none⟩):=w9
 have w10:α 10=.pointer (some ⟨rs 2,0,none⟩):=w10
 have w11:α 11=.int .i64 0:=hJ.val 13 11 rfl (hd 13 (by omega))
 have g8:hget G (rs 0)=some ⟨hlC NI NE one, 104,none⟩:=g8
 have g9:hget G (rs 1)=some ⟨iv .u8 N, 26,none⟩:=g9
 have g10:hget G (rs 2)=some ⟨bnC bid bpre ov, 101,none⟩:=g10
 have l8:=hget_lt g8
 have l9:=hget_lt g9
 have l10:=hget_lt g10
 have ko:Kt H0 Y2 G b Tb:=by
  have:=hJ.o
  simp only [stT,hd 2 (by omega),hd 5 (by omega),if_true]at this
  exact this
 (refine aw_ret ?_;simp (disch:=first|omega|simp only [lnS];try omega) [-getElem?_pos,-getElem?_neg,w8,w9,w10,w11,g8,g9,g10,l8,l9,l10,htN,lN,hlC_all mI mE one32,hlC_len mI mE one32,bnC_all (v:=ov) lb lp,bnC_len (v:=ov) lb lp,nt_aggG])
 refine⟨R,ov,rfl,⟨ko.less (fun i hi=>?_),fun i hi=>?_,by have:=hJ.le;have:=fk.le;omega,fun i hi=>by have:=Rnew i hi;omega⟩,hov4.step (fun i hi=>⟨hi,(hJ.ss i (by simp [hi])).2⟩)⟩
 ·exact hJ.xy i (hJ.ss i (List.mem_append_right _ hi)).1
 ·have hir:=hYr i hi
  rw [(hJ.ss i (by simp [hi])).2,old4 i (by simp [hi]) (by omega),W2 i (by simp [hi])]
  exact s1 i (h.y i hi).2
end
section
def IdxQ(k:List Int)(ks:List (List Int))(v':Value):Prop:=(∃i:Nat,v'=.int .i64 (i:Nat)∧ks[i]?=some k∧∀j<i,ks[j]?≠some k)∨(v'=.int .i64 (-1)∧k∉ks)
attribute [local simp] wb_bool wb_undef with_lit XL_nil XL_cons XLc_val XLc_call step1_eq stepW_t stepW_f stepC_n stepC_s stepX_s stepX_n stepN_s calleeX xrecv oneV xop_eq xopR_s xopR_n wantedA_eq wantedG_n wantedG_s plain1_int plain1_bool plain1_string bits_i64 bits_u64 bits_u32 bits_u16 bits_u8 xeqA xagg xcmp xarr allK_iv num_iv calleeOf xread xeff xbin xint xnil xun xstr xload xconv xpart xfield xfieldAddr xindexAddr xindex bnd asInt? xslice xlen xmin xmax xbuild xfill xappend xapp2 xappstr xappmk xcap xcopy xcells eval_tmp eval_const put_at put_none fr0_at cells_agg cells_int cells_bool cells_string cells_ptr cells_slice notTuple tab iv_all hget_app hget_app0 hget_cons0 hget_cons set_app set_app0 setR setR_one QL_nil QL_cons QLc_val stepQ_t stepQ_f stepQC_n stepQC_s stepQX_s SL_nil SL_cons SLc_val stepS_t stepS_f ltT ltF leT leF eqT eqF ltTn ltFn leTn leFn eqTn eqFn beqT beqF bneT bneF wi64 wu64 wu32 wu16 wu8 tmodP tdivP hgetL hgetNe hgetEq setL nums_def nums_len Nat.succ_le_of_lt List.getElem?_cons_zero List.getElem?_cons_succ Option.getD_some Int.toNat_add Int.toNat_mul agM okM agB agI agS agP agL agA okB okI okS okP okSl okA PL_nil plainB_lit PL_cons PLc_val PLc_new stepP_t stepP_f stepPC_n stepPC_s stepPX_s stepPX_n stepPV_n stepPV_s stepPA_t stepPA_c stepPA_l stepPN_s allocOp reloc_sl reloc_ptr thenQ_ret scopeQ_ret inBlockQ_ret RQ resL resV
theorem indexK28_ac{nro:Nat}{γ:Nat→Option Nat}{H:AH}{v:Value}{ks:List (List Int)}(hv:KsV H v ks)(hk:K32 ks){k:List Int}(lk:k.length=32)(hnro:nro≤H.length)(hl:ks.length≤1000000) :
  AC Tryd.prog nro γ 100 #[v,.agg (iv .u8 k).toArray] H (fun v' H'=>IdxQ k ks v'∧Low H.length H H'):=by
 have hacc:=hv.acc hk
 have hnt:=val_nt hv
 have hlen:xlen Tryd.prog 23 v=some (.int .i64 (ks.length:Nat)):=hacc.len
 have tk:(iv .u8 k).take 32=iv .u8 k:=tkL (by simp [lk])
 have sk:setR (iv .u8 (zl 32)) 0 (iv .u8 k)=iv .u8 k:=setR_all _ _ (by simp [lk])
 obtain⟨G,hG⟩:∃G:AH,G=H++[some ⟨iv .u8 k, 26,none⟩]:=⟨_,rfl⟩
 have lw:Low H.length H G:=by rw [hG];exact Low.push (nlE _) _
 have gk:hget G H.length=some ⟨iv .u8 k, 26,none⟩:=by rw [hG,hget_app0];rfl
 refine ac_of_aw Tryd.func100 rfl Tryd.ntmps100 Tryd.results100 (by simp) ?_
 (refine aso fun K hK=>?_;simp (disch:=first|omega|simp only [lnS];try omega) [-getElem?_pos,-getElem?_neg,tk,lk,hnt.1,-notTuple,nt_aggG];refine hK _ _ ?_;clear hK K)
 rw [←hG]
 have gl:=hget_lt gk
 clear hG
 refine aw_seq (aw_seq ?_)
 (refine aoo fun K hK=>?_;simp (disch:=first|omega|simp only [lnS];try omega) [-getElem?_pos,-getElem?_neg,-notTuple,hnt.1,hnt.2,-xlen,hlen];refine hK _ _ ?_;clear hK K)
 refine aw_block ?_
 refine aw_loop (fun q α D=>∃i:Nat,i+q=ks.length∧α 0=v∧α 3=.pointer (some ⟨H.length,0,none⟩)∧α 7=.int .i64 (ks.length:Nat)∧α 8=.int .i64 (i:Nat)∧(∀j<i,ks[j]?≠some k)∧D=G) ks.length ?_ ?_
 ·exact⟨0,by omega,by (first|simp [put_at,put_none,fr0_at];done|rfl),by (first|simp [put_at,put_none,fr0_at];done|rfl),by (first|simp [put_at,put_none,fr0_at];done|rfl),by (first|simp [put_at,put_none,fr0_at];done|rfl),fun j hj=>by omega,rfl⟩
 rintro q α D ⟨i,hiq,a0,a3,a7,a8,hno,rfl⟩
 refine aw_seq ?_
 by_cases hi:i<ks.length
 ·have hi':(i:Int)<ks.length:=by omega
  obtain⟨x,hx⟩:∃x,ks[i]?=some x:=⟨_,geE hi⟩
  have lx:=hk x (moG hx)
  obtain⟨p,y,n1,p1,n2,ey,ld⟩:=hacc.at_ i hi
  have ey:y=.agg (iv .u8 x).toArray:=by
   rw [ey,gdD,hx];rfl
  subst ey
  have ld2:=ld D lw
  have ldk:xload Tryd.prog 26 (.pointer (some ⟨H.length,0,none⟩)) D=some (.agg (iv .u8 k).toArray):=by
   have h1:und Tryd.prog 26 = .array 32 5 := by kernel_rfl
   have h2:szt Tryd.prog 26 = 32:=by kernel_rfl
   simp [xload,gk,isAggD,okD,h1,h2,lk,tk]
  (refine aoo fun K hK=>?_;simp (disch:=first|omega|simp only [lnS];try omega) [-getElem?_pos,-getElem?_neg,a7,a8,hi'];refine hK _ _ ?_;clear hK K)
  refine aw_seq ?_
  refine awt (by simp [eval_tmp,put_at]<;>omega) ?_
  refine aw_skip (aw_seq ?_)
  refine aw_block ?_
  (refine aso fun K hK=>?_;simp (disch:=first|omega|simp only [lnS];try omega) [-getElem?_pos,-getElem?_neg,a8];refine hK _ _ ?_;clear hK K)
  refine aw_seq ?_
  by_cases e:k=x
  ·subst e
   (refine aw_plan [] [] [0,1,2,3,4,5] 6 0 (by kernel_rfl) (by kernel_rfl) (by kernel_rfl) (fun K hK=>?_));simp only [sel,gcS,gdZ];simp (disch:=first|omega|simp only [lnS];try omega) [-getElem?_pos,-getElem?_neg,a0,a3,-xindexAddr,p1,-xload,ld2,ldk,-notTuple,hnt.1,n1,nt_aggG,nt_intG,nt_ptrG,Nat.add_assoc]
   refine hK _ _ ?_;clear hK K
   refine awt (by simp [eval_tmp,put_at]<;>omega) ?_
   (refine aso fun K hK=>?_;simp (disch:=first|omega|simp only [lnS];try omega) [-getElem?_pos,-getElem?_neg];refine hK _ _ ?_;clear hK K)
   (refine aw_ret ?_;simp (disch:=first|omega|simp only [lnS];try omega) [-getElem?_pos,-getElem?_neg])
   exact⟨.inl ⟨i,rfl,hx,hno⟩,lw⟩
  ·have eb:(k==x)=false:=by rw [beq_eq_false_iff_ne];exact e
   (refine aw_plan [] [] [0,1,2,3,4,5] 6 0 (by kernel_rfl) (by kernel_rfl) (by kernel_rfl) (fun K hK=>?_));simp only [sel,gcS,gdZ];simp (disch:=first|omega|simp only [lnS];try omega) [-getElem?_pos,-getElem?_neg,a0,a3,-xindexAddr,p1,-xload,ld2,ldk,-notTuple,hnt.1,n1,nt_aggG,nt_intG,nt_ptrG,eb,e,Nat.add_assoc]
   refine hK _ _ ?_;clear hK K
   refine awf (by simp [eval_tmp,put_at]<;>omega) ?_
   refine aw_skip ?_
   (refine aoo fun K hK=>?_;simp (disch:=first|omega|simp only [lnS];try omega) [-getElem?_pos,-getElem?_neg,a8];refine hK _ _ ?_;clear hK K)
   refine⟨q-1,by omega,i+1,by omega,by (first|simp [put_at,put_none,fr0_at,a0];done|rfl),by (first|simp [put_at,put_none,fr0_at,a3];done|rfl),by (first|simp [put_at,put_none,fr0_at,a7];done|rfl),by (first|simp [put_at,put_none,fr0_at];done|rfl),fun j hj=>?_,rfl⟩
   by_cases ej:j=i
   ·subst ej
    rw [hx]
    exact fun h=>e (Option.some.inj h).symm
   ·exact hno j (by omega)
 ·obtain rfl:i=ks.length:=by omega
  (refine aoo fun K hK=>?_;simp (disch:=first|omega|simp only [lnS];try omega) [-getElem?_pos,-getElem?_neg,a7,a8];refine hK _ _ ?_;clear hK K)
  refine aw_seq ?_
  refine awf (by simp [eval_tmp,put_at]<;>omega) ?_
  refine aw_exit (aw_seq ?_)
  (refine aoo fun K hK=>?_;simp (disch:=first|omega|simp only [lnS];try omega) [-getElem?_pos,-getElem?_neg];refine hK _ _ ?_;clear hK K)
  (refine aw_ret ?_;simp (disch:=first|omega|simp only [lnS];try omega) [-getElem?_pos,-getElem?_neg])
  refine⟨.inr ⟨rfl,fun hm=>?_⟩,lw⟩
  obtain⟨j,hj,e⟩:=List.mem_iff_getElem.1 hm
  exact hno j hj (by rw [geE hj,e])
end
section
theorem fl_cutK{R:List (List Value)}(h:∀r∈R,r.length=32){a:Nat}(ha:a≤R.length):R.flatten.take (a*32)=(R.take a).flatten∧R.flatten.drop (a*32)=(R.drop a).flatten:=by
 have h1:R.flatten=(R.take a).flatten++(R.drop a).flatten:=by rw [←List.flatten_append,List.take_append_drop]
 have h2:=fl_len (L:=R.take a) (n:=32) (fun r hr=>h r (List.mem_of_mem_take hr))
 rw [List.length_take,Nat.min_eq_left ha]at h2
 rw [h1]
 exact⟨by rw [←h2,List.take_left],by rw [←h2,List.drop_left]⟩
theorem cut_rowsK{R:List (List Value)}{Z:List Value}{a:Nat}(hR:∀r∈R,r.length=32)(ha:a<R.length)(hZ:Z.length=32) :
  setR (setR R.flatten (a*32) (R.drop (a+1)).flatten) ((R.length-1)*32) Z=(R.take a++R.drop (a+1)).flatten++Z:=by
 obtain⟨x,hx⟩:∃x,R[a]?=some x:=⟨_,geE ha⟩
 have hxl:=hR x (moG hx)
 have hsplit:R=R.take a++x::R.drop (a+1):=by
  have h1:R.drop a=x::R.drop (a+1):=by
   obtain⟨h,e⟩:=gsI.1 hx
   rw [List.drop_eq_getElem_cons h,e]
  rw [←h1,List.take_append_drop]
 have hA:(R.take a).flatten.length=a*32:=by
  rw [fl_len (n:=32) (fun r hr=>hR r (List.mem_of_mem_take hr)),List.length_take,Nat.min_eq_left (by omega)]
 have hB:(R.drop (a+1)).flatten.length=(R.length-(a+1))*32:=by
  rw [fl_len (n:=32) (fun r hr=>hR r (List.mem_of_mem_drop hr)),List.length_drop]
 have hflat:R.flatten=(R.take a).flatten++(x++(R.drop (a+1)).flatten):=by
  have:=congrArg List.flatten hsplit
  rw [List.flatten_append,List.flatten_cons]at this
  exact this
 rw [hflat,List.flatten_append]
 generalize (R.take a).flatten=A at *
 generalize (R.drop (a+1)).flatten=B at *
 have e1:setR (A++(x++B)) (a*32) B=A++(B++(x++B).drop B.length):=by
  rw [←hA,←Nat.add_zero A.length,setR_right _ _ _ _ (by simp),setR_frontF _ _ (by simp)]
 rw [e1,←List.append_assoc]
 have hD:((x++B).drop B.length).length=32:=by simp [hxl]
 generalize (x++B).drop B.length=D at *
 have hAB:(A++B).length=(R.length-1)*32:=by
  rw [laP,hA,hB,←Nat.add_mul]
  congr 1
  omega
 rw [←hAB,←Nat.add_zero (A++B).length,setR_right _ _ _ _ (by omega),setR_all _ _ (by omega)]
attribute [local simp] wb_bool wb_undef with_lit XL_nil XL_cons XLc_val XLc_call step1_eq stepW_t stepW_f stepC_n stepC_s stepX_s stepX_n stepN_s calleeX xrecv oneV xop_eq xopR_s xopR_n wantedA_eq wantedG_n wantedG_s plain1_int plain1_bool plain1_string bits_i64 bits_u64 bits_u32 bits_u16 bits_u8 xeqA xagg xcmp xarr allK_iv num_iv calleeOf xread xeff xbin xint xnil xun xstr xload xconv xpart xfield xfieldAddr xindexAddr xindex bnd asInt? xslice xlen xmin xmax xbuild xfill xappend xapp2 xappstr xappmk xcap xcopy xcells eval_tmp eval_const put_at put_none fr0_at cells_agg cells_int cells_bool cells_string cells_ptr cells_slice notTuple tab iv_all hget_app hget_app0 hget_cons0 hget_cons set_app set_app0 setR setR_one QL_nil QL_cons QLc_val stepQ_t stepQ_f stepQC_n stepQC_s stepQX_s SL_nil SL_cons SLc_val stepS_t stepS_f ltT ltF leT leF eqT eqF ltTn ltFn leTn leFn eqTn eqFn beqT beqF bneT bneF wi64 wu64 wu32 wu16 wu8 tmodP tdivP hgetL hgetNe hgetEq setL nums_def nums_len Nat.succ_le_of_lt List.getElem?_cons_zero List.getElem?_cons_succ Option.getD_some Int.toNat_add Int.toNat_mul agM okM agB agI agS agP agL agA okB okI okS okP okSl okA thenQ_ret scopeQ_ret inBlockQ_ret RQ resL resV
theorem deleteK_ac{nro:Nat}{γ:Nat→Option Nat}{H:AH}{b a:Nat}{R:List (List Value)}(hb:hget H b=some ⟨R.flatten, 26,some 32⟩)(hnro:nro≤b)(hR:∀r∈R,r.length=32)(ha:a<R.length)(hl:R.length≤1000) :
  AC Tryd.prog nro γ 101 #[.slice (some ⟨b,0,none⟩) R.length R.length,.int .i64 (a:Nat),.int .i64 ((a+1:Nat):Int)] H (fun v' H'=>v'=.slice (some ⟨b,0,none⟩) (R.length-1) (R.length-1)∧∃Z,H'=H.set b (some ⟨(R.take a++R.drop (a+1)).flatten++Z, 26,some 32⟩)):=by
 have ht:und Tryd.prog 23 = .slice 26 := by kernel_rfl
 have hs:szt Tryd.prog 26 = 32:=by kernel_rfl
 have hbl:=hget_lt hb
 have hfl:=fl_len hR
 obtain⟨z,hz⟩:∃z,zer Tryd.prog 26 = some z:=by
  have:(zer Tryd.prog 26).isSome=true:=by kernel_rfl
  exact Option.isSome_iff_exists.1 this
 have hzl:z.cells.size=32:=by
  have:(zer Tryd.prog 26).map (fun z=>z.cells.size)=some 32:=by kernel_rfl
  rw [hz]at this
  simpa using this
 have hzp:z.cells.toList.all plain1=true:=by
  have:(zer Tryd.prog 26).map (fun z=>z.cells.toList.all plain1)=some true:=by kernel_rfl
  rw [hz]at this
  simpa using this
 obtain⟨x2,hx2⟩:∃x2,x2=if a+1=R.length then Value.slice (some ⟨b,0,some 0⟩) 0 0 else .slice (some ⟨b,(a+1)*32,none⟩) (R.length-(a+1)) (R.length-(a+1)):=⟨_,rfl⟩
 have f1:xslice Tryd.prog 23 (.slice (some ⟨b,0,none⟩) R.length R.length) none (some (.int .i64 (a:Nat))) H=some (.slice (some ⟨b,0,none⟩) a a):=by
  unfold xslice
  simp only [ht,bnd,asInt?,hs]
  rw [if_pos ⟨by omega,by omega,by omega,by omega⟩]
  simp
 have f2:xslice Tryd.prog 23 (.slice (some ⟨b,0,none⟩) R.length R.length) (some (.int .i64 ((a+1:Nat):Int))) none H=some x2:=by
  unfold xslice
  simp only [ht,bnd,asInt?,hs]
  rw [if_pos ⟨by omega,by omega,by omega,by omega⟩,hx2]
  by_cases e:a+1=R.length
  ·rw [if_pos ⟨by omega,by omega⟩,if_pos e]
  ·rw [if_neg (by omega),if_neg e]
   simp
 obtain⟨_,c2⟩:=fl_cutK hR (show a+1≤R.length by omega)
 have f3:xcells 32 x2 H=some (R.drop (a+1)).flatten:=by
  rw [hx2]
  by_cases e:a+1=R.length
  ·rw [if_pos e,List.drop_of_length_le (by omega)]
   rfl
  ·rw [if_neg e]
   unfold xcells
   simp only [hb]
   rw [if_pos (by omega),←c2,tkL (by rw [List.length_drop];omega)]
 have f4:∀s,x2≠.string s:=fun s e=>by rw [hx2]at e;split at e <;> cases e
 have f5:notTuple x2=true∧x2.cells=#[x2]:=by rw [hx2];split <;> exact⟨rfl,rfl⟩
 have hBl:(R.drop (a+1)).flatten.length=(R.length-(a+1))*32:=by
  rw [fl_len (n:=32) (fun r hr=>hR r (List.mem_of_mem_drop hr)),List.length_drop]
 have hcut:=fun Z hZ=>cut_rowsK (Z:=Z) hR ha hZ
 clear hx2
 have ha1:((a+1:Nat):Int)=(a:Int)+1:=by omega
 obtain⟨n,hn⟩:∃n,R.length=n:=⟨_,rfl⟩
 rw [hn]at ha hl hfl f1 f2 hBl hcut ⊢
 obtain⟨a',ha'⟩:∃a',a+1=a':=⟨_,rfl⟩
 rw [ha']at f2 f3 hBl hcut ⊢
 have hne:((a:Int)==(a':Int))=false:=by simp;omega
 refine ac_of_aw Tryd.func101 rfl Tryd.ntmps101 Tryd.results101 (by simp) ?_
 (refine aso fun K hK=>?_;simp (disch:=first|omega|simp only [lnS];try omega) [-getElem?_pos,-getElem?_neg];refine hK _ _ ?_;clear hK K)
 refine aw_seq ?_
 refine aw_opsA 5 (by kernel_rfl) ?_
 simp only [List.take_succ_cons,List.take_zero,gdZ]
 simp (disch:=first|omega|simp only [lnS];try omega) [-getElem?_pos,-getElem?_neg,nt_slG]
 refine al_step (v:=?v1) (H':=?hh1) (by kernel_rfl) ?a1 (al_nil ?b1)
 case a1=>
  refine av_slice3 (x:=.tmp 8) (lo:=.tmp 9) (hi:=.tmp 10) (mx:=.tmp 12) (l:=(a:Int)) (h:=((a':Nat):Int)) (mm:=(n:Int)) (off:=0) (i:=b) (len:=n) (c:=n) (k1:=.i64) (k2:=.i64) (k3:=.i64) ?_ ?_ ht ?_ ?_ ?_ ?_ ?_ ?_ ?_ ?_ ?_
  ·rfl
  ·kernel_rfl
  ·(first|simp [put_at,put_none,fr0_at];done|rfl)
  ·(first|simp [put_at,put_none,fr0_at];done|rfl)
  ·(first|simp [put_at,put_none,fr0_at];done|rfl)
  ·(first|simp [put_at,put_none,fr0_at];done|rfl)
  ·simp [hs]
  ·omega
  ·omega
  ·omega
  ·omega
 refine aw_seq (aw_seq ?_)
 (refine aoo fun K hK=>?_;simp (disch:=first|omega|simp only [lnS];try omega) [-getElem?_pos,-getElem?_neg,hne];refine hK _ _ ?_;clear hK K)
 refine awf (by simp [eval_tmp,put_at,hne]<;>omega) ?_
 refine aw_skip (aw_seq ?_)
 (refine aoo fun K hK=>?_;simp (disch:=first|omega|simp only [lnS];try omega) [-getElem?_pos,-getElem?_neg];refine hK _ _ ?_;clear hK K)
 refine aw_seq ?_
 refine aw_tailA 6 (by kernel_rfl) (by kernel_rfl) (by kernel_rfl) ?_
 simp only [List.take_succ_cons,List.take_zero,gdZ]
 simp (disch:=first|omega|simp only [lnS];try omega) [-getElem?_pos,-getElem?_neg,nt_slG,-xslice,f1,f2]
 have hdv:(R.drop a').flatten.length/32=n-a':=by rw [hBl];exact Nat.mul_div_cancel _ (by omega)
 refine al_step (v:=?v2) (H':=?hh2) (by kernel_rfl) ?a2 ?b2
 case a2=>
  refine av_append_in (s:=.tmp 22) (x:=.tmp 25) (i:=b) (len:=a) (k:=⟨R.flatten, 26,some 32⟩) (news:=(R.drop a').flatten) ?_ ?_ ht ?_ ?_ ?_ hb hnro ?_ ?_ ?_ ?_
  ·rfl
  ·kernel_rfl
  ·simp [eval_tmp,put_at]
  ·simp [eval_tmp,put_at,hs,-xcells,f3]
  ·simpa [eval_tmp,put_at] using f4
  ·rw [hs]
  ·rfl
  ·rw [hs];omega
  ·rw [hs,hBl];show _≤R.flatten.length;rw [hfl,←Nat.add_mul];exact Nat.mul_le_mul_right _ (by omega)
 refine al_xl (by kernel_rfl) (fun K hK=>?_)
 simp only [hs,hdv,show a+(n-a')=n-1 by omega]
 simp (disch:=first|omega|simp only [lnS];try omega) [-getElem?_pos,-getElem?_neg,nt_slG]
 refine hK _ _ ?_;clear hK K
 have hc1:(setR R.flatten (a*32) (R.drop a').flatten).length=n*32:=by rw [setR_length,hfl]
 obtain⟨C1,hC1⟩:∃C1,C1=setR R.flatten (a*32) (R.drop a').flatten:=⟨_,rfl⟩
 rw [←hC1]at hc1 hcut ⊢
 have hb1:hget (H.set b (some ⟨C1, 26,some 32⟩)) b=some ⟨C1, 26,some 32⟩:=hget_set_eq hbl
 refine aw_seq ?_
 refine aw_opsA 4 (by kernel_rfl) ?_
 simp only [List.take_succ_cons,List.take_zero,gdZ]
 simp (disch:=first|omega|simp only [lnS];try omega) [-getElem?_pos,-getElem?_neg,nt_slG]
 refine al_step (v:=?v3) (H':=?hh3) (by kernel_rfl) ?a3 ?b3
 case a3=>
  refine av_slice_room (x:=.tmp 27) (lo:=some (.tmp 29)) (hi:=some (.tmp 30)) (i:=b) (len:=n-1) (l:=((n-1:Nat):Int)) (h:=((n:Nat):Int)) (k:=⟨C1, 26,some 32⟩) ?_ ?_ ht ?_ ?_ ?_ hb1 hnro ?_ ?_ ?_ ?_ ?_
  ·rfl
  ·kernel_rfl
  ·simp [eval_tmp,put_at]
  ·simp [bnd,asInt?,eval_tmp,put_at]
  ·simp [bnd,asInt?,eval_tmp,put_at]
  ·rw [hs]
  ·rw [hs];omega
  ·omega
  ·omega
  ·rw [hs];show _≤C1.length;rw [hc1];simp
 rw [if_neg (by omega),hs,Int.toNat_natCast,Int.toNat_natCast,show n-(n-1)=1 by omega]
 refine al_step (v:=?v4) (H':=?hh4) (by kernel_rfl) ?a4 (al_nil ?b4)
 case a4=>
  refine av_clear (x:=.tmp 31) (i:=b) (off:=(n-1)*32) (len:=1) (c:=2) (k:=⟨C1, 26,some 32⟩) (z:=z) ?_ ?_ ht ?_ hb1 hnro ?_ ?_ hz ?_ hzp ?_
  ·rfl
  ·kernel_rfl
  ·simp [eval_tmp,put_at]
  ·rfl
  ·rw [hs];omega
  ·rw [hs,hzl]
  ·rw [hs];show _≤C1.length;rw [hc1,←Nat.add_mul];exact Nat.mul_le_mul_right _ (by omega)
 simp only [hs]
 rw [hcut _ (by simp),List.set_set]
 (refine aso fun K hK=>?_;simp (disch:=first|omega|simp only [lnS];try omega) [-getElem?_pos,-getElem?_neg,nt_slG];refine hK _ _ ?_;clear hK K)
 (refine aw_ret ?_;simp (disch:=first|omega|simp only [lnS];try omega) [-getElem?_pos,-getElem?_neg])
 exact⟨_,rfl⟩
end
section
def ansL(id pre hid heph:List Int)(ex:List (List Int)):List PrD:=[(pre,hid),(id,heph),(pre,heph)]++ex.map fun o=>(o,heph)
def ansT(id pre hid heph:List Int)(ex:List (List Int))(T:List TermD):List TermD:=addT (helD (ansL id pre hid heph ex) T) (agsT (ansL id pre hid heph ex) T)
def ansN(id pre hid heph:List Int)(ex:List (List Int))(T:List TermD):List Int:=nN (helD (ansL id pre hid heph ex) T) (agsT (ansL id pre hid heph ex) T)
def AnsQ(H0:AH)(Y:List Nat)(B:AH)(b:Nat)(T':List TermD)(N id pre:List Int)(os:List (List Int))(v':Value)(H':AH):Prop:=
 ∃R ov,v'=.tuple #[.agg (bnC id pre ov).toArray,.agg (iv .u8 N).toArray,.int .i64 0]∧FrK H0 Y B b T' R H'∧KoV R H' ov os
theorem iv_plain1{k:List Int}{x:Value}(h:x∈iv .u8 k):plain1 x=true:=by
 unfold iv at h
 obtain⟨z,_,rfl⟩:=List.mem_map.1 h
 rfl
theorem pr_plain{l:List PrD}:∀x∈prs l,plain1 x=true:=fun x hx=>by
 unfold prs at hx
 obtain⟨r,hr,hx⟩:=List.mem_flatten.1 hx
 obtain⟨p,_,rfl⟩:=List.mem_map.1 hr
 rcases maP.1 hx with h | h <;> exact iv_plain1 h
def a4D:List (Option Nat):=[some 37,some 38,some 39,some 40,some 41,some 42,some 43,some 44,some 45,some 10]
def a4P:List (List Nat):=[[],[0],[],[2],[3],[1,4],[],[6],[5,7],[0,1,2,3,4,5,6,7,8]]
def a4V(lo r b:Nat)(one:List Int)(ov:Value)(NS:List (List Int))(G:AH)(X:List Nat)(i:Nat)(v:Value):Prop:=match i with
 | 0=>v=.pointer (some ⟨r,64,none⟩)
 | 1=>v=ov
 | 2=>v=.iface 43 (.agg #[.pointer (some ⟨b,0,none⟩)])
 | 3=>v=.iface 43 (.agg #[.pointer (some ⟨b,0,none⟩)])
 | 4=>v=.func (.method "Pub") #[.iface 43 (.agg #[.pointer (some ⟨b,0,none⟩)])] #[]
 | 5=>KoN lo X G v NS
 | 6=>v=.pointer (some ⟨r+1,64,none⟩)
 | 7=>v=.agg (iv .u8 one).toArray
 | 8=>IdxQ one NS v
 | 9=>IdxQ one NS v
 | _=>True
def a4S(lo r b:Nat)(one:List Int)(ov:Value)(NS:List (List Int)):List Slot:=[]
attribute [local simp] wb_bool wb_undef with_lit XL_nil XL_cons XLc_val XLc_call step1_eq stepW_t stepW_f stepC_n stepC_s stepX_s stepX_n stepN_s calleeX xrecv oneV xop_eq xopR_s xopR_n wantedA_eq wantedG_n wantedG_s plain1_int plain1_bool plain1_string bits_i64 bits_u64 bits_u32 bits_u16 bits_u8 xeqA xagg xcmp xarr allK_iv num_iv calleeOf xread xeff xbin xint xnil xun xstr xload xconv xpart xfield xfieldAddr xindexAddr xindex bnd asInt? xslice xlen xmin xmax xbuild xfill xappend xapp2 xappstr xappmk xcap xcopy xcells eval_tmp eval_const put_at put_none fr0_at cells_agg cells_int cells_bool cells_string cells_ptr cells_slice notTuple tab iv_all hget_app hget_app0 hget_cons0 hget_cons set_app set_app0 setR setR_one QL_nil QL_cons QLc_val stepQ_t stepQ_f stepQC_n stepQC_s stepQX_s SL_nil SL_cons SLc_val stepS_t stepS_f ltT ltF leT leF eqT eqF ltTn ltFn leTn leFn eqTn eqFn beqT beqF bneT bneF wi64 wu64 wu32 wu16 wu8 tmodP tdivP hgetL hgetNe hgetEq setL nums_def nums_len Nat.succ_le_of_lt List.getElem?_cons_zero List.getElem?_cons_succ Option.getD_some Int.toNat_add Int.toNat_mul agM okM agB agI agS agP agL agA okB okI okS okP okSl okA PL_nil plainB_lit PL_cons PLc_val PLc_new stepP_t stepP_f stepPC_n stepPC_s stepPX_s stepPX_n stepPV_n stepPV_s stepPA_t stepPA_c stepPA_l stepPN_s allocOp reloc_sl reloc_ptr thenQ_ret scopeQ_ret inBlockQ_ret RQ resL resV
theorem ans_ac{γ:Nat→Option Nat}{H0 B:AH}{Y:List Nat}{b:Nat}{T:List TermD}(hpw:Pw γ H0)(h:Kt H0 Y B b T){id pre hid heph one:List Int}{sv:Value}{os:List (List Int)}(li:id.length=32)(bi:By id)(lp:pre.length=32)(bp:By pre)(lh:hid.length=32)(bh:By hid)(nh:hid≠zl 32)(le:heph.length=32)(be:By heph)(ne:heph≠zl 32)(lo:one.length=32)(bo:By one)
  (hK:KoV Y B sv os) (hk:∀k∈os,k.length=32∧By k) (hk1:os.length≤1000) (hT:T.length≤700000) {T1:List TermD} {ex on:List (List Int)}
  (hm:(one=zl 32∧ex=[]∧T1=T∧on=os)∨(one≠zl 32∧T1=pubsT os T∧∃u o,(pubsN os T)[u]?=some one∧(∀j<u,(pubsN os T)[j]?≠some one)∧os[u]?=some o∧ex=[o]∧on=os.take u++os.drop (u+1))) :
  AC Tryd.prog H0.length γ 46 #[kitV b,.agg (bnC id pre sv).toArray,.agg (hlC hid heph one).toArray] B (AnsQ H0 Y B b (ansT id pre hid heph ex T1) (ansN id pre hid heph ex T1) id pre on):=by
 have hnt:=hK.nt
 have k32:K32 os:=fun k hm=>(hk k hm).1
 have hpl:plain1 (.slice none 0 0)=true:=rfl
 have hall:=bnC_all (v:=sv) li lp
 have hl65:=bnC_len (v:=sv) li lp
 have hl96:=hlC_len lh le lo
 have ha96:=hlC_all lh le lo
 have to1:(iv .u8 one).take 32=iv .u8 one:=tkL (by simp [lo])
 have hnB:=h.le
 unfold kitV
 obtain⟨r,hr⟩:∃r,r=B.length:=⟨_,rfl⟩
 refine ac_of_aw Tryd.func46 rfl Tryd.ntmps46 Tryd.results46 (by simp) ?_
 (refine aso fun K hK=>?_;simp (disch:=first|omega|simp only [lnS];try omega) [-getElem?_pos,-getElem?_neg,hall,hl65,hl96,ha96,hpl];refine hK _ _ ?_;clear hK K)
 obtain⟨B1,hB1⟩:∃B1:AH,B1=B++[some ⟨bnC id pre sv, 99,none⟩,some ⟨hlC hid heph one, 104,none⟩,some ⟨iv .u8 (zl 64)++[.slice none 0 0], 99,none⟩,some ⟨iv .u8 (zl 32), 26,none⟩]:=⟨_,rfl⟩
 have gs:hget B1 r=some ⟨bnC id pre sv, 99,none⟩:=by rw [hB1,hr,hget_app0];rfl
 have gh:hget B1 (r+1)=some ⟨hlC hid heph one, 104,none⟩:=by rw [hB1,hr,hget_app];rfl
 have gS:hget B1 (r+2)=some ⟨iv .u8 (zl 64)++[.slice none 0 0], 99,none⟩:=by rw [hB1,hr,hget_app];rfl
 have gk:hget B1 (r+3)=some ⟨iv .u8 (zl 32), 26,none⟩:=by rw [hB1,hr,hget_app];rfl
 have l1:B1.length=r+4:=by rw [hB1];simp [hr]
 have s1:∀j,j<B.length→hget B1 j=hget B j:=fun j hj=>by rw [hB1];exact hget_left hj
 have k1:Kt H0 ([r,r+1,r+2,r+3]++Y) B1 b T:=h.grow (by rw [hB1];exact⟨fun j hj=>hget_left hj,by simp⟩) (fun j hj=>by simp only [mcN]at hj;omega)
 rw [←hr,←hB1]
 clear hB1
 have pr1:=rowP (C:=iv .u8 (zl 64)) lp lh (by simp)
 have pr2:=rowP (C:=iv .u8 (zl 64)) li le (by simp)
 have pr3:=rowP (C:=iv .u8 (zl 64)) lp le (by simp)
 have b1:=bnC_1 (v:=sv) li lp
 have b2:=bnC_2 (v:=sv) li lp
 have b3:=bnC_3 (v:=sv) li lp
 have c1:=hlC_1 lh le lo
 have c2:=hlC_2 lh le lo
 have c3:=hlC_3 lh le lo
 have q1:(iv .u8 pre++iv .u8 hid).take 64=iv .u8 pre++iv .u8 hid:=tkL (by simp [lh,lp])
 have q2:(iv .u8 id++iv .u8 heph).take 64=iv .u8 id++iv .u8 heph:=tkL (by simp [le,li])
 have q3:(iv .u8 pre++iv .u8 heph).take 64=iv .u8 pre++iv .u8 heph:=tkL (by simp [le,lp])
 have ls0:=hget_lt gs
 have lh0:=hget_lt gh
 have rw3:setR (setR (setR (List.map (fun j=>(iv .u8 (zl 64))[j%64]?.getD undef) (List.range 192)) 0 (iv .u8 pre++iv .u8 hid)) 64 (iv .u8 id++iv .u8 heph)) 128 (iv .u8 pre++iv .u8 heph)=prs [(pre,hid),(id,heph),(pre,heph)]:=
  (row3C (n:=64) (by simp [lh,lp]) (by simp [le,li]) (by simp [le,lp]) (by simp)).trans (by simp [prs,prC])
 have ok3:PrOk [(pre,hid),(id,heph),(pre,heph)]:=fun p hp=>by
  simp only [mcN]at hp
  rcases hp with rfl | rfl | rfl
  ·exact⟨lp,bp,lh,bh,nh⟩
  ·exact⟨li,bi,le,be,ne⟩
  ·exact⟨lp,bp,le,be,ne⟩
 (refine aso fun K hK=>?_;simp (disch:=first|omega|simp only [lnS];try omega) [-getElem?_pos,-getElem?_neg,gs,gh,ls0,lh0,b1,b2,c1,c2,pr1,pr2,pr3,q1,q2,q3,li,le,lh,lp,hl65,hl96,nt_aggG,nt_slG,rw3];refine hK _ _ ?_;clear hK K)
 obtain⟨B2,hB2⟩:∃B2:AH,B2=B1++[some ⟨prs [(pre,hid),(id,heph),(pre,heph)], 180,some 64⟩]:=⟨_,rfl⟩
 have hp3:hget B2 B1.length=some ⟨prs [(pre,hid),(id,heph),(pre,heph)], 180,some 64⟩:=by rw [hB2,hget_app0];rfl
 have k2:Kt H0 (B1.length::([r,r+1,r+2,r+3]++Y)) B2 b T:=by rw [hB2];exact k1.push _
 have l2:B2.length=r+5:=by rw [hB2];simp [l1]
 have s2:∀j,j<B1.length→hget B2 j=hget B1 j:=fun j hj=>by rw [hB2];exact hget_left hj
 rw [←hB2]
 clear hB2
 have gs2:=(s2 r (by omega)).trans gs
 have hKB:=hK.step (R':=Y) (G':=B2) (fun j hj=>⟨hj,by have:=(h.y j hj).2;exact (s2 j (by omega)).trans (s1 j this)⟩)
 have hcl:=kt_cloneF (γ:=γ) k2 (hKB.now k32) k32 (by omega)
 have ldb:xload Tryd.prog 23 (.pointer (some ⟨r,64,none⟩)) B2=some sv:=by
  have h1:und Tryd.prog 23 = .slice 26 := by kernel_rfl
  simp [xload,gs2,b3,isAggD,okD,h1]
 refine aso fun K hK=>?_
 simp (disch:=first|omega|simp only [lnS];try omega) [-getElem?_pos,-getElem?_neg,-xload,ldb,hnt.1,hnt.2,-notTuple,nt_intG,nt_slG,nt_ptrG]
 refine⟨by kernel_rfl,AC.mono hcl ?_⟩
 rintro ov B3 ⟨R,hof,fk⟩
 have hov:=ownF_kov hof k32 (R:=R) (fun j hj=>hj)
 have ont:=hov.nt
 have gs3:=(fk.st r (by simp)).trans gs2
 have lb3:=hget_lt gs3
 have hn3:H0.length≤r:=by omega
 have hup:(bnC id pre sv).set 64 ov=bnC id pre ov:=bnC_upd li lp
 try simp (disch:=first|omega|simp only [lnS];try omega) [-getElem?_pos,-getElem?_neg,gs3,lb3,hn3,ont.1,ont.2,-notTuple,hup,hl65]
 refine hK _ _ ?_;clear hK K
 obtain⟨B4,hB4⟩:∃B4:AH,B4=B3.set r (some ⟨bnC id pre ov, 99,none⟩):=⟨_,rfl⟩
 have kt4:Kt H0 (R++(B1.length::([r,r+1,r+2,r+3]++Y))) B4 b T:=by rw [hB4];exact fk.kt.set (by simp) _
 have s4:∀i,i≠r→hget B4 i=hget B3 i:=fun i hi=>by rw [hB4];exact hget_set_ne (Ne.symm hi)
 have gs4:hget B4 r=some ⟨bnC id pre ov, 99,none⟩:=by rw [hB4];exact hget_set_eq lb3
 have l4:B4.length=B3.length:=by rw [hB4];simp
 rw [←hB4]
 clear hB4
 have old4:∀i∈B1.length::([r,r+1,r+2,r+3]++Y),i≠r→hget B4 i=hget B2 i:=fun i hi hn=>(s4 i hn).trans (fk.st i hi)
 have gh4:=((old4 (r+1) (by simp) (by omega)).trans (s2 (r+1) (by omega))).trans gh
 have gS4:=((old4 (r+2) (by simp) (by omega)).trans (s2 (r+2) (by omega))).trans gS
 have gk4:=((old4 (r+3) (by simp) (by omega)).trans (s2 (r+3) (by omega))).trans gk
 have hp4:=(old4 B1.length (by simp) (by omega)).trans hp3
 have Rnew:∀i∈R,B1.length<i:=fun i hi=>by have:=fk.nw i hi;omega
 have hov4:=hov.step (R':=R) (G':=B4) (fun i hi=>⟨hi,s4 i (by have:=Rnew i hi;omega)⟩)
 have hof4:=hof.low (H':=B4) (fun i hi=>s4 i (by have:=Rnew i hi;omega))
 have hYr:∀i∈Y,i<r:=fun i hi=>by have:=(h.y i hi).2;omega
 have Y4:∀i∈Y,hget B4 i=hget B i:=fun i hi=>((old4 i (by simp [hi]) (by have:=hYr i hi;omega)).trans (s2 i (by have:=hYr i hi;omega))).trans (s1 i (h.y i hi).2)
 have hT1:T1.length≤T.length+os.length:=by
  rcases hm with ⟨_,_,e,_⟩ | ⟨_,e,_⟩
  ·rw [e];omega
  ·rw [e];exact pubsT_len _ _
 have kin:∀i,i∈B1.length::(R++([r,r+1,r+2,r+3]++Y))→i∈R++(B1.length::([r,r+1,r+2,r+3]++Y)):=fun i hi=>by
  simp only [maP,mcN]at hi ⊢
  rcases hi with h | h | (h | h | h | h) | h <;> simp [h]
 refine aw_seq ?_
 refine aw_cut (fun α G=>α 0=.iface 43 (.agg #[.pointer (some ⟨b,0,none⟩)])∧α 4=.pointer (some ⟨r,0,none⟩)∧α 5=.pointer (some ⟨r+1,0,none⟩)∧α 6=.pointer (some ⟨r+2,0,none⟩)∧α 7=.pointer (some ⟨r+3,0,none⟩) ∧
  ∃j R2 ov2,α 9=.slice (some ⟨j,0,none⟩) (ansL id pre hid heph ex).length (ansL id pre hid heph ex).length∧hget G j=some ⟨prs (ansL id pre hid heph ex), 180,some 64⟩∧r+4≤j∧Kt H0 (j::(R2++([r,r+1,r+2,r+3]++Y))) G b T1 ∧
   hget G r=some ⟨bnC id pre ov2, 99,none⟩∧KoV R2 G ov2 on∧(∀i∈R2,r+4≤i)∧hget G (r+2)=some ⟨iv .u8 (zl 64)++[.slice none 0 0], 99,none⟩∧hget G (r+3)=some ⟨iv .u8 (zl 32), 26,none⟩∧(∀i∈Y,hget G i=hget B i)∧B4.length≤G.length) ?_ ?_
 ·refine aw_seq ?_
  have lh4:=hget_lt gh4
  rcases hm with ⟨rfl,rfl,rfl,rfl⟩ | ⟨n0,hT1e,u,o,hu1,hu2,ho,rfl,rfl⟩
  ·(refine aoo fun K hK=>?_;simp (disch:=first|omega|simp only [lnS];try omega) [-getElem?_pos,-getElem?_neg,gh4,lh4,c3,hl96,nt_aggG];refine hK _ _ ?_;clear hK K)
   refine awf (by simp [eval_tmp,put_at]<;>omega) ?_
   refine aw_skip ?_
   exact⟨by (first|simp [put_at,put_none,fr0_at];done|rfl),by (first|simp [put_at,put_none,fr0_at];done|rfl),by (first|simp [put_at,put_none,fr0_at];done|rfl),by (first|simp [put_at,put_none,fr0_at];done|rfl),by (first|simp [put_at,put_none,fr0_at];done|rfl),B1.length,R,ov,by (first|simp [put_at,put_none,fr0_at];done|rfl),hp4,by omega,kt4.less kin,gs4,hov4,fun i hi=>by have:=Rnew i hi;omega,gS4,gk4,Y4,nlE _⟩
  ·have n0b:(one==zl 32)=false:=by rw [beq_eq_false_iff_ne];exact n0
   (refine aoo fun K hK=>?_;simp (disch:=first|omega|simp only [lnS];try omega) [-getElem?_pos,-getElem?_neg,gh4,lh4,c3,hl96,nt_aggG,n0,n0b];refine hK _ _ ?_;clear hK K)
   refine awt (by simp [eval_tmp,put_at]<;>omega) ?_
   obtain⟨TS,hTS'⟩:∃TS,TS=pubsT os T:=⟨_,rfl⟩
   obtain⟨NS,hNS⟩:∃NS,NS=pubsN os T:=⟨_,rfl⟩
   rw [←hNS]at hu1 hu2
   have hTS:TS=pubsT os T:=hTS'
   have nsk:K32 NS:=fun k hk=>by rw [hNS]at hk;exact (pubsN_k _ _ k hk).1
   have nsl:NS.length=os.length:=by rw [hNS];exact pubsN_len _ _
   refine aw_seq ?_
   refine name_aw (fun β hβ=>?_)
   have e0:β 0=.iface 43 (.agg #[.pointer (some ⟨b,0,none⟩)]):=by rw [hβ];(first|simp [put_at,put_none,fr0_at];done|rfl)
   have e4:β 4=.pointer (some ⟨r,0,none⟩):=by rw [hβ];(first|simp [put_at,put_none,fr0_at];done|rfl)
   have e5:β 5=.pointer (some ⟨r+1,0,none⟩):=by rw [hβ];(first|simp [put_at,put_none,fr0_at];done|rfl)
   have e6:β 6=.pointer (some ⟨r+2,0,none⟩):=by rw [hβ];(first|simp [put_at,put_none,fr0_at];done|rfl)
   have e7:β 7=.pointer (some ⟨r+3,0,none⟩):=by rw [hβ];(first|simp [put_at,put_none,fr0_at];done|rfl)
   have e9:β 9=.slice (some ⟨B1.length,0,none⟩) 3 3:=by rw [hβ];(first|simp [put_at,put_none,fr0_at];done|rfl)
   clear hβ
   have hob:=kt_obj (H0:=H0) (b:=b) (l:=[(5,TS),(8,TS)]) (T0:=T)
   have hsh:shapeK a4D (a4S B4.length r b one ov NS) [5,8]=true:=rfl
   have hst:StV H0.length (a4V B4.length r b one ov NS):=by
    intro G G' X X' i v hl hn hx hv
    unfold a4V at hv ⊢
    split at hv <;> first | exact hv | exact hv.step hx
   have hsc:∀k∈a4S B4.length r b one ov NS,StC H0.length k.c:=by
    intro k hk
    simp [a4S]at hk
   refine aw_inv a4P (JkE H0.length a4D a4P (a4V B4.length r b one ov NS) (a4S B4.length r b one ov NS) (fun s Y G=>Kt H0 Y G b (stT [(5,TS),(8,TS)] T s)) β (R++(B1.length::([r,r+1,r+2,r+3]++Y))) B4) (by kernel_rfl) (by kernel_rfl) (by kernel_rfl) ?_ ?_ ?_
   ·refine JK.start (Y:=R++(B1.length::([r,r+1,r+2,r+3]++Y))) (by show Kt H0 _ B4 b (stT _ _ _);rw [stT_0];exact kt4) (fun i hi=>hi) (fun q=>0) ?_ ?_
    ·intro k sk hk
     simp [a4S]at hk
    ·intro k k' sk sk' hk
     simp [a4S]at hk
   ·intro i s α G k hJ hi0 hsi hd hcc hcont
    obtain⟨X,Y,rs,hJ⟩:=hJ
    have gs:=(hJ.ss r (by simp)).2.trans gs4
    have gh:=(hJ.ss (r+1) (by simp)).2.trans gh4
    have j0:=(hJ.lo 0 (by decide)).trans e0
    have j4:=(hJ.lo 4 (by decide)).trans e4
    have j5:=(hJ.lo 5 (by decide)).trans e5
    have hle:=hJ.le
    have hi:i=0∨i=1∨i=2∨i=3∨i=4∨i=5∨i=6∨i=7∨i=8∨i=9:=by have hi0:i<10:=hi0;omega
    rcases hi with rfl | rfl | rfl | rfl | rfl | rfl | rfl | rfl | rfl | rfl
    ·unfold XOm
     simp only [gcS]
     simp (disch:=first|omega|simp only [lnS];try omega) [-getElem?_pos,-getElem?_neg,-notTuple,nt_boolG,nt_aggG,nt_intG,nt_ptrG,nt_slG,nt_strG,j4,XO_s,XO_z,XLk_val,XLk_call,headsO,behind,List.length_cons,List.length_nil,mcN,forall_eq_or_imp,forall_eq,List.contains_cons,List.contains_nil]
     exact hcont _ _ ⟨X,Y,rs,hJ.plain hsh hob (i:=0) (t:=37) rfl (by decide) (by simp [a4S]) rfl hd⟩
    ·have f0:α 37=.pointer (some ⟨r,64,none⟩):=hJ.val 0 37 rfl (hd 0 (by decide))
     unfold XOm
     simp only [gcS]
     simp (disch:=first|omega|simp only [lnS];try omega) [-getElem?_pos,-getElem?_neg,-notTuple,nt_boolG,nt_aggG,nt_intG,nt_ptrG,nt_slG,nt_strG,gs,bnC_3 li lp,ont.1,f0,XO_s,XO_z,XLk_val,XLk_call,headsO,behind,List.length_cons,List.length_nil,mcN,forall_eq_or_imp,forall_eq,List.contains_cons,List.contains_nil]
     exact hcont _ _ ⟨X,Y,rs,hJ.plain hsh hob (i:=1) (t:=38) rfl (by decide) (by simp [a4S]) rfl hd⟩
    ·unfold XOm
     simp only [gcS]
     simp (disch:=first|omega|simp only [lnS];try omega) [-getElem?_pos,-getElem?_neg,-notTuple,nt_boolG,nt_aggG,nt_intG,nt_ptrG,nt_slG,nt_strG,j0,XO_s,XO_z,XLk_val,XLk_call,headsO,behind,List.length_cons,List.length_nil,mcN,forall_eq_or_imp,forall_eq,List.contains_cons,List.contains_nil]
     exact hcont _ _ ⟨X,Y,rs,hJ.plain hsh hob (i:=2) (t:=39) rfl (by decide) (by simp [a4S]) rfl hd⟩
    ·have f2:α 39=.iface 43 (.agg #[.pointer (some ⟨b,0,none⟩)]):=hJ.val 2 39 rfl (hd 2 (by decide))
     unfold XOm
     simp only [gcS]
     simp (disch:=first|omega|simp only [lnS];try omega) [-getElem?_pos,-getElem?_neg,-notTuple,nt_boolG,nt_aggG,nt_intG,nt_ptrG,nt_slG,nt_strG,f2,XO_s,XO_z,XLk_val,XLk_call,headsO,behind,List.length_cons,List.length_nil,mcN,forall_eq_or_imp,forall_eq,List.contains_cons,List.contains_nil]
     exact hcont _ _ ⟨X,Y,rs,hJ.plain hsh hob (i:=3) (t:=40) rfl (by decide) (by simp [a4S]) rfl hd⟩
    ·have f3:α 40=.iface 43 (.agg #[.pointer (some ⟨b,0,none⟩)]):=hJ.val 3 40 rfl (hd 3 (by decide))
     unfold XOm
     simp only [gcS]
     simp (disch:=first|omega|simp only [lnS];try omega) [-getElem?_pos,-getElem?_neg,-notTuple,nt_boolG,nt_aggG,nt_intG,nt_ptrG,nt_slG,nt_strG,xm_pub,f3,XO_s,XO_z,XLk_val,XLk_call,headsO,behind,List.length_cons,List.length_nil,mcN,forall_eq_or_imp,forall_eq,List.contains_cons,List.contains_nil]
     exact hcont _ _ ⟨X,Y,rs,hJ.plain hsh hob (i:=4) (t:=41) rfl (by decide) (by simp [a4S]) rfl hd⟩
    ·have f1:α 38=ov:=hJ.val 1 38 rfl (hd 1 (by decide))
     have f4:α 41=.func (.method "Pub") #[.iface 43 (.agg #[.pointer (some ⟨b,0,none⟩)])] #[]:=hJ.val 4 41 rfl (hd 4 (by decide))
     unfold XOm
     simp only [gcS]
     simp (disch:=first|omega|simp only [lnS];try omega) [-getElem?_pos,-getElem?_neg,f1,f4,xm_pub,nt_aggG,nt_ptrG,-notTuple,XO_s,XO_z,XLk_val,XLk_call,headsO,behind,List.length_cons,List.length_nil,mcN,forall_eq_or_imp,forall_eq,List.contains_cons,List.contains_nil]
     have hks:KsX H0.length Y G ov os:=(hov4.step (R':=Y) (G':=G) (fun j hj=>⟨hJ.xy j (hJ.ss j (by simp [hj])).1,(hJ.ss j (by simp [hj])).2⟩)).ksx k32
     have ko:Kt H0 Y G b T:=by have:=hJ.o;simp only [stT,hsi,if_true,Bool.false_eq_true,if_false]at this;exact this
     refine⟨by kernel_rfl,AC.mono (each_ac hpw ko hks hk (by omega) (by omega)) ?_⟩
     rintro v' G' ⟨R2,p1,p2,p3,p4,p5⟩
     obtain⟨R,hR⟩:∃R,R=R2:=⟨_,rfl⟩
     rw [←hR]at p1 p4 p5
     have fk:FrK H0 Y G b TS R G':=⟨hTS▸p1,p2,p3,p5⟩
     exact hcont _ _ ⟨_,_,rs,hJ.call (R:=R) (Y':=R++Y) hsh hst hsc (by have e:stT [(5,TS),(8,TS)] T (s.setIfInBounds 5 true)=TS:=(by simp only [stT,sgE (show 5<s.size from by rw [hJ.sz];decide),sgN (show (5:Nat)≠8 by decide),hcc 8 (by decide),if_true,Bool.false_eq_true,if_false]);show Kt H0 _ G' b (stT [(5,TS),(8,TS)] T _);rw [e];exact fk.kt) fk.le (fun j hj=>(fk.kt.lw.1 j hj).trans (ko.lw.1 j hj).symm) (fun j hj=>⟨List.mem_append_right _ hj,fk.st j hj⟩) (fun j hj=>⟨List.mem_append_left _ hj,fun e=>by have:=fk.nw j hj;have:=(ko.y j e).2;omega⟩) (i:=5) (t:=42) rfl (by simp [a4S]) ⟨R,ownF_kov (hNS▸p4) nsk (fun j hj=>hj),fun j hj=>⟨List.mem_append_left _ hj,by have:=p5 j hj;omega⟩⟩ hd⟩
    ·unfold XOm
     simp only [gcS]
     simp (disch:=first|omega|simp only [lnS];try omega) [-getElem?_pos,-getElem?_neg,-notTuple,nt_boolG,nt_aggG,nt_intG,nt_ptrG,nt_slG,nt_strG,j5,XO_s,XO_z,XLk_val,XLk_call,headsO,behind,List.length_cons,List.length_nil,mcN,forall_eq_or_imp,forall_eq,List.contains_cons,List.contains_nil]
     exact hcont _ _ ⟨X,Y,rs,hJ.plain hsh hob (i:=6) (t:=43) rfl (by decide) (by simp [a4S]) rfl hd⟩
    ·have f6:α 43=.pointer (some ⟨r+1,64,none⟩):=hJ.val 6 43 rfl (hd 6 (by decide))
     unfold XOm
     simp only [gcS]
     simp (disch:=first|omega|simp only [lnS];try omega) [-getElem?_pos,-getElem?_neg,-notTuple,nt_boolG,nt_aggG,nt_intG,nt_ptrG,nt_slG,nt_strG,gh,c3,hl96,f6,XO_s,XO_z,XLk_val,XLk_call,headsO,behind,List.length_cons,List.length_nil,mcN,forall_eq_or_imp,forall_eq,List.contains_cons,List.contains_nil]
     exact hcont _ _ ⟨X,Y,rs,hJ.plain hsh hob (i:=7) (t:=44) rfl (by decide) (by simp [a4S]) rfl hd⟩
    ·have f5:=hJ.val 5 42 rfl (hd 5 (by decide))
     have f7:α 44=.agg (iv .u8 one).toArray:=hJ.val 7 44 rfl (hd 7 (by decide))
     unfold XOm
     simp only [gcS]
     simp (disch:=first|omega|simp only [lnS];try omega) [-getElem?_pos,-getElem?_neg,f7,xm_pub,nt_aggG,nt_ptrG,-notTuple,XO_s,XO_z,XLk_val,XLk_call,headsO,behind,List.length_cons,List.length_nil,mcN,forall_eq_or_imp,forall_eq,List.contains_cons,List.contains_nil]
     have ko:Kt H0 Y G b TS:=by have:=hJ.o;simp only [stT,(hd 5 (by decide)),hsi,if_true,Bool.false_eq_true,if_false]at this;exact this
     obtain⟨R5,k5,_⟩:=f5
     refine⟨by kernel_rfl,AC.mono (indexK28_ac (k5.now nsk) nsk lo ko.le (by omega)) ?_⟩
     rintro v' G' ⟨qv,lw⟩
     exact hcont _ _ ⟨_,_,rs,hJ.call (R:=[]) (Y':=Y) hsh hst hsc (by have e:stT [(5,TS),(8,TS)] T (s.setIfInBounds 8 true)=TS:=(by simp only [stT,sgE (show 8<s.size from by rw [hJ.sz];decide),sgN (show (8:Nat)≠5 by decide),(hd 5 (by decide)),if_true,Bool.false_eq_true,if_false]);show Kt H0 _ G' b (stT [(5,TS),(8,TS)] T _);rw [e];exact (ko.low lw)) lw.2 (fun j hj=>lw.1 j (by have:=ko.le;omega)) (fun j hj=>⟨hj,lw.1 j (ko.y j hj).2⟩) (fun j hj=>by cases hj) (i:=8) (t:=45) rfl (by simp [a4S]) qv hd⟩
    ·have f8:=hJ.val 8 45 rfl (hd 8 (by decide))
     unfold XOm
     simp only [gcS]
     simp (disch:=first|omega|simp only [lnS];try omega) [-getElem?_pos,-getElem?_neg,-notTuple,nt_boolG,nt_aggG,nt_intG,nt_ptrG,nt_slG,nt_strG,XO_s,XO_z,XLk_val,XLk_call,headsO,behind,List.length_cons,List.length_nil,mcN,forall_eq_or_imp,forall_eq,List.contains_cons,List.contains_nil]
     exact hcont _ _ ⟨X,Y,rs,hJ.plain hsh hob (i:=9) (t:=10) rfl (by decide) (by simp [a4S]) f8 hd⟩
   rintro s α G hJ hall
   obtain⟨X,Y2,rs,hJ⟩:=hJ
   have hd:∀i,i<10→s.getD i false=true:=fun i hi=>all_done hall (by rw [hJ.sz];exact hi)
   have i10:IdxQ one NS (α 10):=hJ.val 9 10 rfl (hd 9 (by omega))
   have a10:α 10=.int .i64 (u:Nat):=by
    rcases i10 with ⟨i,e,x1,x2⟩ | ⟨e,x1⟩
    ·have:i=u:=by
      rcases Nat.lt_trichotomy i u with h | h | h
      ·exact absurd x1 (hu2 i h)
      ·exact h
      ·exact absurd hu1 (x2 u h)
     rw [e,this]
    ·exact absurd (moG hu1) x1
   have a0:=(hJ.lo 0 (by decide)).trans e0
   have a4:=(hJ.lo 4 (by decide)).trans e4
   have a5:=(hJ.lo 5 (by decide)).trans e5
   have a6:=(hJ.lo 6 (by decide)).trans e6
   have a7:=(hJ.lo 7 (by decide)).trans e7
   have a9:=(hJ.lo 9 (by decide)).trans e9
   have ko:Kt H0 Y2 G b TS:=by
    have:=hJ.o
    simp only [stT,hd 5 (by omega),hd 8 (by omega),if_true]at this
    exact this
   have sS:=fun i hi=>(hJ.ss i hi).2
   have kG:Kt H0 (R++(B1.length::([r,r+1,r+2,r+3]++Y))) G b TS:=ko.less (fun i hi=>hJ.xy i (hJ.ss i hi).1)
   have lG:=hJ.le
   clear i10 hJ hall hd ko e0 e4 e5 e6 e7 e9 hob hsh hst hsc hu1 hu2
   have gs5:=(sS r (by simp)).trans gs4
   have gh5:=(sS (r+1) (by simp)).trans gh4
   have gS5:=(sS (r+2) (by simp)).trans gS4
   have gk5:=(sS (r+3) (by simp)).trans gk4
   have hp5:=(sS B1.length (by simp)).trans hp4
   have hof5:=hof4.low (H':=G) (fun i hi=>sS i (by simp [hi]))
   have hul:u<os.length:=(gsI.1 ho).1
   obtain⟨jb,rfl,gj5,rfl⟩:∃jb,ov=.slice (some ⟨jb,0,none⟩) os.length os.length∧hget G jb=some ⟨kr os, 26,some 32⟩∧R=[jb]:=by
    have hkl:=kr_len k32
    rcases hof5 with ⟨_,e,_⟩ | ⟨jb,len,e1,e2,e3,e4⟩
    ·rw [e]at hkl;simp at hkl;omega
    ·have:len=os.length:=by omega
     subst this
     exact⟨jb,e1,e2,e4⟩
   obtain⟨lo',bo'⟩:=hk o (moG ho)
   have hjb:=Rnew jb (by simp)
   have lj5:=hget_lt gj5
   have ad:=kr_addr (b:=jb) hul
   have ldo:=kr_load k32 ho gj5
   have ldv:xload Tryd.prog 23 (.pointer (some ⟨r,64,none⟩)) G=some (.slice (some ⟨jb,0,none⟩) os.length os.length):=by
    have h1:und Tryd.prog 23 = .slice 26 := by kernel_rfl
    simp [xload,gs5,bnC_3 li lp,isAggD,okD,h1]
   have lde:xload Tryd.prog 26 (.pointer (some ⟨r+1,32,none⟩)) G=some (.agg (iv .u8 heph).toArray):=by
    have h1:und Tryd.prog 26 = .array 32 5 := by kernel_rfl
    have h2:szt Tryd.prog 26 = 32:=by kernel_rfl
    simp [xload,gh5,isAggD,okD,h1,h2,hl96,c2]
   have pr4:=rowP (C:=iv .u8 (zl 64)) lo' le (by simp)
   have q4:(iv .u8 o++iv .u8 heph).take 64=iv .u8 o++iv .u8 heph:=tkL (by simp [le,lo'])
   have rw1:setR (List.map (fun j=>(iv .u8 (zl 64))[j%64]?.getD undef) (List.range 64)) 0 (iv .u8 o++iv .u8 heph)=prs [(o,heph)]:=(setR_all _ _ (by simp [le,lo'])).trans (by simp [prs,prC])
   have lp1:(prs [(o,heph)]).length=64:=by simp [prs,prC,le,lo']
   have okO:PrOk [(o,heph)]:=fun p hp=>by rw [msG.1 hp];exact⟨lo',bo',le,be,ne⟩
   have hxc:xcells 64 (.slice (some ⟨G.length,0,none⟩) 1 1) (G++[some ⟨prs [(o,heph)], 180,some 64⟩])=some (prs [(o,heph)]):=by
    simp [xcells,hget_app0,hget_cons0,lp1,tkL]
   have kG1:Kt H0 ([B1.length]++(jb::([r,r+1,r+2,r+3]++Y))) G b TS:=kG.less (fun i hi=>by
    simp only [maP,mcN]at hi ⊢
    rcases hi with h | h | (h | h | h | h) | h <;> simp [h])
   obtain⟨v4,G4,C,hap,k4,ho4,l4',s4',hC⟩:=pr_append (nro:=H0.length) (A:=[B1.length]) (Y:=jb::([r,r+1,r+2,r+3]++Y)) (kG1.low (G':=G++[some ⟨prs [(o,heph)], 180,some 64⟩]) ⟨fun j hj=>hget_left hj,by simp⟩) (av:=.slice (some ⟨B1.length,0,none⟩) 3 3) (.inr ⟨B1.length,3,rfl,(hget_left (by omega)).trans hp5,pr_len ok3,rfl⟩) (fun j hj=>by rw [msG.1 hj];omega) (fun s e=>by cases e) hxc ok3 okO (by simp)
   obtain⟨j4,rfl,gj4,rfl⟩:=own_pr ho4 (fun p hp=>by
    rcases maP.1 hp with e | e
    ·exact ok3 p e
    ·exact okO p e) (by simp)
   have hl3:(G++[some (⟨prs [(o,heph)], 180,some 64⟩:Blk)]).length=G.length+1:=by simp
   have hap:xappend Tryd.prog H0.length 181 (.slice (some ⟨B1.length,0,none⟩) 3 3) (.slice (some ⟨G.length,0,none⟩) 1 1) (G++[some ⟨prs [(o,heph)], 180,some 64⟩])=some (.slice (some ⟨j4,0,none⟩) 4 4,G4):=hap
   have hj4:=hC j4 (by simp)
   have keep4:∀i,i<G.length→i≠B1.length→hget G4 i=hget G i:=fun i hi hn=>(s4' i (by omega) (by simpa using hn)).trans (hget_left hi)
   refine aw_seq (aw_seq ?_)
   (refine aoo fun K hK=>?_;simp (disch:=first|omega|simp only [lnS];try omega) [-getElem?_pos,-getElem?_neg,a10];refine hK _ _ ?_;clear hK K)
   refine awf (by simp [eval_tmp,put_at]<;>omega) ?_
   refine aw_skip (aw_seq ?_)
   (refine aw_plan [] [] [0,1,2,3,4,5,6,7,8,9] 10 2 (by kernel_rfl) (by kernel_rfl) (by kernel_rfl) (fun K hK=>?_));simp only [sel,gcS,gdZ];simp (disch:=first|omega|simp only [lnS];try omega) [-getElem?_pos,-getElem?_neg,a4,a5,a9,a10,-xload,ldv,ldo,lde,-xindexAddr,ad,pr4,q4,rw1,le,lo',nt_aggG,nt_slG,nt_ptrG,nt_intG,-notTuple,hpl,-xappend,hap,Nat.add_assoc]
   refine⟨pr_plain,?_⟩
   refine hK _ _ ?_;clear hK K
   have gj6:=(keep4 jb lj5 (by omega)).trans gj5
   have gs6:=(keep4 r (hget_lt gs5) (by omega)).trans gs5
   have k4':Kt H0 (j4::(jb::([r,r+1,r+2,r+3]++Y))) G4 b TS:=k4
   have hnj:H0.length≤jb:=(k4'.y jb (by simp)).1
   have hdl:=deleteK_ac (nro:=H0.length) (γ:=γ) (R:=os.map (iv .u8)) gj6 hnj (fun q hq=>by
    obtain⟨k,hk',rfl⟩:=List.mem_map.1 hq
    simp [k32 k hk']) (a:=u) (by simpa using hul) (by simpa using hk1)
   rw [List.length_map]at hdl
   rw [show ((u+1:Nat):Int)=(u:Int)+1 by omega]at hdl
   have ldv6:xload Tryd.prog 23 (.pointer (some ⟨r,64,none⟩)) G4=some (.slice (some ⟨jb,0,none⟩) os.length os.length):=by
    have h1:und Tryd.prog 23 = .slice 26 := by kernel_rfl
    simp [xload,gs6,bnC_3 li lp,isAggD,okD,h1]
   have hu1':((u:Int)+1).toNat=u+1:=by omega
   refine aoo fun K hK=>?_
   simp (disch:=first|omega|simp only [lnS];try omega) [-getElem?_pos,-getElem?_neg,a4,a10,-xload,ldv6,nt_slG,nt_intG,nt_ptrG]
   refine⟨by kernel_rfl,AC.mono hdl ?_⟩
   rintro v6 G6 ⟨rfl,Z,rfl⟩
   have ls6:=hget_lt gs6
   have gs7:hget (G4.set jb (some ⟨((os.map (iv .u8)).take u++(os.map (iv .u8)).drop (u+1)).flatten++Z, 26,some 32⟩)) r=some ⟨bnC id pre (.slice (some ⟨jb,0,none⟩) os.length os.length), 99,none⟩:=(hget_set_ne (by omega)).trans gs6
   have k7:=k4'.set (r:=jb) (by simp) (some ⟨((os.map (iv .u8)).take u++(os.map (iv .u8)).drop (u+1)).flatten++Z, 26,some 32⟩)
   have gj7:hget (G4.set jb (some ⟨((os.map (iv .u8)).take u++(os.map (iv .u8)).drop (u+1)).flatten++Z, 26,some 32⟩)) jb=some ⟨((os.map (iv .u8)).take u++(os.map (iv .u8)).drop (u+1)).flatten++Z, 26,some 32⟩:=hget_set_eq (hget_lt gj6)
   have hfl:((os.map (iv .u8)).take u++(os.map (iv .u8)).drop (u+1)).flatten=kr (os.take u++os.drop (u+1)):=by
    unfold kr
    rw [List.map_append,List.map_take,List.map_drop]
   rw [hfl]at gs7 k7 gj7 ⊢
   have s7:∀i,i≠jb→hget (G4.set jb (some ⟨kr (os.take u++os.drop (u+1))++Z, 26,some 32⟩)) i=hget G4 i:=fun i hi=>hget_set_ne (Ne.symm hi)
   have l7:(G4.set jb (some ⟨kr (os.take u++os.drop (u+1))++Z, 26,some 32⟩)).length=G4.length:=by simp
   generalize G4.set jb (some ⟨kr (os.take u++os.drop (u+1))++Z, 26,some 32⟩)=G7 at *
   have ls7:=hget_lt gs7
   have hup7:∀w:Value,(bnC id pre (.slice (some ⟨jb,0,none⟩) os.length os.length)).set 64 w=bnC id pre w:=fun w=>bnC_upd li lp
   have hl657:=bnC_len (v:=.slice (some ⟨jb,0,none⟩) os.length os.length) li lp
   try simp (disch:=first|omega|simp only [lnS];try omega) [-getElem?_pos,-getElem?_neg,a4,gs7,ls7,hn3,nt_slG,-notTuple,hup7,hl657]
   refine hK _ _ ?_;clear hK K
   have hnl:(os.take u++os.drop (u+1)).length=os.length-1:=by
    rw [laP,List.length_take,List.length_drop];omega
   have b4G:∀i,i∈[r+2,r+3]++Y→i<G.length∧i≠B1.length∧i≠jb∧i≠r:=fun i hi=>by
    simp only [maP,mcN]at hi
    rcases hi with (h | h) | h
    ·omega
    ·omega
    ·have:=hYr i h;omega
   have k8:∀i,i∈[r+2,r+3]++Y→∀X:Option Blk,hget (G7.set r X) i=hget G i:=fun i hi X=>by
    obtain⟨x1,x2,x3,x4⟩:=b4G i hi
    rw [hget_set_ne (Ne.symm x4),s7 i x3,keep4 i x1 x2]
   refine⟨by (first|simp [put_at,put_none,fr0_at,a0];done|rfl),by (first|simp [put_at,put_none,fr0_at,a4];done|rfl),by (first|simp [put_at,put_none,fr0_at,a5];done|rfl),by (first|simp [put_at,put_none,fr0_at,a6];done|rfl),by (first|simp [put_at,put_none,fr0_at,a7];done|rfl),j4,[jb],.slice (some ⟨jb,0,none⟩) (os.length-1) (os.length-1),by (first|simp [put_at,put_none,fr0_at];done|rfl),?_,by omega,?_,hget_set_eq ls7,.inr ⟨jb,_,by rw [hnl],(hget_set_ne (by omega)).trans gj7,⟨Z,rfl⟩,by simp⟩,fun i hi=>by rw [msG.1 hi];omega,(k8 (r+2) (by simp) _).trans gS5,(k8 (r+3) (by simp) _).trans gk5,fun i hi=>?_,by simp;omega⟩
   ·rw [hget_set_ne (by omega),s7 j4 (by omega)]
    exact gj4
   ·rw [hT1e,←hTS]
    exact k7.set (r:=r) (by simp) _
   ·rw [k8 i (by simp [hi]),sS i (by simp [hi])]
    exact Y4 i hi
 rintro α G ⟨a0,a4,a5,a6,a7,j,R2,ov2,a9,gj,hjr,kt,gs5,hov2,hR2,gS5,gk5,Y5,lG⟩
 clear hof4 hov4 hp4 gs4 gh4 gS4 gk4 old4 kt4 kin hp3 k2 s2 gs2 hKB ldb rw3 hov hof fk gs3 lb3
 have okL:PrOk (ansL id pre hid heph ex):=by
  intro p hp
  rcases maP.1 hp with hp | hp
  ·exact ok3 p hp
  ·obtain⟨o,ho,rfl⟩:=List.mem_map.1 hp
   rcases hm with ⟨_,e,_⟩ | ⟨_,_,u,o',_,_,ho',e,_⟩
   ·rw [e]at ho;cases ho
   ·rw [e]at ho
    rw [msG.1 ho]
    have:=hk o' (moG ho')
    exact⟨this.1,this.2,le,be,ne⟩
 have hL4:(ansL id pre hid heph ex).length≤4:=by
  unfold ansL
  rcases hm with ⟨_,e,_⟩ | ⟨_,_,u,o',_,_,_,e,_⟩ <;> rw [e] <;> simp
 have ont2:=hov2.nt
 have hcall:=agreed_ac hpw kt (v:=.slice (some ⟨j,0,none⟩) (ansL id pre hid heph ex).length (ansL id pre hid heph ex).length) rfl gj (by simp) okL (by omega) (by omega)
 unfold kitV at hcall
 refine aso fun K hK=>?_
 simp (disch:=first|omega|simp only [lnS];try omega) [-getElem?_pos,-getElem?_neg,a0,a9,nt_aggG,nt_slG,-notTuple]
 refine⟨by kernel_rfl,AC.mono hcall ?_⟩
 rintro v1 G1 ⟨rfl,kt1,st1,lt1⟩
 have lN:(ansN id pre hid heph ex T1).length=32:=rfl
 have eN:nN (helD (ansL id pre hid heph ex) T1) (agsT (ansL id pre hid heph ex) T1)=ansN id pre hid heph ex T1:=rfl
 have eT:addT (helD (ansL id pre hid heph ex) T1) (agsT (ansL id pre hid heph ex) T1)=ansT id pre hid heph ex T1:=rfl
 rw [eT]at kt1
 rw [eN]
 generalize ansN id pre hid heph ex T1=N at *
 generalize ansT id pre hid heph ex T1=TF at *
 have htN:(iv .u8 N).take 32=iv .u8 N:=tkL (by simp [lN])
 have hsN:setR (iv .u8 (zl 32)) 0 (iv .u8 N)=iv .u8 N:=setR_all _ _ (by simp [lN])
 have hn1:=kt1.le
 try simp (disch:=first|omega|simp only [lnS];try omega) [-getElem?_pos,-getElem?_neg,lN,htN,hsN,nt_aggG,nt_boolG,-notTuple,hn1]
 refine hK _ _ ?_;clear hK K
 obtain⟨G2,hG2⟩:∃G2:AH,G2=G1++[some ⟨iv .u8 N, 26,none⟩]:=⟨_,rfl⟩
 have kt2:=kt1.low (G':=G2) (by rw [hG2];exact⟨fun j hj=>hget_left hj,by simp⟩)
 have g11:hget G2 G1.length=some ⟨iv .u8 N, 26,none⟩:=by rw [hG2,hget_app0];rfl
 have l2':G2.length=G1.length+1:=by rw [hG2];simp
 have st2:∀i∈j::(R2++([r,r+1,r+2,r+3]++Y)),hget G2 i=hget G i:=fun i hi=>by
  rw [hG2,hget_left (kt1.y i hi).2];exact st1 i hi
 rw [←hG2]
 clear hG2 st1 kt1 hcall
 have gs6:=(st2 r (by simp)).trans gs5
 have gS6:=(st2 (r+2) (by simp)).trans gS5
 have gk6:=(st2 (r+3) (by simp)).trans gk5
 have hov6:=hov2.step (R':=R2) (G':=G2) (fun i hi=>⟨hi,st2 i (by simp [hi])⟩)
 have l6r:=hget_lt gs6
 have l6S:=hget_lt gS6
 have l6k:=hget_lt gk6
 have l6n:=hget_lt g11
 refine aw_seq (aw_seq ?_)
 (refine aoo fun K hK=>?_;simp (disch:=first|omega|simp only [lnS];try omega) [-getElem?_pos,-getElem?_neg];refine hK _ _ ?_;clear hK K)
 refine awf (by simp [eval_tmp,put_at]<;>omega) ?_
 refine aw_skip ?_
 have bA:=bnC_all (v:=ov2) li lp
 have bL:=bnC_len (v:=ov2) li lp
 have bS:=bnC_set (v:=ov2) (C:=iv .u8 (zl 64)++[.slice none 0 0]) li lp (by simp)
 have hn2:H0.length≤r+2:=by omega
 have hn33:H0.length≤r+3:=by omega
 refine aw_seq ?_
 (refine aw_ptree [] 5 [[0,1,2,3,4],[0,2,1,3,4],[1,0,2,3,4]] (by kernel_rfl) (by kernel_rfl) (by kernel_rfl) (fun K hK=>?_));simp only [sel,gcS];simp (disch:=first|omega|simp only [lnS];try omega) [-getElem?_pos,-getElem?_neg,a4,a6,a7,gs6,gS6,gk6,g11,l6r,l6S,l6k,l6n,bA,bL,bS,htN,hsN,lN,hn2,hn33,nt_aggG,-notTuple,XO_s,XO_z,XLk_val,XLk_call,headsO,behind,List.length_cons,List.length_nil,mcN,forall_eq_or_imp,forall_eq,List.contains_cons,List.contains_nil]
 have l8:((G2.set (r+2) (some ⟨bnC id pre ov2, 99,none⟩)).set (r+3) (some ⟨iv .u8 N, 26,none⟩)).length=G2.length:=by simp
 have g8:hget ((G2.set (r+2) (some ⟨bnC id pre ov2, 99,none⟩)).set (r+3) (some ⟨iv .u8 N, 26,none⟩)) (r+2)=some ⟨bnC id pre ov2, 99,none⟩:=by rw [hget_set_ne (by omega),hget_set_eq l6S]
 have g9:hget ((G2.set (r+2) (some ⟨bnC id pre ov2, 99,none⟩)).set (r+3) (some ⟨iv .u8 N, 26,none⟩)) (r+3)=some ⟨iv .u8 N, 26,none⟩:=hget_set_eq (by simp;omega)
 have k8:=(kt2.set (r:=r+2) (by simp) (some ⟨bnC id pre ov2, 99,none⟩)).set (r:=r+3) (by simp) (some ⟨iv .u8 N, 26,none⟩)
 have s8:∀i,i≠r+2→i≠r+3→hget ((G2.set (r+2) (some ⟨bnC id pre ov2, 99,none⟩)).set (r+3) (some ⟨iv .u8 N, 26,none⟩)) i=hget G2 i:=fun i h1 h2=>by rw [hget_set_ne (Ne.symm h2),hget_set_ne (Ne.symm h1)]
 generalize (G2.set (r+2) (some ⟨bnC id pre ov2, 99,none⟩)).set (r+3) (some ⟨iv .u8 N, 26,none⟩)=G8 at *
 have fin:AnsQ H0 Y B b TF N id pre on (.tuple #[.agg (bnC id pre ov2).toArray,.agg (iv .u8 N).toArray,.int .i64 0]) G8:=by
  refine⟨R2,ov2,rfl,⟨k8.less (fun i hi=>?_),fun i hi=>?_,by omega,fun i hi=>by have:=hR2 i hi;omega⟩,hov6.step (fun i hi=>⟨hi,s8 i (by have:=hR2 i hi;omega) (by have:=hR2 i hi;omega)⟩)⟩
  ·rcases maP.1 hi with e | e <;> simp [e]
  ·have:=hYr i hi
   rw [s8 i (by omega) (by omega),st2 i (by simp [hi])]
   exact Y5 i hi
 have lg8:=hget_lt g8
 have lg9:=hget_lt g9
 repeat' (first | apply And.intro | (refine hK _ _ ?_))
 all_goals
  clear hK K
  (refine aw_ret ?_;simp (disch:=first|omega|simp only [lnS];try omega) [-getElem?_pos,-getElem?_neg,a6,a7,g8,g9,lg8,lg9,bA,bL,htN,lN,nt_aggG])
  exact fin
end
section
def a5D:List (Option Nat):=[some 37,some 38,some 39,some 40,some 41,some 42,some 43,some 44,some 45,some 10]
def a5P:List (List Nat):=[[],[0],[],[2],[3],[1,4],[],[6],[5,7],[0,1,2,3,4,5,6,7,8]]
def a5V(lo r b:Nat)(one:List Int)(ov:Value)(NS:List (List Int))(G:AH)(X:List Nat)(i:Nat)(v:Value):Prop:=match i with
 | 0=>v=.pointer (some ⟨r,64,none⟩)
 | 1=>v=ov
 | 2=>v=.iface 43 (.agg #[.pointer (some ⟨b,0,none⟩)])
 | 3=>v=.iface 43 (.agg #[.pointer (some ⟨b,0,none⟩)])
 | 4=>v=.func (.method "Pub") #[.iface 43 (.agg #[.pointer (some ⟨b,0,none⟩)])] #[]
 | 5=>KoN lo X G v NS
 | 6=>v=.pointer (some ⟨r+1,64,none⟩)
 | 7=>v=.agg (iv .u8 one).toArray
 | 8=>IdxQ one NS v
 | 9=>IdxQ one NS v
 | _=>True
def a5S(lo r b:Nat)(one:List Int)(ov:Value)(NS:List (List Int)):List Slot:=[]
attribute [local simp] wb_bool wb_undef with_lit XL_nil XL_cons XLc_val XLc_call step1_eq stepW_t stepW_f stepC_n stepC_s stepX_s stepX_n stepN_s calleeX xrecv oneV xop_eq xopR_s xopR_n wantedA_eq wantedG_n wantedG_s plain1_int plain1_bool plain1_string bits_i64 bits_u64 bits_u32 bits_u16 bits_u8 xeqA xagg xcmp xarr allK_iv num_iv calleeOf xread xeff xbin xint xnil xun xstr xload xconv xpart xfield xfieldAddr xindexAddr xindex bnd asInt? xslice xlen xmin xmax xbuild xfill xappend xapp2 xappstr xappmk xcap xcopy xcells eval_tmp eval_const put_at put_none fr0_at cells_agg cells_int cells_bool cells_string cells_ptr cells_slice notTuple tab iv_all hget_app hget_app0 hget_cons0 hget_cons set_app set_app0 setR setR_one QL_nil QL_cons QLc_val stepQ_t stepQ_f stepQC_n stepQC_s stepQX_s SL_nil SL_cons SLc_val stepS_t stepS_f ltT ltF leT leF eqT eqF ltTn ltFn leTn leFn eqTn eqFn beqT beqF bneT bneF wi64 wu64 wu32 wu16 wu8 tmodP tdivP hgetL hgetNe hgetEq setL nums_def nums_len Nat.succ_le_of_lt List.getElem?_cons_zero List.getElem?_cons_succ Option.getD_some Int.toNat_add Int.toNat_mul agM okM agB agI agS agP agL agA okB okI okS okP okSl okA thenQ_ret scopeQ_ret inBlockQ_ret RQ resL resV
theorem ansN_ac{γ:Nat→Option Nat}{H0 B:AH}{Y:List Nat}{b:Nat}{T:List TermD}(hpw:Pw γ H0)(h:Kt H0 Y B b T){id pre hid heph one:List Int}{sv:Value}{os:List (List Int)}(li:id.length=32)(bi:By id)(lp:pre.length=32)(bp:By pre)(lh:hid.length=32)(bh:By hid)(nh:hid≠zl 32)(le:heph.length=32)(be:By heph)(ne:heph≠zl 32)(lo:one.length=32)(bo:By one)
  (hK:KoV Y B sv os) (hk:∀k∈os,k.length=32∧By k) (hk1:os.length≤1000) (hT:T.length≤700000) (n0:one≠zl 32) (nn:one∉pubsN os T) :
  AC Tryd.prog H0.length γ 46 #[kitV b,.agg (bnC id pre sv).toArray,.agg (hlC hid heph one).toArray] B (fun v' H'=>v'=.tuple #[.agg (iv .u8 (zl 64)++[Value.slice none 0 0]).toArray,.agg (iv .u8 (zl 32)).toArray,.int .i64 22]∧KtQ H0 Y B b (pubsT os T) H'):=by
 have hnt:=hK.nt
 have k32:K32 os:=fun k hm=>(hk k hm).1
 have hpl:plain1 (.slice none 0 0)=true:=rfl
 have hall:=bnC_all (v:=sv) li lp
 have hl65:=bnC_len (v:=sv) li lp
 have hl96:=hlC_len lh le lo
 have ha96:=hlC_all lh le lo
 have to1:(iv .u8 one).take 32=iv .u8 one:=tkL (by simp [lo])
 have hnB:=h.le
 unfold kitV
 obtain⟨r,hr⟩:∃r,r=B.length:=⟨_,rfl⟩
 refine ac_of_aw Tryd.func46 rfl Tryd.ntmps46 Tryd.results46 (by simp) ?_
 (refine aso fun K hK=>?_;simp (disch:=first|omega|simp only [lnS];try omega) [-getElem?_pos,-getElem?_neg,hall,hl65,hl96,ha96,hpl];refine hK _ _ ?_;clear hK K)
 obtain⟨B1,hB1⟩:∃B1:AH,B1=B++[some ⟨bnC id pre sv, 99,none⟩,some ⟨hlC hid heph one, 104,none⟩,some ⟨iv .u8 (zl 64)++[.slice none 0 0], 99,none⟩,some ⟨iv .u8 (zl 32), 26,none⟩]:=⟨_,rfl⟩
 have gs:hget B1 r=some ⟨bnC id pre sv, 99,none⟩:=by rw [hB1,hr,hget_app0];rfl
 have gh:hget B1 (r+1)=some ⟨hlC hid heph one, 104,none⟩:=by rw [hB1,hr,hget_app];rfl
 have gS:hget B1 (r+2)=some ⟨iv .u8 (zl 64)++[.slice none 0 0], 99,none⟩:=by rw [hB1,hr,hget_app];rfl
 have gk:hget B1 (r+3)=some ⟨iv .u8 (zl 32), 26,none⟩:=by rw [hB1,hr,hget_app];rfl
 have l1:B1.length=r+4:=by rw [hB1];simp [hr]
 have s1:∀j,j<B.length→hget B1 j=hget B j:=fun j hj=>by rw [hB1];exact hget_left hj
 have k1:Kt H0 ([r,r+1,r+2,r+3]++Y) B1 b T:=h.grow (by rw [hB1];exact⟨fun j hj=>hget_left hj,by simp⟩) (fun j hj=>by simp only [mcN]at hj;omega)
 rw [←hr,←hB1]
 clear hB1
 have pr1:=rowP (C:=iv .u8 (zl 64)) lp lh (by simp)
 have pr2:=rowP (C:=iv .u8 (zl 64)) li le (by simp)
 have pr3:=rowP (C:=iv .u8 (zl 64)) lp le (by simp)
 have b1:=bnC_1 (v:=sv) li lp
 have b2:=bnC_2 (v:=sv) li lp
 have b3:=bnC_3 (v:=sv) li lp
 have c1:=hlC_1 lh le lo
 have c2:=hlC_2 lh le lo
 have c3:=hlC_3 lh le lo
 have q1:(iv .u8 pre++iv .u8 hid).take 64=iv .u8 pre++iv .u8 hid:=tkL (by simp [lh,lp])
 have q2:(iv .u8 id++iv .u8 heph).take 64=iv .u8 id++iv .u8 heph:=tkL (by simp [le,li])
 have q3:(iv .u8 pre++iv .u8 heph).take 64=iv .u8 pre++iv .u8 heph:=tkL (by simp [le,lp])
 have ls0:=hget_lt gs
 have lh0:=hget_lt gh
 have rw3:setR (setR (setR (List.map (fun j=>(iv .u8 (zl 64))[j%64]?.getD undef) (List.range 192)) 0 (iv .u8 pre++iv .u8 hid)) 64 (iv .u8 id++iv .u8 heph)) 128 (iv .u8 pre++iv .u8 heph)=prs [(pre,hid),(id,heph),(pre,heph)]:=
  (row3C (n:=64) (by simp [lh,lp]) (by simp [le,li]) (by simp [le,lp]) (by simp)).trans (by simp [prs,prC])
 have ok3:PrOk [(pre,hid),(id,heph),(pre,heph)]:=fun p hp=>by
  simp only [mcN]at hp
  rcases hp with rfl | rfl | rfl
  ·exact⟨lp,bp,lh,bh,nh⟩
  ·exact⟨li,bi,le,be,ne⟩
  ·exact⟨lp,bp,le,be,ne⟩
 (refine aso fun K hK=>?_;simp (disch:=first|omega|simp only [lnS];try omega) [-getElem?_pos,-getElem?_neg,gs,gh,ls0,lh0,b1,b2,c1,c2,pr1,pr2,pr3,q1,q2,q3,li,le,lh,lp,hl65,hl96,nt_aggG,nt_slG,rw3];refine hK _ _ ?_;clear hK K)
 obtain⟨B2,hB2⟩:∃B2:AH,B2=B1++[some ⟨prs [(pre,hid),(id,heph),(pre,heph)], 180,some 64⟩]:=⟨_,rfl⟩
 have hp3:hget B2 B1.length=some ⟨prs [(pre,hid),(id,heph),(pre,heph)], 180,some 64⟩:=by rw [hB2,hget_app0];rfl
 have k2:Kt H0 (B1.length::([r,r+1,r+2,r+3]++Y)) B2 b T:=by rw [hB2];exact k1.push _
 have l2:B2.length=r+5:=by rw [hB2];simp [l1]
 have s2:∀j,j<B1.length→hget B2 j=hget B1 j:=fun j hj=>by rw [hB2];exact hget_left hj
 rw [←hB2]
 clear hB2
 have gs2:=(s2 r (by omega)).trans gs
 have hKB:=hK.step (R':=Y) (G':=B2) (fun j hj=>⟨hj,by have:=(h.y j hj).2;exact (s2 j (by omega)).trans (s1 j this)⟩)
 have hcl:=kt_cloneF (γ:=γ) k2 (hKB.now k32) k32 (by omega)
 have ldb:xload Tryd.prog 23 (.pointer (some ⟨r,64,none⟩)) B2=some sv:=by
  have h1:und Tryd.prog 23 = .slice 26 := by kernel_rfl
  simp [xload,gs2,b3,isAggD,okD,h1]
 refine aso fun K hK=>?_
 simp (disch:=first|omega|simp only [lnS];try omega) [-getElem?_pos,-getElem?_neg,-xload,ldb,hnt.1,hnt.2,-notTuple,nt_intG,nt_slG,nt_ptrG]
 refine⟨by kernel_rfl,AC.mono hcl ?_⟩
 rintro ov B3 ⟨R,hof,fk⟩
 have hov:=ownF_kov hof k32 (R:=R) (fun j hj=>hj)
 have ont:=hov.nt
 have gs3:=(fk.st r (by simp)).trans gs2
 have lb3:=hget_lt gs3
 have hn3:H0.length≤r:=by omega
 have hup:(bnC id pre sv).set 64 ov=bnC id pre ov:=bnC_upd li lp
 try simp (disch:=first|omega|simp only [lnS];try omega) [-getElem?_pos,-getElem?_neg,gs3,lb3,hn3,ont.1,ont.2,-notTuple,hup,hl65]
 refine hK _ _ ?_;clear hK K
 obtain⟨B4,hB4⟩:∃B4:AH,B4=B3.set r (some ⟨bnC id pre ov, 99,none⟩):=⟨_,rfl⟩
 have kt4:Kt H0 (R++(B1.length::([r,r+1,r+2,r+3]++Y))) B4 b T:=by rw [hB4];exact fk.kt.set (by simp) _
 have s4:∀i,i≠r→hget B4 i=hget B3 i:=fun i hi=>by rw [hB4];exact hget_set_ne (Ne.symm hi)
 have gs4:hget B4 r=some ⟨bnC id pre ov, 99,none⟩:=by rw [hB4];exact hget_set_eq lb3
 have l4:B4.length=B3.length:=by rw [hB4];simp
 rw [←hB4]
 clear hB4
 have old4:∀i∈B1.length::([r,r+1,r+2,r+3]++Y),i≠r→hget B4 i=hget B2 i:=fun i hi hn=>(s4 i hn).trans (fk.st i hi)
 have gh4:=((old4 (r+1) (by simp) (by omega)).trans (s2 (r+1) (by omega))).trans gh
 have gS4:=((old4 (r+2) (by simp) (by omega)).trans (s2 (r+2) (by omega))).trans gS
 have gk4:=((old4 (r+3) (by simp) (by omega)).trans (s2 (r+3) (by omega))).trans gk
 have hp4:=(old4 B1.length (by simp) (by omega)).trans hp3
 have Rnew:∀i∈R,B1.length<i:=fun i hi=>by have:=fk.nw i hi;omega
 have hov4:=hov.step (R':=R) (G':=B4) (fun i hi=>⟨hi,s4 i (by have:=Rnew i hi;omega)⟩)
 have hof4:=hof.low (H':=B4) (fun i hi=>s4 i (by have:=Rnew i hi;omega))
 have hYr:∀i∈Y,i<r:=fun i hi=>by have:=(h.y i hi).2;omega
 have Y4:∀i∈Y,hget B4 i=hget B i:=fun i hi=>((old4 i (by simp [hi]) (by have:=hYr i hi;omega)).trans (s2 i (by have:=hYr i hi;omega))).trans (s1 i (h.y i hi).2)
 refine aw_seq (aw_seq ?_)
 have lh4:=hget_lt gh4
 have n0b:(one==zl 32)=false:=by rw [beq_eq_false_iff_ne];exact n0
 (refine aoo fun K hK=>?_;simp (disch:=first|omega|simp only [lnS];try omega) [-getElem?_pos,-getElem?_neg,gh4,lh4,c3,hl96,nt_aggG,n0,n0b];refine hK _ _ ?_;clear hK K)
 refine awt (by simp [eval_tmp,put_at]<;>omega) ?_
 obtain⟨TS,hTS'⟩:∃TS,TS=pubsT os T:=⟨_,rfl⟩
 obtain⟨NS,hNS⟩:∃NS,NS=pubsN os T:=⟨_,rfl⟩
 rw [←hNS]at nn
 have hTS:TS=pubsT os T:=hTS'
 have nsk:K32 NS:=fun k hk=>by rw [hNS]at hk;exact (pubsN_k _ _ k hk).1
 have nsl:NS.length=os.length:=by rw [hNS];exact pubsN_len _ _
 refine aw_seq ?_
 refine name_aw (fun β hβ=>?_)
 have e0:β 0=.iface 43 (.agg #[.pointer (some ⟨b,0,none⟩)]):=by rw [hβ];(first|simp [put_at,put_none,fr0_at];done|rfl)
 have e4:β 4=.pointer (some ⟨r,0,none⟩):=by rw [hβ];(first|simp [put_at,put_none,fr0_at];done|rfl)
 have e5:β 5=.pointer (some ⟨r+1,0,none⟩):=by rw [hβ];(first|simp [put_at,put_none,fr0_at];done|rfl)
 have e6:β 6=.pointer (some ⟨r+2,0,none⟩):=by rw [hβ];(first|simp [put_at,put_none,fr0_at];done|rfl)
 have e7:β 7=.pointer (some ⟨r+3,0,none⟩):=by rw [hβ];(first|simp [put_at,put_none,fr0_at];done|rfl)
 have e9:β 9=.slice (some ⟨B1.length,0,none⟩) 3 3:=by rw [hβ];(first|simp [put_at,put_none,fr0_at];done|rfl)
 clear hβ
 have hob:=kt_obj (H0:=H0) (b:=b) (l:=[(5,TS),(8,TS)]) (T0:=T)
 have hsh:shapeK a5D (a5S B4.length r b one ov NS) [5,8]=true:=rfl
 have hst:StV H0.length (a5V B4.length r b one ov NS):=by
  intro G G' X X' i v hl hn hx hv
  unfold a5V at hv ⊢
  split at hv <;> first | exact hv | exact hv.step hx
 have hsc:∀k∈a5S B4.length r b one ov NS,StC H0.length k.c:=by
  intro k hk
  simp [a5S]at hk
 refine aw_inv a5P (JkE H0.length a5D a5P (a5V B4.length r b one ov NS) (a5S B4.length r b one ov NS) (fun s Y G=>Kt H0 Y G b (stT [(5,TS),(8,TS)] T s)) β (R++(B1.length::([r,r+1,r+2,r+3]++Y))) B4) (by kernel_rfl) (by kernel_rfl) (by kernel_rfl) ?_ ?_ ?_
 ·refine JK.start (Y:=R++(B1.length::([r,r+1,r+2,r+3]++Y))) (by show Kt H0 _ B4 b (stT _ _ _);rw [stT_0];exact kt4) (fun i hi=>hi) (fun q=>0) ?_ ?_
  ·intro k sk hk
   simp [a5S]at hk
  ·intro k k' sk sk' hk
   simp [a5S]at hk
 ·intro i s α G k hJ hi0 hsi hd hcc hcont
  obtain⟨X,Y,rs,hJ⟩:=hJ
  have gs:=(hJ.ss r (by simp)).2.trans gs4
  have gh:=(hJ.ss (r+1) (by simp)).2.trans gh4
  have j0:=(hJ.lo 0 (by decide)).trans e0
  have j4:=(hJ.lo 4 (by decide)).trans e4
  have j5:=(hJ.lo 5 (by decide)).trans e5
  have hle:=hJ.le
  have hi:i=0∨i=1∨i=2∨i=3∨i=4∨i=5∨i=6∨i=7∨i=8∨i=9:=by have hi0:i<10:=hi0;omega
  rcases hi with rfl | rfl | rfl | rfl | rfl | rfl | rfl | rfl | rfl | rfl
  ·unfold XOm
   simp only [gcS]
   simp (disch:=first|omega|simp only [lnS];try omega) [-getElem?_pos,-getElem?_neg,-notTuple,nt_boolG,nt_aggG,nt_intG,nt_ptrG,nt_slG,nt_strG,j4,XO_s,XO_z,XLk_val,XLk_call,headsO,behind,List.length_cons,List.length_nil,mcN,forall_eq_or_imp,forall_eq,List.contains_cons,List.contains_nil]
   exact hcont _ _ ⟨X,Y,rs,hJ.plain hsh hob (i:=0) (t:=37) rfl (by decide) (by simp [a5S]) rfl hd⟩
  ·have f0:α 37=.pointer (some ⟨r,64,none⟩):=hJ.val 0 37 rfl (hd 0 (by decide))
   unfold XOm
   simp only [gcS]
   simp (disch:=first|omega|simp only [lnS];try omega) [-getElem?_pos,-getElem?_neg,-notTuple,nt_boolG,nt_aggG,nt_intG,nt_ptrG,nt_slG,nt_strG,gs,bnC_3 li lp,ont.1,f0,XO_s,XO_z,XLk_val,XLk_call,headsO,behind,List.length_cons,List.length_nil,mcN,forall_eq_or_imp,forall_eq,List.contains_cons,List.contains_nil]
   exact hcont _ _ ⟨X,Y,rs,hJ.plain hsh hob (i:=1) (t:=38) rfl (by decide) (by simp [a5S]) rfl hd⟩
  ·unfold XOm
   simp only [gcS]
   simp (disch:=first|omega|simp only [lnS];try omega) [-getElem?_pos,-getElem?_neg,-notTuple,nt_boolG,nt_aggG,nt_intG,nt_ptrG,nt_slG,nt_strG,j0,XO_s,XO_z,XLk_val,XLk_call,headsO,behind,List.length_cons,List.length_nil,mcN,forall_eq_or_imp,forall_eq,List.contains_cons,List.contains_nil]
   exact hcont _ _ ⟨X,Y,rs,hJ.plain hsh hob (i:=2) (t:=39) rfl (by decide) (by simp [a5S]) rfl hd⟩
  ·have f2:α 39=.iface 43 (.agg #[.pointer (some ⟨b,0,none⟩)]):=hJ.val 2 39 rfl (hd 2 (by decide))
   unfold XOm
   simp only [gcS]
   simp (disch:=first|omega|simp only [lnS];try omega) [-getElem?_pos,-getElem?_neg,-notTuple,nt_boolG,nt_aggG,nt_intG,nt_ptrG,nt_slG,nt_strG,f2,XO_s,XO_z,XLk_val,XLk_call,headsO,behind,List.length_cons,List.length_nil,mcN,forall_eq_or_imp,forall_eq,List.contains_cons,List.contains_nil]
   exact hcont _ _ ⟨X,Y,rs,hJ.plain hsh hob (i:=3) (t:=40) rfl (by decide) (by simp [a5S]) rfl hd⟩
  ·have f3:α 40=.iface 43 (.agg #[.pointer (some ⟨b,0,none⟩)]):=hJ.val 3 40 rfl (hd 3 (by decide))
   unfold XOm
   simp only [gcS]
   simp (disch:=first|omega|simp only [lnS];try omega) [-getElem?_pos,-getElem?_neg,-notTuple,nt_boolG,nt_aggG,nt_intG,nt_ptrG,nt_slG,nt_strG,xm_pub,f3,XO_s,XO_z,XLk_val,XLk_call,headsO,behind,List.length_cons,List.length_nil,mcN,forall_eq_or_imp,forall_eq,List.contains_cons,List.contains_nil]
   exact hcont _ _ ⟨X,Y,rs,hJ.plain hsh hob (i:=4) (t:=41) rfl (by decide) (by simp [a5S]) rfl hd⟩
  ·have f1:α 38=ov:=hJ.val 1 38 rfl (hd 1 (by decide))
   have f4:α 41=.func (.method "Pub") #[.iface 43 (.agg #[.pointer (some ⟨b,0,none⟩)])] #[]:=hJ.val 4 41 rfl (hd 4 (by decide))
   unfold XOm
   simp only [gcS]
   simp (disch:=first|omega|simp only [lnS];try omega) [-getElem?_pos,-getElem?_neg,f1,f4,xm_pub,nt_aggG,nt_ptrG,-notTuple,XO_s,XO_z,XLk_val,XLk_call,headsO,behind,List.length_cons,List.length_nil,mcN,forall_eq_or_imp,forall_eq,List.contains_cons,List.contains_nil]
   have hks:KsX H0.length Y G ov os:=(hov4.step (R':=Y) (G':=G) (fun j hj=>⟨hJ.xy j (hJ.ss j (by simp [hj])).1,(hJ.ss j (by simp [hj])).2⟩)).ksx k32
   have ko:Kt H0 Y G b T:=by have:=hJ.o;simp only [stT,hsi,if_true,Bool.false_eq_true,if_false]at this;exact this
   refine⟨by kernel_rfl,AC.mono (each_ac hpw ko hks hk (by omega) (by omega)) ?_⟩
   rintro v' G' ⟨R2,p1,p2,p3,p4,p5⟩
   obtain⟨R,hR⟩:∃R,R=R2:=⟨_,rfl⟩
   rw [←hR]at p1 p4 p5
   have fk:FrK H0 Y G b TS R G':=⟨hTS▸p1,p2,p3,p5⟩
   exact hcont _ _ ⟨_,_,rs,hJ.call (R:=R) (Y':=R++Y) hsh hst hsc (by have e:stT [(5,TS),(8,TS)] T (s.setIfInBounds 5 true)=TS:=(by simp only [stT,sgE (show 5<s.size from by rw [hJ.sz];decide),sgN (show (5:Nat)≠8 by decide),hcc 8 (by decide),if_true,Bool.false_eq_true,if_false]);show Kt H0 _ G' b (stT [(5,TS),(8,TS)] T _);rw [e];exact fk.kt) fk.le (fun j hj=>(fk.kt.lw.1 j hj).trans (ko.lw.1 j hj).symm) (fun j hj=>⟨List.mem_append_right _ hj,fk.st j hj⟩) (fun j hj=>⟨List.mem_append_left _ hj,fun e=>by have:=fk.nw j hj;have:=(ko.y j e).2;omega⟩) (i:=5) (t:=42) rfl (by simp [a5S]) ⟨R,ownF_kov (hNS▸p4) nsk (fun j hj=>hj),fun j hj=>⟨List.mem_append_left _ hj,by have:=p5 j hj;omega⟩⟩ hd⟩
  ·unfold XOm
   simp only [gcS]
   simp (disch:=first|omega|simp only [lnS];try omega) [-getElem?_pos,-getElem?_neg,-notTuple,nt_boolG,nt_aggG,nt_intG,nt_ptrG,nt_slG,nt_strG,j5,XO_s,XO_z,XLk_val,XLk_call,headsO,behind,List.length_cons,List.length_nil,mcN,forall_eq_or_imp,forall_eq,List.contains_cons,List.contains_nil]
   exact hcont _ _ ⟨X,Y,rs,hJ.plain hsh hob (i:=6) (t:=43) rfl (by decide) (by simp [a5S]) rfl hd⟩
  ·have f6:α 43=.pointer (some ⟨r+1,64,none⟩):=hJ.val 6 43 rfl (hd 6 (by decide))
   unfold XOm
   simp only [gcS]
   simp (disch:=first|omega|simp only [lnS];try omega) [-getElem?_pos,-getElem?_neg,-notTuple,nt_boolG,nt_aggG,nt_intG,nt_ptrG,nt_slG,nt_strG,gh,c3,hl96,f6,XO_s,XO_z,XLk_val,XLk_call,headsO,behind,List.length_cons,List.length_nil,mcN,forall_eq_or_imp,forall_eq,List.contains_cons,List.contains_nil]
   exact hcont _ _ ⟨X,Y,rs,hJ.plain hsh hob (i:=7) (t:=44) rfl (by decide) (by simp [a5S]) rfl hd⟩
  ·have f5:=hJ.val 5 42 rfl (hd 5 (by decide))
   have f7:α 44=.agg (iv .u8 one).toArray:=hJ.val 7 44 rfl (hd 7 (by decide))
   unfold XOm
   simp only [gcS]
   simp (disch:=first|omega|simp only [lnS];try omega) [-getElem?_pos,-getElem?_neg,f7,xm_pub,nt_aggG,nt_ptrG,-notTuple,XO_s,XO_z,XLk_val,XLk_call,headsO,behind,List.length_cons,List.length_nil,mcN,forall_eq_or_imp,forall_eq,List.contains_cons,List.contains_nil]
   have ko:Kt H0 Y G b TS:=by have:=hJ.o;simp only [stT,(hd 5 (by decide)),hsi,if_true,Bool.false_eq_true,if_false]at this;exact this
   obtain⟨R5,k5,_⟩:=f5
   refine⟨by kernel_rfl,AC.mono (indexK28_ac (k5.now nsk) nsk lo ko.le (by omega)) ?_⟩
   rintro v' G' ⟨qv,lw⟩
   exact hcont _ _ ⟨_,_,rs,hJ.call (R:=[]) (Y':=Y) hsh hst hsc (by have e:stT [(5,TS),(8,TS)] T (s.setIfInBounds 8 true)=TS:=(by simp only [stT,sgE (show 8<s.size from by rw [hJ.sz];decide),sgN (show (8:Nat)≠5 by decide),(hd 5 (by decide)),if_true,Bool.false_eq_true,if_false]);show Kt H0 _ G' b (stT [(5,TS),(8,TS)] T _);rw [e];exact (ko.low lw)) lw.2 (fun j hj=>lw.1 j (by have:=ko.le;omega)) (fun j hj=>⟨hj,lw.1 j (ko.y j hj).2⟩) (fun j hj=>by cases hj) (i:=8) (t:=45) rfl (by simp [a5S]) qv hd⟩
  ·have f8:=hJ.val 8 45 rfl (hd 8 (by decide))
   unfold XOm
   simp only [gcS]
   simp (disch:=first|omega|simp only [lnS];try omega) [-getElem?_pos,-getElem?_neg,-notTuple,nt_boolG,nt_aggG,nt_intG,nt_ptrG,nt_slG,nt_strG,XO_s,XO_z,XLk_val,XLk_call,headsO,behind,List.length_cons,List.length_nil,mcN,forall_eq_or_imp,forall_eq,List.contains_cons,List.contains_nil]
   exact hcont _ _ ⟨X,Y,rs,hJ.plain hsh hob (i:=9) (t:=10) rfl (by decide) (by simp [a5S]) f8 hd⟩
 rintro s α G hJ hall
 obtain⟨X,Y2,rs,hJ⟩:=hJ
 have hd:∀i,i<10→s.getD i false=true:=fun i hi=>all_done hall (by rw [hJ.sz];exact hi)
 have i10:IdxQ one NS (α 10):=hJ.val 9 10 rfl (hd 9 (by omega))
 have a10:α 10=.int .i64 (-1):=by
  rcases i10 with ⟨i,e,x1,x2⟩ | ⟨e,x1⟩
  ·exact absurd (moG x1) nn
  ·exact e
 have a6:=(hJ.lo 6 (by decide)).trans e6
 have a7:=(hJ.lo 7 (by decide)).trans e7
 have ko:Kt H0 Y2 G b TS:=by
  have:=hJ.o
  simp only [stT,hd 5 (by omega),hd 8 (by omega),if_true]at this
  exact this
 have sS:=fun i hi=>(hJ.ss i hi).2
 have kG:Kt H0 (R++(B1.length::([r,r+1,r+2,r+3]++Y))) G b TS:=ko.less (fun i hi=>hJ.xy i (hJ.ss i hi).1)
 have lG:=hJ.le
 have gS5:=(sS (r+2) (by simp)).trans gS4
 have gk5:=(sS (r+3) (by simp)).trans gk4
 have lS5:=hget_lt gS5
 have lk5:=hget_lt gk5
 have hn2:H0.length≤r+2:=by omega
 have hn33:H0.length≤r+3:=by omega
 have z65:setR (iv .u8 (zl 64)++[.slice none 0 0]) 0 (iv .u8 (zl 64)++[.slice none 0 0])=iv .u8 (zl 64)++[.slice none 0 0]:=setR_all _ _ (by simp)
 have z32:setR (iv .u8 (zl 32)) 0 (iv .u8 (zl 32))=iv .u8 (zl 32):=setR_all _ _ (by simp)
 have t65:(iv .u8 (zl 64)++[Value.slice none 0 0]).take 65=iv .u8 (zl 64)++[.slice none 0 0]:=tkL (by simp)
 have t32:(iv .u8 (zl 32)).take 32=iv .u8 (zl 32):=tkL (by simp)
 refine aw_seq (aw_seq ?_)
 (refine aoo fun K hK=>?_;simp (disch:=first|omega|simp only [lnS];try omega) [-getElem?_pos,-getElem?_neg,a10];refine hK _ _ ?_;clear hK K)
 refine awt (by simp [eval_tmp,put_at]<;>omega) ?_
 (refine aso fun K hK=>?_;simp (disch:=first|omega|simp only [lnS];try omega) [-getElem?_pos,-getElem?_neg,a6,a7,gS5,gk5,lS5,lk5,hn2,hn33,hpl,z65,z32,t65,t32,nt_aggG];refine hK _ _ ?_;clear hK K)
 have g8:hget ((G.set (r+2) (some ⟨iv .u8 (zl 64)++[.slice none 0 0], 99,none⟩)).set (r+3) (some ⟨iv .u8 (zl 32), 26,none⟩)) (r+2)=some ⟨iv .u8 (zl 64)++[.slice none 0 0], 99,none⟩:=by rw [hget_set_ne (by omega),hget_set_eq lS5]
 have g9:hget ((G.set (r+2) (some ⟨iv .u8 (zl 64)++[.slice none 0 0], 99,none⟩)).set (r+3) (some ⟨iv .u8 (zl 32), 26,none⟩)) (r+3)=some ⟨iv .u8 (zl 32), 26,none⟩:=hget_set_eq (by simp;omega)
 have k8:=(kG.set (r:=r+2) (by simp) (some ⟨iv .u8 (zl 64)++[.slice none 0 0], 99,none⟩)).set (r:=r+3) (by simp) (some ⟨iv .u8 (zl 32), 26,none⟩)
 have s8:∀i,i≠r+2→i≠r+3→hget ((G.set (r+2) (some ⟨iv .u8 (zl 64)++[.slice none 0 0], 99,none⟩)).set (r+3) (some ⟨iv .u8 (zl 32), 26,none⟩)) i=hget G i:=fun i h1 h2=>by rw [hget_set_ne (Ne.symm h2),hget_set_ne (Ne.symm h1)]
 have l8:((G.set (r+2) (some ⟨iv .u8 (zl 64)++[.slice none 0 0], 99,none⟩)).set (r+3) (some ⟨iv .u8 (zl 32), 26,none⟩)).length=G.length:=by simp
 generalize (G.set (r+2) (some ⟨iv .u8 (zl 64)++[.slice none 0 0], 99,none⟩)).set (r+3) (some ⟨iv .u8 (zl 32), 26,none⟩)=G8 at *
 have lg8:=hget_lt g8
 have lg9:=hget_lt g9
 (refine aw_ret ?_;simp (disch:=first|omega|simp only [lnS];try omega) [-getElem?_pos,-getElem?_neg,a6,a7,g8,g9,lg8,lg9,t65,t32,nt_aggG])
 refine⟨by rw [←hTS];exact k8.less (fun i hi=>by simp [hi]),fun i hi=>?_,by omega⟩
 have:=hYr i hi
 rw [s8 i (by omega) (by omega),sS i (by simp [hi])]
 exact Y4 i hi
end
section
def digF:Nat→Nat→List Int
 | 0,n=>[48+(n:Int)]
 | f+1,n=>if n<10 then [48+(n:Int)] else digF f (n/10)++[48+((n%10:Nat):Int)]
theorem digF_len:∀f n,(digF f n).length≤f+1
 | 0,n=>by simp [digF]
 | f+1,n=>by
  rw [digF]
  split
  ·simp
  ·have:=digF_len f (n/10)
   rw [laP]
   simp;omega
theorem digF_dig:∀f n,n<10 ^ (f+1)→∀c∈digF f n,48≤c∧c≤57
 | 0,n,h,c,hc=>by
  simp [digF]at hc
  have h:n<10:=by simpa using h
  omega
 | f+1,n,h,c,hc=>by
  rw [digF]at hc
  split at hc
  ·simp at hc;omega
  ·rcases maP.1 hc with hc | hc
   ·exact digF_dig f (n/10) (by rw [Nat.pow_succ]at h;omega) c hc
   ·simp at hc
    omega
theorem shown_get(l:Nat){H L:AH}{N:List Blk}{i j:Nat}{b:Blk}(h:Shown H.length N L (.slice (some ⟨i,0,none⟩) l l))(hi:i=H.length+j)(hb:N[j]?=some b):hget (H++L) i=some b:=by
 have:=h j b hi hb
 rw [hi,hget_app]
 exact this
attribute [local simp] wb_bool wb_undef with_lit XL_nil XL_cons XLc_val XLc_call step1_eq stepW_t stepW_f stepC_n stepC_s stepX_s stepX_n stepN_s calleeX xrecv oneV xop_eq xopR_s xopR_n wantedA_eq wantedG_n wantedG_s plain1_int plain1_bool plain1_string bits_i64 bits_u64 bits_u32 bits_u16 bits_u8 xeqA xagg xcmp xarr allK_iv num_iv calleeOf xread xeff xbin xint xnil xun xstr xload xconv xpart xfield xfieldAddr xindexAddr xindex bnd asInt? xslice xlen xmin xmax xbuild xfill xappend xapp2 xappstr xappmk xcap xcopy xcells eval_tmp eval_const put_at put_none fr0_at cells_agg cells_int cells_bool cells_string cells_ptr cells_slice notTuple tab iv_all hget_app hget_app0 hget_cons0 hget_cons set_app set_app0 setR setR_one QL_nil QL_cons QLc_val stepQ_t stepQ_f stepQC_n stepQC_s stepQX_s SL_nil SL_cons SLc_val stepS_t stepS_f ltT ltF leT leF eqT eqF ltTn ltFn leTn leFn eqTn eqFn beqT beqF bneT bneF wi64 wu64 wu32 wu16 wu8 tmodP tdivP hgetL hgetNe hgetEq setL nums_def nums_len Nat.succ_le_of_lt List.getElem?_cons_zero List.getElem?_cons_succ Option.getD_some Int.toNat_add Int.toNat_mul agM okM agB agI agS agP agL agA okB okI okS okP okSl okA thenQ_ret scopeQ_ret inBlockQ_ret RQ resL resV PL_nil plainB_lit PL_cons PLc_val PLc_new stepP_t stepP_f stepPC_n stepPC_s stepPX_s stepPX_n stepPV_n stepPV_s stepPA_t stepPA_c stepPA_l stepPN_s allocOp reloc_sl reloc_ptr
theorem digits11_vc:∀ (f n:Nat),n<10 ^ (f+1)→f≤18→VC Tryd.prog 24 #[.int .u64 (n:Nat)] (.string (strOfNums (digF f n))):=by
 intro f
 induction f with
 | zero=>
  intro n hn _
  have hn:n<10:=by simpa using hn
  have hbl:byteList [.int .u8 (48+(n:Int))]=some [48+(n:Int)]:=byteList_iv [48+(n:Int)]
  refine vc_of_ac (by simp [pv_iv,pv_int,pv_bool,pv_string,pv_tup2,pv_tup3,iv_plain,p2_int,p2_bool,p2_string]) (by simp [pv_iv,pv_int,pv_bool,pv_string,pv_tup2,pv_tup3,iv_plain,p2_int,p2_bool,p2_string]) ?_
  refine ac_of_aw Tryd.func24 rfl Tryd.ntmps24 Tryd.results24 (by simp) ?_
  (refine aso fun K hK=>?_;simp (disch:=first|omega|simp only [lnS];try omega) [-getElem?_pos,-getElem?_neg];refine hK _ _ ?_;clear hK K)
  refine aw_seq (aw_seq ?_)
  (refine aoo fun K hK=>?_;simp (disch:=first|omega|simp only [lnS];try omega) [-getElem?_pos,-getElem?_neg];refine hK _ _ ?_;clear hK K)
  refine awt (by simp [eval_tmp,put_at]<;>omega) ?_
  (refine aso fun K hK=>?_;simp (disch:=first|omega|simp only [lnS];try omega) [-getElem?_pos,-getElem?_neg,hbl];refine hK _ _ ?_;clear hK K)
  (refine aw_ret ?_;simp (disch:=first|omega|simp only [lnS];try omega) [-getElem?_pos,-getElem?_neg,digF])
 | succ f ih=>
  intro n hn hf
  have h9:n<10 ^ 19:=Nat.lt_of_lt_of_le hn (Nat.pow_le_pow_right (by omega) (by omega))
  have h9:n<10000000000000000000:=by simpa using h9
  by_cases h1:n<10
  ·have hbl:byteList [.int .u8 (48+(n:Int))]=some [48+(n:Int)]:=byteList_iv [48+(n:Int)]
   refine vc_of_ac (by simp [pv_iv,pv_int,pv_bool,pv_string,pv_tup2,pv_tup3,iv_plain,p2_int,p2_bool,p2_string]) (by simp [pv_iv,pv_int,pv_bool,pv_string,pv_tup2,pv_tup3,iv_plain,p2_int,p2_bool,p2_string]) ?_
   refine ac_of_aw Tryd.func24 rfl Tryd.ntmps24 Tryd.results24 (by simp) ?_
   (refine aso fun K hK=>?_;simp (disch:=first|omega|simp only [lnS];try omega) [-getElem?_pos,-getElem?_neg];refine hK _ _ ?_;clear hK K)
   refine aw_seq (aw_seq ?_)
   (refine aoo fun K hK=>?_;simp (disch:=first|omega|simp only [lnS];try omega) [-getElem?_pos,-getElem?_neg];refine hK _ _ ?_;clear hK K)
   refine awt (by simp [eval_tmp,put_at,h1]<;>omega) ?_
   (refine aso fun K hK=>?_;simp (disch:=first|omega|simp only [lnS];try omega) [-getElem?_pos,-getElem?_neg,hbl];refine hK _ _ ?_;clear hK K)
   (refine aw_ret ?_;simp (disch:=first|omega|simp only [lnS];try omega) [-getElem?_pos,-getElem?_neg,digF,h1])
  ·have hrec:=ih (n/10) (by rw [Nat.pow_succ]at hn;omega) (by omega)
   have hll:=digF_len f (n/10)
   have hsz:=sn_size (digF f (n/10))
   obtain⟨D,hD⟩:∃D,D=digF f (n/10):=⟨_,rfl⟩
   have hdf:digF (f+1) n=D++[48+((n%10:Nat):Int)]:=by rw [digF,if_neg h1,hD]
   obtain⟨x,hx⟩:∃x:Int,x=48+((n%10:Nat):Int):=⟨_,rfl⟩
   rw [←hD]at hrec hll hsz
   have hdc:((n/10:Nat):Int)=(n:Int)/10:=by omega
   rw [hdc]at hrec
   rw [hdf,←hx]
   have hx1:48+(n:Int)%10=x:=by omega
   have hxb:48≤x∧x≤57:=by omega
   have hsz1:=sn_size [x]
   have happ:=sn_app D [x]
   clear hdf hD ih hx
   refine vc_of_ac (by simp [pv_iv,pv_int,pv_bool,pv_string,pv_tup2,pv_tup3,iv_plain,p2_int,p2_bool,p2_string]) (by simp [pv_iv,pv_int,pv_bool,pv_string,pv_tup2,pv_tup3,iv_plain,p2_int,p2_bool,p2_string]) ?_
   refine ac_of_aw Tryd.func24 rfl Tryd.ntmps24 Tryd.results24 (by simp) ?_
   (refine aso fun K hK=>?_;simp (disch:=first|omega|simp only [lnS];try omega) [-getElem?_pos,-getElem?_neg];refine hK _ _ ?_;clear hK K)
   refine aw_seq (aw_seq ?_)
   (refine aoo fun K hK=>?_;simp (disch:=first|omega|simp only [lnS];try omega) [-getElem?_pos,-getElem?_neg];refine hK _ _ ?_;clear hK K)
   refine awf (by simp [eval_tmp,put_at,h1]<;>omega) ?_
   refine aw_skip (aw_seq ?_)
   (refine aw_plan [] [] [0,1,2,3,4,5,6,7,8,9,10] 11 0 (by kernel_rfl) (by kernel_rfl) (by kernel_rfl) (fun K hK=>?_));simp only [sel,gcS,gdZ];simp (disch:=first|omega|simp only [lnS];try omega) [-getElem?_pos,-getElem?_neg,hx1,hsz,hsz1,happ,Nat.add_assoc]
   refine PLc_call (v:=.string (strOfNums D)) (by kernel_rfl) (fun L hL=>?_) (by simp [pv_iv,pv_int,pv_bool,pv_string,pv_tup2,pv_tup3,iv_plain,p2_int,p2_bool,p2_string]) ?_
   ·exact ac_of_vc (by simp [pv_iv,pv_int,pv_bool,pv_string,pv_tup2,pv_tup3,iv_plain,p2_int,p2_bool,p2_string]) hrec rfl
   have hnil:hget ([]:AH) 0=none:=rfl
   simp (disch:=first|omega|simp only [lnS];try omega) [-getElem?_pos,-getElem?_neg,hx1,hsz,hsz1,happ,hnil,Nat.add_assoc]
   refine PLc_conv (v:=.string (strOfNums [x])) (fun L hL=>?_) (by simp [pv_iv,pv_int,pv_bool,pv_string,pv_tup2,pv_tup3,iv_plain,p2_int,p2_bool,p2_string]) ?_
   ·try simp only [eval_tmp]at hL ⊢
    try simp [put_at]at hL ⊢
    have:=shown_get 1 (H:=[]) (j:=0) (by simpa using hL) (by simp) rfl
    have hbl:byteList [.int .u8 x]=some [x]:=byteList_iv [x]
    simp only [List.length_nil,List.nil_append,Nat.zero_add]at this
    simp [xconv,this,hbl]
   simp (disch:=first|omega|simp only [lnS];try omega) [-getElem?_pos,-getElem?_neg,hx1,hsz,hsz1,happ,Nat.add_assoc]
   refine hK _ _ ?_;clear hK K
   (refine aw_ret ?_;simp (disch:=first|omega|simp only [lnS];try omega) [-getElem?_pos,-getElem?_neg])
def dg(n:Nat):ByteArray:=strOfNums (digF 18 n)
theorem dg_size(n:Nat):(dg n).size≤19:=by
 unfold dg
 rw [sn_size]
 exact digF_len 18 n
theorem digits_dg{n:Nat}(h:n<1000000000):VC Tryd.prog 24 #[.int .u64 (n:Nat)] (.string (dg n)):=digits11_vc 18 n (by omega) (by omega)
end
section
def KtA(H0:AH)(b:Nat)(l:List (Nat×List TermD))(T0:List TermD)(c:Nat)(A:List Nat)(av:Value)(ks:List (List Int))(s:Array Bool)(Y:List Nat)(G:AH):Prop:=
 if s.getD c false=true then Kt H0 Y G b (stT l T0 s) else Kt H0 (A++Y) G b (stT l T0 s)∧OwnF G av 26 32 (kr ks) A∧∀j∈A,j∉Y
theorem stT_ne{β:Type}{i:Nat}{s:Array Bool}:∀ (l:List (Nat×β)) (x:β),i∉l.map (·.1)→stT l x (s.setIfInBounds i true)=stT l x s
 | [],x,_=>rfl
 | p::l,x,hi=>by
  simp only [List.map_cons,List.mem_cons,not_or]at hi
  unfold stT
  rw [sgN hi.1,stT_ne l _ hi.2]
section
variable {H0 G:AH} {b c:Nat} {l:List (Nat×List TermD)} {T0:List TermD} {A Y:List Nat} {av:Value} {ks:List (List Int)}
theorem kta_obj:ObjK H0.length (KtA H0 b l T0 c A av ks) (c::l.map (·.1)):=by
 refine⟨fun s Y G h=>?_,fun s Y G i hi h=>?_,fun s Y G B h=>?_,fun s Y G r B hr h=>?_⟩
 ·unfold KtA at h
  split at h
  ·exact⟨h.lw.2,h.y⟩
  ·exact⟨h.1.lw.2,fun j hj=>h.1.y j (List.mem_append_right _ hj)⟩
 ·simp only [List.mem_cons,not_or]at hi
  unfold KtA at h ⊢
  rw [sgN hi.1,stT_ne l T0 hi.2]
  exact h
 ·unfold KtA at h ⊢
  split at h
  ·rename_i e
   rw [if_pos e]
   exact h.push B
  ·rename_i e
   rw [if_neg e]
   obtain⟨h1,h2,h3⟩:=h
   refine⟨(h1.push B).less (fun j hj=>?_),h2.low (fun j hj=>hget_left (h2.lt j hj)),fun j hj hm=>?_⟩
   ·simp only [maP,List.mem_cons]at hj ⊢
    rcases hj with e | e | e <;> simp [e]
   ·rcases List.mem_cons.1 hm with e | e
    ·have:=h2.lt j hj;omega
    ·exact h3 j hj e
 ·unfold KtA at h ⊢
  split at h
  ·rename_i e
   rw [if_pos e]
   exact h.set hr B
  ·rename_i e
   rw [if_neg e]
   obtain⟨h1,h2,h3⟩:=h
   exact⟨h1.set (List.mem_append_right _ hr) B,h2.low (fun j hj=>hget_set_ne (fun e=>h3 j hj (e▸hr))),h3⟩
theorem KtA.pre{s:Array Bool}(h:KtA H0 b l T0 c A av ks s Y G)(hc:s.getD c false=false):Kt H0 (A++Y) G b (stT l T0 s)∧OwnF G av 26 32 (kr ks) A∧∀j∈A,j∉Y:=by
 unfold KtA at h
 rw [hc]at h
 exact h
theorem KtA.mk1{s:Array Bool}(hc:s.getD c false=false)(h1:Kt H0 (A++Y) G b (stT l T0 s))(h2:OwnF G av 26 32 (kr ks) A)(h3:∀j∈A,j∉Y):KtA H0 b l T0 c A av ks s Y G:=by
 unfold KtA
 rw [hc]
 exact⟨h1,h2,h3⟩
theorem KtA.mk2{s:Array Bool}(hc:s.getD c false=true)(h1:Kt H0 Y G b (stT l T0 s)):KtA H0 b l T0 c A av ks s Y G:=by
 unfold KtA
 rw [hc]
 exact h1
end
end
section
def oneB:ByteArray:=⟨#[111,110,101,32]⟩
def onD(i:Nat):TermD:=⟨1,oneB++dg i,[]⟩
def onT:Nat→List TermD→List TermD
 | 0,T=>T
 | n+1,T=>addT (onD n) (onT n T)
def onN:Nat→List TermD→List (List Int)
 | 0,_=>[]
 | n+1,T=>onN n T++[nN (onD n) (onT n T)]
theorem onT_len:∀ (n:Nat) (T:List TermD),(onT n T).length≤T.length+n
 | 0,T=>nlE _
 | n+1,T=>by
  have h1:=onT_len n T
  have h2:=addT_len (onD n) (onT n T)
  show (addT (onD n) (onT n T)).length≤_
  omega
theorem onN_len:∀ (n:Nat) (T:List TermD),(onN n T).length=n
 | 0,T=>rfl
 | n+1,T=>by
  show (onN n T++[_]).length=_
  simp [onN_len n T]
theorem onN_k:∀ (n:Nat) (T:List TermD),∀k∈onN n T,k.length=32∧By k
 | 0,T,k,h=>by cases h
 | n+1,T,k,h=>by
  rcases maP.1 (show k∈onN n T++[nN (onD n) (onT n T)] from h) with h | h
  ·exact onN_k n T k h
  ·rw [msG.1 h]
   exact⟨nN_len _ _,nN_by _ _⟩
def idD:TermD:=⟨1,⟨#[105,100]⟩,[]⟩
def preD:TermD:=⟨1,⟨#[112,114,101]⟩,[]⟩
def soD:List (Option Nat):=[some 17,some 18,some 19,some 20,some 21,some 22,some 23,some 24,some 25,some 26,some 27,some 28,some 29,some 30,none]
def soP:List (List Nat):=[[],[0],[],[],[3],[4],[5],[2],[7],[2,7,8],[5,6,9],[10],[1,10,11],[0,1,2,3,4,5,6,7,8,9,10,11,12],[0,1,2,3,4,5,6,7,8,9,10,11,12,13]]
def soV(n ii b q0 r:Nat)(NI NP N:List Int)(av:Value)(N1:List (List Int))(G:AH)(X:List Nat)(i:Nat)(v:Value):Prop:=match i with
 | 0=>v=.pointer (some ⟨q0,64,none⟩)
 | 1=>v=av
 | 2=>v=.iface 43 (.agg #[.pointer (some ⟨b,0,none⟩)])
 | 3=>v=.int .i64 (ii:Nat)
 | 4=>v=.int .u64 (ii:Nat)
 | 5=>v=.string (dg ii)
 | 6=>v=.string (oneB++dg ii)
 | 7=>v=.func (.method "Draw") #[.iface 43 (.agg #[.pointer (some ⟨b,0,none⟩)])] #[]
 | 8=>v=.func (.method "Draw") #[.iface 43 (.agg #[.pointer (some ⟨b,0,none⟩)])] #[]
 | 9=>v=.iface 43 (.agg #[.pointer (some ⟨b,0,none⟩)])
 | 10=>v=.agg (iv .u8 N).toArray
 | 11=>∃j,v=.slice (some ⟨j,0,none⟩) 1 1∧hget G j=some ⟨iv .u8 N, 26,some 32⟩∧j∈X
 | 12=>∃C,OwnF G v 26 32 (kr (N1++[N])) C∧∀j∈C,j∈X∧q0<j
 | 13=>v=.pointer (some ⟨q0,64,none⟩)
 | _=>True
def soS(n ii b q0 r:Nat)(NI NP N:List Int)(av:Value)(N1:List (List Int)):List Slot:=[⟨none,5,14,bnC NI NP av, 99,fun G X cs=>∃w C,cs=bnC NI NP w∧OwnF G w 26 32 (kr (N1++[N])) C∧∀j∈C,j∈X∧q0<j⟩]
def StoQ(H0:AH)(Y:List Nat)(B:AH)(b:Nat)(T':List TermD)(NI NP:List Int)(os:List (List Int))(v':Value)(H':AH):Prop:=
 ∃R ov,v'=.agg (bnC NI NP ov).toArray∧FrK H0 Y B b T' R H'∧KoV R H' ov os
attribute [local simp] wb_bool wb_undef with_lit XL_nil XL_cons XLc_val XLc_call step1_eq stepW_t stepW_f stepC_n stepC_s stepX_s stepX_n stepN_s calleeX xrecv oneV xop_eq xopR_s xopR_n wantedA_eq wantedG_n wantedG_s plain1_int plain1_bool plain1_string bits_i64 bits_u64 bits_u32 bits_u16 bits_u8 xeqA xagg xcmp xarr allK_iv num_iv calleeOf xread xeff xbin xint xnil xun xstr xload xconv xpart xfield xfieldAddr xindexAddr xindex bnd asInt? xslice xlen xmin xmax xbuild xfill xappend xapp2 xappstr xappmk xcap xcopy xcells eval_tmp eval_const put_at put_none fr0_at cells_agg cells_int cells_bool cells_string cells_ptr cells_slice notTuple tab iv_all hget_app hget_app0 hget_cons0 hget_cons set_app set_app0 setR setR_one QL_nil QL_cons QLc_val stepQ_t stepQ_f stepQC_n stepQC_s stepQX_s SL_nil SL_cons SLc_val stepS_t stepS_f ltT ltF leT leF eqT eqF ltTn ltFn leTn leFn eqTn eqFn beqT beqF bneT bneF wi64 wu64 wu32 wu16 wu8 tmodP tdivP hgetL hgetNe hgetEq setL nums_def nums_len Nat.succ_le_of_lt List.getElem?_cons_zero List.getElem?_cons_succ Option.getD_some Int.toNat_add Int.toNat_mul agM okM agB agI agS agP agL agA okB okI okS okP okSl okA thenQ_ret scopeQ_ret inBlockQ_ret RQ resL resV
theorem store_ac{γ:Nat→Option Nat}{H0 B:AH}{Y:List Nat}{b:Nat}{T:List TermD}(hpw:Pw γ H0)(h:Kt H0 Y B b T){n:Nat}(hn:n≤1000)(hT:T.length≤700000) :
  AC Tryd.prog H0.length γ 43 #[kitV b,.int .i64 (n:Nat)] B (StoQ H0 Y B b (onT n (addT preD (addT idD T))) (nN idD T) (nN preD (addT idD T)) (onN n (addT preD (addT idD T)))):=by
 have hpl:plain1 (.slice none 0 0)=true:=rfl
 have hnB:=h.le
 unfold kitV
 obtain⟨r,hr⟩:∃r,r=B.length:=⟨_,rfl⟩
 have e1:nN ⟨1,⟨#[105,100]⟩,[]⟩ T=nN idD T:=rfl
 have e2:addT ⟨1,⟨#[105,100]⟩,[]⟩ T=addT idD T:=rfl
 have tl1:=addT_len idD T
 have m1:(nN idD T).length=32:=rfl
 generalize nN idD T=NI at *
 generalize addT idD T=TA at *
 have e3:nN ⟨1,⟨#[112,114,101]⟩,[]⟩ TA=nN preD TA:=rfl
 have e4:addT ⟨1,⟨#[112,114,101]⟩,[]⟩ TA=addT preD TA:=rfl
 have tl2:=addT_len preD TA
 have m2:(nN preD TA).length=32:=rfl
 generalize nN preD TA=NP at *
 generalize addT preD TA=TB at *
 have hbd:=bnC_b2 (a:=NI) (p:=NP) m1 m2 (x:=.slice none 0 0)
 have bA:=bnC_all (v:=.slice none 0 0) m1 m2
 have bL:=fun w=>bnC_len (v:=w) m1 m2
 have bS:=fun w=>bnC_set (v:=w) (C:=iv .u8 (zl 64)++[.slice none 0 0]) m1 m2 (by simp)
 refine ac_of_aw Tryd.func43 rfl Tryd.ntmps43 Tryd.results43 (by simp) ?_
 (refine aso fun K hK=>?_;simp (disch:=first|omega|simp only [lnS];try omega) [-getElem?_pos,-getElem?_neg,hpl];refine hK _ _ ?_;clear hK K)
 obtain⟨B1,hB1⟩:∃B1:AH,B1=B++[some ⟨iv .u8 (zl 64)++[.slice none 0 0], 99,none⟩]:=⟨_,rfl⟩
 have gr:hget B1 r=some ⟨iv .u8 (zl 64)++[.slice none 0 0], 99,none⟩:=by rw [hB1,hr,hget_app0];rfl
 have k1:Kt H0 (r::Y) B1 b T:=by rw [hB1,hr];exact h.push _
 have s1:∀j,j<B.length→hget B1 j=hget B j:=fun j hj=>by rw [hB1];exact hget_left hj
 have l1:B1.length=r+1:=by rw [hB1];simp [hr]
 rw [←hr,←hB1]
 clear hB1
 refine aso fun K hK=>?_
 simp (disch:=first|omega|simp only [lnS];try omega) [-getElem?_pos,-getElem?_neg,xm_draw,nt_aggG,-notTuple]
 refine⟨by kernel_rfl,AC.mono (kt_draw hpw k1 (by show 2≤_;omega) (by omega)) ?_⟩
 rintro v1 B2 ⟨rfl,k2,s2,l2⟩
 rw [e1]
 rw [e2]at k2
 try simp (disch:=first|omega|simp only [lnS];try omega) [-getElem?_pos,-getElem?_neg,xm_draw,nt_aggG,-notTuple]
 refine⟨by kernel_rfl,AC.mono (kt_draw hpw k2 (by show 3≤_;omega) (by omega)) ?_⟩
 rintro v2 B3 ⟨rfl,k3,s3,l3⟩
 rw [e3]
 rw [e4]at k3
 try simp (disch:=first|omega|simp only [lnS];try omega) [-getElem?_pos,-getElem?_neg,m1,m2,nt_aggG,-notTuple,hpl,hbd,bS,bL]
 refine hK _ _ ?_;clear hK K
 obtain⟨q0,hq0⟩:∃q0,q0=B3.length:=⟨_,rfl⟩
 obtain⟨B4,hB4⟩:∃B4:AH,B4=B3++[some ⟨bnC NI NP (.slice none 0 0), 99,none⟩]:=⟨_,rfl⟩
 have k4:Kt H0 (q0::r::Y) B4 b TB:=by rw [hB4,hq0];exact k3.push _
 have gq4:hget B4 q0=some ⟨bnC NI NP (.slice none 0 0), 99,none⟩:=by rw [hB4,hq0,hget_app0];rfl
 have s4:∀j∈r::Y,hget B4 j=hget B1 j:=fun j hj=>by
  rw [hB4,hget_left (k3.y j hj).2,s3 j hj,s2 j hj]
 have hqr:r<q0:=by have:=(k3.y r (by simp)).2;omega
 have l4:B4.length=q0+1:=by rw [hB4,hq0];simp
 rw [←hq0,←hB4]
 clear hB4 s2 s3 k2 k3
 have hYr:∀i∈Y,i<r:=fun i hi=>by have:=(h.y i hi).2;omega
 have h0r:∀i∈Y,hget B4 i=hget B i:=fun i hi=>(s4 i (by simp [hi])).trans (s1 i (h.y i hi).2)
 have gr4:=(s4 r (by simp)).trans gr
 refine aw_seq (aw_seq ?_)
 (refine aoo fun K hK=>?_;simp (disch:=first|omega|simp only [lnS];try omega) [-getElem?_pos,-getElem?_neg];refine hK _ _ ?_;clear hK K)
 refine aw_block ?_
 refine aw_loop (fun q α G=>∃ (i:Nat) (A:List Nat) (av:Value),i+q=n∧α 0=.iface 43 (.agg #[.pointer (some ⟨b,0,none⟩)])∧α 1=.int .i64 (n:Nat)∧α 4=.pointer (some ⟨r,0,none⟩)∧α 5=.pointer (some ⟨q0,0,none⟩)∧α 6=.int .i64 (i:Nat) ∧
  Kt H0 (A++q0::r::Y) G b (onT i TB)∧(∀j∈r::Y,hget G j=hget B4 j)∧B4.length≤G.length∧OwnF G av 26 32 (kr (onN i TB)) A∧(∀j∈A,q0<j)∧hget G q0=some ⟨bnC NI NP av, 99,none⟩) n ?_ ?_
 ·exact⟨0,[],.slice none 0 0,by omega,by (first|simp [put_at,put_none,fr0_at];done|rfl),by (first|simp [put_at,put_none,fr0_at];done|rfl),by (first|simp [put_at,put_none,fr0_at];done|rfl),by (first|simp [put_at,put_none,fr0_at];done|rfl),by (first|simp [put_at,put_none,fr0_at];done|rfl),k4,fun _ _=>rfl,nlE _,.inl ⟨rfl,rfl,rfl⟩,fun j hj=>(by cases hj),gq4⟩
 rintro q α G ⟨ii,A,av,hiq,a0,a1,a4,a5,a6,kt,hY,hBG,ho,hA,gq⟩
 have ant:=ownF_nt ho
 have hnG:=kt.le
 have lq:=hget_lt gq
 have hTl:=onT_len ii TB
 have hNl:=onN_len ii TB
 have hk32:∀z∈onN ii TB,z.length=32∧By z:=onN_k _ _
 refine aw_seq (aw_seq ?_)
 by_cases hi:ii<n
 ·have hi':(ii:Int)<n:=by omega
  have htN:onT (ii+1) TB=addT (onD ii) (onT ii TB):=rfl
  have hnN:onN (ii+1) TB=onN ii TB++[nN (onD ii) (onT ii TB)]:=rfl
  generalize onT ii TB=T1 at *
  generalize onN ii TB=N1 at *
  have ktA:=kt
  have hds:=dg_size ii
  have hsz:(oneB++dg ii).size≤100000000:=by rw [ByteArray.size_append];show 4+_≤_;omega
  have hba:(⟨#[111,110,101,32]⟩:ByteArray).size+(dg ii).size≤9223372036854775807:=by show 4+_≤_;omega
  have hone:(⟨#[111,110,101,32]⟩:ByteArray)++dg ii=oneB++dg ii:=rfl
  have hdig:=digits_dg (n:=ii) (by omega)
  have ldq:xload Tryd.prog 23 (.pointer (some ⟨q0,64,none⟩)) G=some av:=by
   have h1:und Tryd.prog 23 = .slice 26 := by kernel_rfl
   simp [xload,gq,bnC_3 m1 m2,isAggD,okD,h1]
  (refine aoo fun K hK=>?_;simp (disch:=first|omega|simp only [lnS];try omega) [-getElem?_pos,-getElem?_neg,a1,a6,hi'];refine hK _ _ ?_;clear hK K)
  refine awt (by simp [eval_tmp,put_at]<;>omega) ?_
  refine aw_skip (aw_seq ?_)
  refine aw_block ?_
  obtain⟨T2,hT2⟩:∃T2,T2=addT (onD ii) T1:=⟨_,rfl⟩
  obtain⟨N,hN⟩:∃N,N=nN (onD ii) T1:=⟨_,rfl⟩
  have eN10:nN ⟨1,oneB++dg ii,[]⟩ T1=N:=hN.symm
  have eT10:addT ⟨1,oneB++dg ii,[]⟩ T1=T2:=hT2.symm
  rw [←hT2]at htN
  rw [←hN]at hnN
  have lN:N.length=32:=by rw [hN];rfl
  have htNN:(iv .u8 N).take 32=iv .u8 N:=tkL (by simp [lN])
  have hrow1:setR (List.map (fun j=>(iv .u8 (zl 32))[j%32]?.getD undef) (List.range 32)) 0 (iv .u8 N)=iv .u8 N:=setR_all _ _ (by simp [lN])
  refine name_aw (fun β hβ=>?_)
  have e0:β 0=.iface 43 (.agg #[.pointer (some ⟨b,0,none⟩)]):=by rw [hβ];(first|simp [put_at,put_none,fr0_at,a0];done|rfl)
  have e1':β 1=.int .i64 (n:Nat):=by rw [hβ];(first|simp [put_at,put_none,fr0_at,a1];done|rfl)
  have e4':β 4=.pointer (some ⟨r,0,none⟩):=by rw [hβ];(first|simp [put_at,put_none,fr0_at,a4];done|rfl)
  have e5:β 5=.pointer (some ⟨q0,0,none⟩):=by rw [hβ];(first|simp [put_at,put_none,fr0_at,a5];done|rfl)
  have e6:β 6=.int .i64 (ii:Nat):=by rw [hβ];(first|simp [put_at,put_none,fr0_at,a6];done|rfl)
  clear hβ
  have hob:=kta_obj (H0:=H0) (b:=b) (l:=[(10,T2)]) (T0:=T1) (c:=12) (A:=A) (av:=av) (ks:=N1)
  have hsh:shapeK soD (soS H0.length ii b q0 r NI NP N av N1) [12,10]=true:=rfl
  have hst:StV H0.length (soV H0.length ii b q0 r NI NP N av N1):=by
   intro G G' X X' i v hl hn hx hv
   unfold soV at hv ⊢
   split at hv <;> first | exact hv | (obtain⟨j,h1,h2,h3⟩:=hv;exact⟨j,h1,(hx j h3).2.trans h2,(hx j h3).1⟩) | (obtain⟨C,h1,h2⟩:=hv;exact⟨C,h1.low (fun j hj=>(hx j (h2 j hj).1).2),fun j hj=>⟨(hx j (h2 j hj).1).1,(h2 j hj).2⟩⟩)
  have hsc:∀k∈soS H0.length ii b q0 r NI NP N av N1,StC H0.length k.c:=by
   intro k hk
   simp only [soS,mcN]at hk
   subst hk
   intro G G' X X' cs hl hn hx hv
   obtain⟨w,C,h0,h1,h2⟩:=hv
   exact⟨w,C,h0,h1.low (fun j hj=>(hx j (h2 j hj).1).2),fun j hj=>⟨(hx j (h2 j hj).1).1,(h2 j hj).2⟩⟩
  refine aw_inv soP (JkE H0.length soD soP (soV H0.length ii b q0 r NI NP N av N1) (soS H0.length ii b q0 r NI NP N av N1) (KtA H0 b [(10,T2)] T1 12 A av N1) β (r::Y) G) (by kernel_rfl) (by kernel_rfl) (by kernel_rfl) ?_ ?_ ?_
  ·refine JK.start (Y:=q0::r::Y) (KtA.mk1 (sg0 _ _) (by rw [stT_0];exact kt) ho (fun j hj hm=>?_)) (fun j hj=>by simp only [List.mem_cons]at hj ⊢;rcases hj with e | e <;> simp [e]) (fun _=>q0) ?_ ?_
   ·have:=hA j hj
    simp only [List.mem_cons]at hm
    rcases hm with e | e | e
    ·omega
    ·omega
    ·have:=hYr j e;omega
   ·intro k sk hk ha
    match k,hk with
    | 0,hk=>
     cases hk
     refine⟨e5,by simp,fun hm=>?_,gq⟩
     rcases List.mem_cons.1 hm with e | e
     ·omega
     ·have:=hYr _ e;omega
   ·intro k k' sk sk' hk hk' hne
    match k,k',hk,hk' with
    | 0,0,_,_=>exact absurd rfl hne
  ·intro i s α G k hJ hi0 hsi hd hcc hcont
   obtain⟨X,Y,rs,hJ⟩:=hJ
   have j0:=(hJ.lo 0 (by decide)).trans e0
   have j5:=(hJ.lo 5 (by decide)).trans e5
   have j6:=(hJ.lo 6 (by decide)).trans e6
   have hle:=hJ.le
   have hi:i=0∨i=1∨i=2∨i=3∨i=4∨i=5∨i=6∨i=7∨i=8∨i=9∨i=10∨i=11∨i=12∨i=13∨i=14:=by have hi0:i<15:=hi0;omega
   rcases hi with rfl | rfl | rfl | rfl | rfl | rfl | rfl | rfl | rfl | rfl | rfl | rfl | rfl | rfl | rfl
   ·unfold XOm
    simp only [gcS]
    simp (disch:=first|omega|simp only [lnS];try omega) [-getElem?_pos,-getElem?_neg,-notTuple,nt_boolG,nt_aggG,nt_intG,nt_ptrG,nt_slG,nt_strG,j5,XO_s,XO_z,XLk_val,XLk_call,headsO,behind,List.length_cons,List.length_nil,mcN,forall_eq_or_imp,forall_eq,List.contains_cons,List.contains_nil]
    exact hcont _ _ ⟨X,Y,rs,hJ.plain hsh hob (i:=0) (t:=17) rfl (by decide) (by simp [soS]) rfl hd⟩
   ·have f0:α 17=.pointer (some ⟨q0,64,none⟩):=hJ.val 0 17 rfl (hd 0 (by decide))
    obtain⟨w1,w2,w3,cs0,w4,w5⟩:=hJ.sla 0 _ rfl rfl
    have h14:s.getD 14 false=false:=hcc 14 (by decide)
    rw [show (⟨none,5,14,bnC NI NP av, 99,fun G X cs=>∃w C,cs=bnC NI NP w∧OwnF G w 26 32 (kr (N1++[N])) C∧∀j∈C,j∈X∧q0<j⟩:Slot).st=14 from rfl,h14]at w5
    have w5:cs0=bnC NI NP av:=w5
    subst w5
    have w1:α 5=.pointer (some ⟨rs 0,0,none⟩):=w1
    have w6:rs 0=q0:=by rw [j5]at w1;cases w1;rfl
    rw [w6]at w4
    have ldq:xload Tryd.prog 23 (.pointer (some ⟨q0,64,none⟩)) G=some av:=by
     have h1:und Tryd.prog 23 = .slice 26 := by kernel_rfl
     simp [xload,w4,bnC_3 m1 m2,isAggD,okD,h1]
    unfold XOm
    simp only [gcS]
    simp (disch:=first|omega|simp only [lnS];try omega) [-getElem?_pos,-getElem?_neg,f0,-xload,ldq,ant.1,-notTuple,XO_s,XO_z,XLk_val,XLk_call,headsO,behind,List.length_cons,List.length_nil,mcN,forall_eq_or_imp,forall_eq,List.contains_cons,List.contains_nil]
    exact hcont _ _ ⟨X,Y,rs,hJ.plain hsh hob (i:=1) (t:=18) rfl (by decide) (by simp [soS]) rfl hd⟩
   ·unfold XOm
    simp only [gcS]
    simp (disch:=first|omega|simp only [lnS];try omega) [-getElem?_pos,-getElem?_neg,-notTuple,nt_boolG,nt_aggG,nt_intG,nt_ptrG,nt_slG,nt_strG,j0,XO_s,XO_z,XLk_val,XLk_call,headsO,behind,List.length_cons,List.length_nil,mcN,forall_eq_or_imp,forall_eq,List.contains_cons,List.contains_nil]
    exact hcont _ _ ⟨X,Y,rs,hJ.plain hsh hob (i:=2) (t:=19) rfl (by decide) (by simp [soS]) rfl hd⟩
   ·unfold XOm
    simp only [gcS]
    simp (disch:=first|omega|simp only [lnS];try omega) [-getElem?_pos,-getElem?_neg,-notTuple,nt_boolG,nt_aggG,nt_intG,nt_ptrG,nt_slG,nt_strG,j6,XO_s,XO_z,XLk_val,XLk_call,headsO,behind,List.length_cons,List.length_nil,mcN,forall_eq_or_imp,forall_eq,List.contains_cons,List.contains_nil]
    exact hcont _ _ ⟨X,Y,rs,hJ.plain hsh hob (i:=3) (t:=20) rfl (by decide) (by simp [soS]) rfl hd⟩
   ·have f3:α 20=.int .i64 (ii:Nat):=hJ.val 3 20 rfl (hd 3 (by decide))
    unfold XOm
    simp only [gcS]
    simp (disch:=first|omega|simp only [lnS];try omega) [-getElem?_pos,-getElem?_neg,-notTuple,nt_boolG,nt_aggG,nt_intG,nt_ptrG,nt_slG,nt_strG,f3,XO_s,XO_z,XLk_val,XLk_call,headsO,behind,List.length_cons,List.length_nil,mcN,forall_eq_or_imp,forall_eq,List.contains_cons,List.contains_nil]
    exact hcont _ _ ⟨X,Y,rs,hJ.plain hsh hob (i:=4) (t:=21) rfl (by decide) (by simp [soS]) rfl hd⟩
   ·have f4:α 21=.int .u64 (ii:Nat):=hJ.val 4 21 rfl (hd 4 (by decide))
    unfold XOm
    simp only [gcS]
    simp (disch:=first|omega|simp only [lnS];try omega) [-getElem?_pos,-getElem?_neg,f4,XO_s,XO_z,XLk_val,XLk_call,headsO,behind,List.length_cons,List.length_nil,mcN,forall_eq_or_imp,forall_eq,List.contains_cons,List.contains_nil]
    refine⟨by kernel_rfl,ac_of_vc (by simp [pv_iv,pv_int,pv_bool,pv_string,pv_tup2,pv_tup3,iv_plain,p2_int,p2_bool,p2_string]) hdig ?_⟩
    exact hcont _ _ ⟨X,Y,rs,hJ.plain hsh hob (i:=5) (t:=22) rfl (by decide) (by simp [soS]) rfl hd⟩
   ·have f5:α 22=.string (dg ii):=hJ.val 5 22 rfl (hd 5 (by decide))
    unfold XOm
    simp only [gcS]
    simp (disch:=first|omega|simp only [lnS];try omega) [-getElem?_pos,-getElem?_neg,-notTuple,nt_boolG,nt_aggG,nt_intG,nt_ptrG,nt_slG,nt_strG,hba,hone,f5,XO_s,XO_z,XLk_val,XLk_call,headsO,behind,List.length_cons,List.length_nil,mcN,forall_eq_or_imp,forall_eq,List.contains_cons,List.contains_nil]
    exact hcont _ _ ⟨X,Y,rs,hJ.plain hsh hob (i:=6) (t:=23) rfl (by decide) (by simp [soS]) rfl hd⟩
   ·have f2:α 19=.iface 43 (.agg #[.pointer (some ⟨b,0,none⟩)]):=hJ.val 2 19 rfl (hd 2 (by decide))
    unfold XOm
    simp only [gcS]
    simp (disch:=first|omega|simp only [lnS];try omega) [-getElem?_pos,-getElem?_neg,-notTuple,nt_boolG,nt_aggG,nt_intG,nt_ptrG,nt_slG,nt_strG,f2,XO_s,XO_z,XLk_val,XLk_call,headsO,behind,List.length_cons,List.length_nil,mcN,forall_eq_or_imp,forall_eq,List.contains_cons,List.contains_nil]
    exact hcont _ _ ⟨X,Y,rs,hJ.plain hsh hob (i:=7) (t:=24) rfl (by decide) (by simp [soS]) rfl hd⟩
   ·have f7:α 24=.func (.method "Draw") #[.iface 43 (.agg #[.pointer (some ⟨b,0,none⟩)])] #[]:=hJ.val 7 24 rfl (hd 7 (by decide))
    unfold XOm
    simp only [gcS]
    simp (disch:=first|omega|simp only [lnS];try omega) [-getElem?_pos,-getElem?_neg,-notTuple,nt_boolG,nt_aggG,nt_intG,nt_ptrG,nt_slG,nt_strG,xm_draw,f7,XO_s,XO_z,XLk_val,XLk_call,headsO,behind,List.length_cons,List.length_nil,mcN,forall_eq_or_imp,forall_eq,List.contains_cons,List.contains_nil]
    exact hcont _ _ ⟨X,Y,rs,hJ.plain hsh hob (i:=8) (t:=25) rfl (by decide) (by simp [soS]) rfl hd⟩
   ·have f2:α 19=.iface 43 (.agg #[.pointer (some ⟨b,0,none⟩)]):=hJ.val 2 19 rfl (hd 2 (by decide))
    have f7:α 24=.func (.method "Draw") #[.iface 43 (.agg #[.pointer (some ⟨b,0,none⟩)])] #[]:=hJ.val 7 24 rfl (hd 7 (by decide))
    have f8:α 25=.func (.method "Draw") #[.iface 43 (.agg #[.pointer (some ⟨b,0,none⟩)])] #[]:=hJ.val 8 25 rfl (hd 8 (by decide))
    unfold XOm
    simp only [gcS]
    simp (disch:=first|omega|simp only [lnS];try omega) [-getElem?_pos,-getElem?_neg,-notTuple,nt_boolG,nt_aggG,nt_intG,nt_ptrG,nt_slG,nt_strG,f2,f7,f8,XO_s,XO_z,XLk_val,XLk_call,headsO,behind,List.length_cons,List.length_nil,mcN,forall_eq_or_imp,forall_eq,List.contains_cons,List.contains_nil]
    exact hcont _ _ ⟨X,Y,rs,hJ.plain hsh hob (i:=9) (t:=26) rfl (by decide) (by simp [soS]) rfl hd⟩
   ·have f6:α 23=.string (oneB++dg ii):=hJ.val 6 23 rfl (hd 6 (by decide))
    have f9:α 26=.iface 43 (.agg #[.pointer (some ⟨b,0,none⟩)]):=hJ.val 9 26 rfl (hd 9 (by decide))
    unfold XOm
    simp only [gcS]
    simp (disch:=first|omega|simp only [lnS];try omega) [-getElem?_pos,-getElem?_neg,f6,f9,xm_draw,-notTuple,nt_aggG,XO_s,XO_z,XLk_val,XLk_call,headsO,behind,List.length_cons,List.length_nil,mcN,forall_eq_or_imp,forall_eq,List.contains_cons,List.contains_nil]
    have h12:s.getD 12 false=false:=hcc 12 (by decide)
    obtain⟨k1,k2,k3⟩:=hJ.o.pre h12
    have ko:Kt H0 (A++Y) G b T1:=by simp only [stT,hsi,if_true,Bool.false_eq_true,if_false]at k1;exact k1
    refine⟨by kernel_rfl,AC.mono (kt_draw hpw ko hsz (by omega)) ?_⟩
    rintro v' G' ⟨rfl,q1,q2,q3⟩
    rw [eN10]
    rw [eT10]at q1
    exact hcont _ _ ⟨_,_,rs,hJ.call (R:=[]) (Y':=Y) hsh hst hsc (KtA.mk1 (by rw [sgN (show (10:Nat)≠12 by decide)];exact h12) (by simp only [stT,sgE (show 10<s.size from by rw [hJ.sz];decide),if_true];exact q1) (k2.low (fun j hj=>q2 j (List.mem_append_left _ hj))) k3) q3 (ko.old ⟨q1,q2,q3⟩) (fun j hj=>⟨hj,q2 j (List.mem_append_right _ hj)⟩) (fun j hj=>by cases hj) (i:=10) (t:=27) rfl (by simp [soS]) rfl hd⟩
   ·have f10:α 27=.agg (iv .u8 N).toArray:=hJ.val 10 27 rfl (hd 10 (by decide))
    unfold XOm
    simp only [gcS]
    simp (disch:=first|omega|simp only [lnS];try omega) [-getElem?_pos,-getElem?_neg,f10,lN,htNN,hrow1,nt_aggG,XO_s,XO_z,XLk_val,XLk_call,headsO,behind,List.length_cons,List.length_nil,mcN,forall_eq_or_imp,forall_eq,List.contains_cons,List.contains_nil]
    have hG:=(hob.lo _ _ _ hJ.o)
    exact hcont _ _ ⟨_,_,rs,hJ.call (R:=[G.length]) (Y':=G.length::Y) hsh hst hsc (hob.plain _ _ _ _ (by simp) (hob.push _ _ _ _ hJ.o)) (by simp) (fun j hj=>hget_left (by omega)) (fun j hj=>⟨by simp [hj],hget_left (hG.2 j hj).2⟩) (fun j hj=>by rw [msG.1 hj];exact⟨by simp,fun e=>by have:=(hG.2 _ e).2;omega⟩) (i:=11) (t:=28) rfl (by simp [soS]) ⟨_,rfl,by rw [hget_app0];rfl,by simp⟩ hd⟩
   ·have f1:α 18=av:=hJ.val 1 18 rfl (hd 1 (by decide))
    have f11:=hJ.val 11 28 rfl (hd 11 (by decide))
    obtain⟨j,e11,g11,hjX⟩:=f11
    obtain⟨k1,k2,k3⟩:=hJ.o.pre hsi
    have ko:Kt H0 (A++Y) G b T2:=by simp only [stT,hd 10 (by decide),if_true]at k1;exact k1
    have hxc:xcells 32 (.slice (some ⟨j,0,none⟩) 1 1) G=some (kr [N]):=by
     simp [xcells,g11,lN,htNN,kr_one]
    obtain⟨v3,G3,C,hap,kt3,ho3,l3,s3,hC⟩:=kt_append (nro:=H0.length) ko k2 (fun j hj=>(ko.y j (List.mem_append_left _ hj)).1) (fun s e=>by cases e) hxc (fun z hz=>(hk32 z hz).1) (fun z hz=>by rw [msG.1 hz];exact lN) (by simp;omega)
    have n3:=ownF_nt ho3
    unfold XOm
    simp only [gcS]
    simp (disch:=first|omega|simp only [lnS];try omega) [-getElem?_pos,-getElem?_neg,e11,f1,-notTuple,ant.1,ant.2,n3.1,n3.2,nt_slG,-xappend,hap,XO_s,XO_z,XLk_val,XLk_call,headsO,behind,List.length_cons,List.length_nil,mcN,forall_eq_or_imp,forall_eq,List.contains_cons,List.contains_nil]
    exact hcont _ _ ⟨_,_,rs,hJ.call (R:=C) (Y':=C++Y) hsh hst hsc (KtA.mk2 (sgE (show 12<s.size from by rw [hJ.sz];decide)) (by simp only [stT,sgN (show (12:Nat)≠10 by decide),hd 10 (by decide),if_true];exact kt3)) l3 (fun j hj=>s3 j (by have:=ko.le;omega) (fun e=>by have:=(ko.y j (List.mem_append_left _ e)).1;omega)) (fun j hj=>⟨by simp [hj],s3 j (ko.y j (List.mem_append_right _ hj)).2 (fun e=>k3 j e hj)⟩) (fun j hj=>⟨by simp [hj],fun e=>by have:=hC j hj;have:=(ko.y j (List.mem_append_right _ e)).2;omega⟩) (i:=12) (t:=29) rfl (by simp [soS]) ⟨C,ho3,fun j hj=>⟨by simp [hj],by have:=hC j hj;omega⟩⟩ hd⟩
   ·unfold XOm
    simp only [gcS]
    simp (disch:=first|omega|simp only [lnS];try omega) [-getElem?_pos,-getElem?_neg,-notTuple,nt_boolG,nt_aggG,nt_intG,nt_ptrG,nt_slG,nt_strG,j5,XO_s,XO_z,XLk_val,XLk_call,headsO,behind,List.length_cons,List.length_nil,mcN,forall_eq_or_imp,forall_eq,List.contains_cons,List.contains_nil]
    exact hcont _ _ ⟨X,Y,rs,hJ.plain hsh hob (i:=13) (t:=30) rfl (by decide) (by simp [soS]) rfl hd⟩
   ·have f12:=hJ.val 12 29 rfl (hd 12 (by decide))
    have f13:α 30=.pointer (some ⟨q0,64,none⟩):=hJ.val 13 30 rfl (hd 13 (by decide))
    obtain⟨C,o12,c12⟩:=f12
    have n12:=ownF_nt o12
    obtain⟨w1,w2,w3,cs0,w4,w5⟩:=hJ.sla 0 _ rfl rfl
    rw [hsi]at w5
    have w5:cs0=bnC NI NP av:=w5
    subst w5
    have wl:=(hob.lo _ _ _ hJ.o).2 _ w2
    have w1:α 5=.pointer (some ⟨rs 0,0,none⟩):=w1
    have w6:rs 0=q0:=by rw [j5]at w1;cases w1;rfl
    have w4:hget G (rs 0)=some ⟨bnC NI NP av, 99,none⟩:=w4
    have w7:=w4
    rw [w6]at w7
    have wl1:=wl.1
    have wl2:=wl.2
    rw [w6]at wl1 wl2
    have hup:(bnC NI NP av).set 64 (α 29)=bnC NI NP (α 29):=bnC_upd m1 m2
    unfold XOm
    simp only [gcS]
    simp (disch:=first|omega|simp only [lnS];try omega) [-getElem?_pos,-getElem?_neg,f13,w7,wl1,wl2,n12.1,n12.2,-notTuple,hup,bL,XO_s,XO_z,XLk_val,XLk_call,headsO,behind,List.length_cons,List.length_nil,mcN,forall_eq_or_imp,forall_eq,List.contains_cons,List.contains_nil]
    rw [←w6]
    exact hcont _ _ ⟨X,Y,rs,hJ.store hsh hob hst hsc (k:=0) rfl rfl ⟨_,C,rfl,o12,c12⟩ hd⟩
  rintro s α G8 hJ hall
  obtain⟨X,Y2,rs,hJ⟩:=hJ
  have hd:∀i,i<15→s.getD i false=true:=fun i hi=>all_done hall (by rw [hJ.sz];exact hi)
  obtain⟨w1,w2,w3,cs0,w4,w5⟩:=hJ.sla 0 _ rfl rfl
  rw [show (⟨none,5,14,bnC NI NP av, 99,fun G X cs=>∃w C,cs=bnC NI NP w∧OwnF G w 26 32 (kr (N1++[N])) C∧∀j∈C,j∈X∧q0<j⟩:Slot).st=14 from rfl,hd 14 (by omega)]at w5
  obtain⟨w,C,rfl,o12,c12⟩:=w5
  have j5:=(hJ.lo 5 (by decide)).trans e5
  have w1:α 5=.pointer (some ⟨rs 0,0,none⟩):=w1
  have w6:rs 0=q0:=by rw [j5]at w1;cases w1;rfl
  rw [w6]at w2 w4
  have w4:hget G8 q0=some ⟨bnC NI NP w, 99,none⟩:=w4
  have a0:=(hJ.lo 0 (by decide)).trans e0
  have a1:=(hJ.lo 1 (by decide)).trans e1'
  have a4:=(hJ.lo 4 (by decide)).trans e4'
  have a6:=(hJ.lo 6 (by decide)).trans e6
  have ko:Kt H0 Y2 G8 b T2:=by
   have:=hJ.o
   unfold KtA at this
   rw [if_pos (hd 12 (by omega))]at this
   simp only [stT,hd 10 (by omega),if_true]at this
   exact this
  have sS:=fun i hi=>(hJ.ss i hi).2
  have lG8:=hJ.le
  have kS:Kt H0 (C++q0::r::Y) G8 b T2:=ko.less (fun j hj=>by
   simp only [maP,List.mem_cons]at hj
   rcases hj with e | e | e | e
   ·exact hJ.xy j (c12 j e).1
   ·rw [e];exact w2
   ·exact hJ.xy j (hJ.ss j (by simp [e])).1
   ·exact hJ.xy j (hJ.ss j (by simp [e])).1)
  clear hJ hall hd hob hsh hst hsc
  (refine aoo fun K hK=>?_;simp (disch:=first|omega|simp only [lnS];try omega) [-getElem?_pos,-getElem?_neg,a6];refine hK _ _ ?_;clear hK K)
  refine⟨q-1,by omega,ii+1,C,w,by omega,by (first|simp [put_at,put_none,fr0_at,a0];done|rfl),by (first|simp [put_at,put_none,fr0_at,a1];done|rfl),by (first|simp [put_at,put_none,fr0_at,a4];done|rfl),by (first|simp [put_at,put_none,fr0_at,j5];done|rfl),by (first|simp [put_at,put_none,fr0_at];done|rfl),?_,fun j hj=>(sS j hj).trans (hY j hj),by omega,?_,fun j hj=>(c12 j hj).2,w4⟩
  ·rw [htN];exact kS
  ·rw [hnN];exact o12
 ·obtain rfl:ii=n:=by omega
  have hk2:K32 (onN ii TB):=fun z hz=>(hk32 z hz).1
  have gr8:=(hY r (by simp)).trans gr4
  have lr8:=hget_lt gr8
  have hnr:H0.length≤r:=by omega
  have bAw:=bnC_all (v:=av) m1 m2
  (refine aoo fun K hK=>?_;simp (disch:=first|omega|simp only [lnS];try omega) [-getElem?_pos,-getElem?_neg,a1,a6];refine hK _ _ ?_;clear hK K)
  refine awf (by simp [eval_tmp,put_at]<;>omega) ?_
  refine aw_exit (aw_seq ?_)
  (refine aoo fun K hK=>?_;simp (disch:=first|omega|simp only [lnS];try omega) [-getElem?_pos,-getElem?_neg,a4,a5,gq,lq,gr8,lr8,hnr,bAw,bL,bS,nt_aggG,-notTuple];refine hK _ _ ?_;clear hK K)
  have g9:hget (G.set r (some ⟨bnC NI NP av, 99,none⟩)) r=some ⟨bnC NI NP av, 99,none⟩:=hget_set_eq lr8
  have k9:=kt.set (r:=r) (by simp) (some ⟨bnC NI NP av, 99,none⟩)
  have s9:∀i,i≠r→hget (G.set r (some ⟨bnC NI NP av, 99,none⟩)) i=hget G i:=fun i hi=>hget_set_ne (Ne.symm hi)
  have l9:(G.set r (some ⟨bnC NI NP av, 99,none⟩)).length=G.length:=by simp
  generalize G.set r (some ⟨bnC NI NP av, 99,none⟩)=G9 at *
  have lr9:=hget_lt g9
  (refine aw_ret ?_;simp (disch:=first|omega|simp only [lnS];try omega) [-getElem?_pos,-getElem?_neg,a4,g9,lr9,bAw,bL,nt_aggG])
  refine⟨A,av,rfl,⟨k9.less (fun j hj=>?_),fun j hj=>?_,by omega,fun j hj=>by have:=hA j hj;omega⟩,ownF_kov (ho.low (fun j hj=>s9 j (by have:=hA j hj;omega))) hk2 (fun j hj=>hj)⟩
  ·rcases maP.1 hj with e | e <;> simp [e]
  ·rw [s9 j (by have:=hYr j hj;omega),hY j (by simp [hj])]
   exact h0r j hj
end
section
structure Gd (T:List TermD):Prop where
 wf:∀x∈T,x.Wf
 nd:T.Nodup
 len:T.length≤1000000
def isN(T:List TermD)(k:List Int)(x:TermD):Prop:=∃i,T[i]?=some x∧k=nmL (i:Nat)
inductive F2 {α β:Type} (R:α→β→Prop):List α→List β→Prop
 | nil:F2 R [] []
 | cons {a:α} {b:β} {l:List α} {m:List β}:R a b→F2 R l m→F2 R (a::l) (b::m)
section
variable {α β:Type} {R S:α→β→Prop}
theorem F2.mono{l:List α}{m:List β}(h:F2 R l m)(hs:∀a b,R a b→S a b):F2 S l m:=by
 induction h with
 | nil=>exact .nil
 | cons h _ ih=>exact .cons (hs _ _ h) ih
theorem F2.len{l:List α}{m:List β}(h:F2 R l m):l.length=m.length:=by
 induction h with
 | nil=>rfl
 | cons _ _ ih=>simp [ih]
theorem F2.mem{l:List α}{m:List β}(h:F2 R l m){a:α}(ha:a∈l):∃b∈m,R a b:=by
 induction h with
 | nil=>cases ha
 | cons h _ ih=>
  rcases List.mem_cons.1 ha with rfl | ha
  ·exact⟨_,by simp,h⟩
  ·obtain⟨b,hb,hr⟩:=ih ha
   exact⟨b,by simp [hb],hr⟩
theorem F2.app{l l':List α}{m m':List β}(h:F2 R l m)(h':F2 R l' m'):F2 R (l++l') (m++m'):=by
 induction h with
 | nil=>exact h'
 | cons h _ ih=>exact .cons h ih
end
theorem F2.eq{α β:Type}{R:α→β→Prop}(hR:∀a a' b,R a b→R a' b→a=a'):∀ {l l':List α} {m:List β},F2 R l m→F2 R l' m→l=l'
 | _,_,_,.nil,.nil=>rfl
 | _,_,_,.cons h1 t1,.cons h2 t2=>by rw [hR _ _ _ h1 h2,F2.eq hR t1 t2]
section
variable {T U:List TermD} {x y:TermD} {k l:List Int}
theorem isN.up(h:isN T k x)(hu:T <+: U):isN U k x:=by
 obtain⟨i,h1,h2⟩:=h
 obtain⟨r,rfl⟩:=hu
 exact⟨i,by rw [gaL (gsI.1 h1).1];exact h1,h2⟩
theorem add_up(x:TermD)(T:List TermD):T <+: addT x T:=by
 unfold addT
 split
 ·exact List.prefix_rfl
 ·exact List.prefix_append _ _
theorem Gd.add(h:Gd T)(hx:x.Wf)(hl:T.length+1≤1000000):Gd (addT x T)∧isN (addT x T) (nN x T) x:=by
 by_cases hm:x∈T
 ·obtain⟨i,hi,e⟩:=List.mem_iff_getElem.1 hm
  have hg:T[i]?=some x:=by rw [geE hi,e]
  obtain⟨e1,e2⟩:=add_old hx h.wf h.nd hg
  refine⟨by rw [e1];exact h,i,by rw [e1];exact hg,?_⟩
  unfold nN
  rw [e2]
 ·obtain⟨e1,e2⟩:=add_new hx h.wf hm
  refine⟨by
   rw [e1]
   refine⟨fun z hz=>?_,List.nodup_append.2 ⟨h.nd,by simp,fun a ha b hb=>?_⟩,by simp;omega⟩
   ·rcases maP.1 hz with e | e
    ·exact h.wf z e
    ·rw [msG.1 e];exact hx
   ·rw [msG.1 hb]
    exact fun e=>hm (e▸ha),T.length,by rw [e1];simp,?_⟩
  unfold nN
  rw [e2]
theorem isN.key(hg:Gd T)(h:isN T k x)(h':isN T l x):k=l:=by
 obtain⟨i,h1,rfl⟩:=h
 obtain⟨j,h2,rfl⟩:=h'
 have:i=j:=(List.getElem?_inj (gsI.1 h1).1 hg.nd).1 (h1.trans h2.symm)
 rw [this]
theorem isN.term(hg:Gd T)(h:isN T k x)(h':isN T k y):x=y:=by
 obtain⟨i,h1,e⟩:=h
 obtain⟨j,h2,rfl⟩:=h'
 have hi:=(gsI.1 h1).1
 have hj:=(gsI.1 h2).1
 have hl:=hg.len
 have:(j:Int)=i:=nm_inj (by omega) (by omega) e
 have:i=j:=by omega
 subst this
 rw [h1]at h2
 exact Option.some.inj h2
theorem isN.k32(h:isN T k x):k.length=32∧By k∧k≠zl 32:=by
 obtain⟨i,_,rfl⟩:=h
 refine⟨rfl,nmL_by _,fun e=>?_⟩
 have:=congrArg (fun l=>l.getD 0 0) e
 exact absurd this (by show ¬ (116:Int)=0;omega)
theorem isN.find(hg:Gd T)(h:isN T k x):findT T k=some x:=by
 obtain⟨i,h1,rfl⟩:=h
 have hi:=(gsI.1 h1).1
 have hl:=hg.len
 have hp:plN (nmL (i:Nat))=(i:Nat):=plN_nm (by omega)
 unfold findT
 rw [hp]
 rw [if_pos (by simp;omega),Int.toNat_natCast]
 exact h1
end
def agK(s c:List Int):TermD:=if c<s then mK c s else mK s c
theorem agK_comm(s c:List Int):agK s c=agK c s:=by
 unfold agK
 by_cases h1:c<s
 ·rw [if_pos h1,if_neg (fun h2=>absurd (List.lt_trans h1 h2) (List.lt_irrefl c))]
 ·by_cases h2:s<c
  ·rw [if_neg h1,if_pos h2]
  ·have:s=c:=List.le_antisymm (List.not_lt.1 h1) (List.not_lt.1 h2)
   rw [this]
theorem agK_wf{s c:List Int}(hs:s.length=32)(bs:By s)(hc:c.length=32)(bc:By c):(agK s c).Wf:=by
 unfold agK
 split
 ·exact mK_wf hc bc hs bs
 ·exact mK_wf hs bs hc bc
theorem agree_agK{T:List TermD}{s p c:List Int}(hg:Gd T)(h:isN T p (mU c))(hs:s.length=32)(bs:By s)(hc:c.length=32)(bc:By c):agreeT T s p=agK s c:=by
 rw [agr_of (h.find hg)]
 unfold agK
 have:=cmpL_gt bs bc (hs.trans hc.symm)
 by_cases e:c<s
 ·rw [if_pos (this.2 e),if_pos e]
 ·rw [if_neg (fun h=>e (this.1 h)),if_neg e]
end
section
def Ok32(k:List Int):Prop:=k.length=32∧By k
def PrR(T:List TermD)(p:PrD)(t:TermD):Prop:=∃c,isN T p.2 (mU c)∧Ok32 c∧Ok32 p.1∧t=agK p.1 c
theorem PrR.up{T U:List TermD}{p:PrD}{t:TermD}(h:PrR T p t)(hu:T <+: U):PrR U p t:=by
 obtain⟨c,h1,h2⟩:=h
 exact⟨c,h1.up hu,h2⟩
theorem ags_names:∀ {l:List PrD} {ts:List TermD} {T:List TermD},Gd T→F2 (PrR T) l ts→T.length+l.length≤900000→Gd (agsT l T)∧T <+: agsT l T∧F2 (isN (agsT l T)) (agsN l T) ts
 | _,_,T,hg,.nil,hl=>⟨hg,List.prefix_rfl,.nil⟩
 | _,_,T,hg,.cons (a:=p) (b:=t) (l:=l) (m:=m) hp hr,hl=>by
  obtain⟨c,h1,h2,h3,rfl⟩:=hp
  have he:=agree_agK hg h1 h3.1 h3.2 h2.1 h2.2
  simp only [List.length_cons]at hl
  obtain⟨g1,g2⟩:=hg.add (agK_wf h3.1 h3.2 h2.1 h2.2) (by omega)
  have hup:=add_up (agK p.1 c) T
  have hal:=addT_len (agK p.1 c) T
  obtain⟨i1,i2,i3⟩:=ags_names g1 (hr.mono fun a b h=>h.up hup) (by omega)
  have e1:agsT (p::l) T=agsT l (addT (agK p.1 c) T):=by show agsT l (addT (agreeT T p.1 p.2) T)=_;rw [he]
  have e2:agsN (p::l) T=nN (agK p.1 c) T::agsN l (addT (agK p.1 c) T):=by show nN (agreeT T p.1 p.2) T::agsN l (addT (agreeT T p.1 p.2) T)=_;rw [he]
  rw [e1,e2]
  exact⟨i1,hup.trans i2,.cons (g2.up i2) i3⟩
theorem agd_names{l:List PrD}{ts:List TermD}{T:List TermD}(hg:Gd T)(h:F2 (PrR T) l ts)(hl:T.length+l.length≤800000) :
  Gd (addT (helD l T) (agsT l T))∧T <+: addT (helD l T) (agsT l T)∧F2 (isN (addT (helD l T) (agsT l T))) (agsN l T) ts∧isN (addT (helD l T) (agsT l T)) (nN (helD l T) (agsT l T)) ⟨2,helloB,agsN l T⟩∧(addT (helD l T) (agsT l T)).length≤T.length+l.length+1:=by
 obtain⟨h1,h2,h3⟩:=ags_names hg h (by omega)
 have ha:=agsT_len l T
 have hw:(helD l T).Wf:=wf_hash (by show 5≤_;omega) (agsN_k l T) (by rw [agsN_len];omega)
 obtain⟨g1,g2⟩:=h1.add hw (by omega)
 have hup:=add_up (helD l T) (agsT l T)
 have hal:=addT_len (helD l T) (agsT l T)
 exact⟨g1,h2.trans hup,h3.mono fun a b h=>h.up hup,g2,by omega⟩
theorem pubs_names:∀ {ks:List (List Int)} {T:List TermD},Gd T→(∀k∈ks,Ok32 k)→T.length+ks.length≤900000→Gd (pubsT ks T)∧T <+: pubsT ks T∧F2 (fun P k=>isN (pubsT ks T) P (mU k)) (pubsN ks T) ks
 | [],T,hg,_,_=>⟨hg,List.prefix_rfl,.nil⟩
 | k::ks,T,hg,hk,hl=>by
  simp only [List.length_cons]at hl
  have h0:=hk k (by simp)
  obtain⟨g1,g2⟩:=hg.add (mU_wf h0.1 h0.2) (by omega)
  have hup:=add_up (mU k) T
  have hal:=addT_len (mU k) T
  obtain⟨i1,i2,i3⟩:=pubs_names (ks:=ks) g1 (fun z hz=>hk z (List.mem_cons_of_mem _ hz)) (by omega)
  exact⟨i1,hup.trans i2,.cons (g2.up i2) i3⟩
structure MS (T:List TermD) (sI sP:List Int) (os:List (List Int)) (bI bP:List Int) (ps:List (List Int)):Prop where
 gd:Gd T
 okI:Ok32 sI
 okP:Ok32 sP
 okO:∀o∈os,Ok32 o
 nd:os.Nodup
 nI:isN T bI (mU sI)
 nP:isN T bP (mU sP)
 nS:F2 (fun P o=>isN T P (mU o)) ps os
theorem MS.up{T U:List TermD}{sI sP:List Int}{os:List (List Int)}{bI bP:List Int}{ps:List (List Int)}(h:MS T sI sP os bI bP ps)(hu:T <+: U)(hg:Gd U):MS U sI sP os bI bP ps:=
 ⟨hg,h.okI,h.okP,h.okO,h.nd,h.nI.up hu,h.nP.up hu,h.nS.mono fun a b h=>h.up hu⟩
theorem MS.drop{T:List TermD}{sI sP:List Int}{os:List (List Int)}{bI bP:List Int}{ps:List (List Int)}(h:MS T sI sP os bI bP ps):MS T sI sP (os.drop 1) bI bP (ps.drop 1):=by
 refine⟨h.gd,h.okI,h.okP,fun o ho=>h.okO o (List.mem_of_mem_drop ho),h.nd.sublist (List.drop_sublist _ _),h.nI,h.nP,?_⟩
 cases h.nS with
 | nil=>exact .nil
 | cons _ t=>exact t
def grT(sI sP a e:List Int)(os:List (List Int)):List TermD:=[agK a sP,agK e sI,agK e sP]++(os.take 1).map fun o=>agK e o
structure GrD (U:List TermD) (sI sP a e:List Int) (os:List (List Int)) (NI NE x:List Int):Prop where
 gd:Gd U
 gi:isN U NI (mU a)
 ge:isN U NE (mU e)
 gx:∃ks,F2 (isN U) ks (grT sI sP a e os)∧isN U x ⟨2,helloB,ks⟩
theorem GrD.up{U V:List TermD}{sI sP a e:List Int}{os:List (List Int)}{NI NE x:List Int}(h:GrD U sI sP a e os NI NE x)(hu:U <+: V)(hg:Gd V):GrD V sI sP a e os NI NE x:=by
 obtain⟨ks,h1,h2⟩:=h.gx
 exact⟨hg,h.gi.up hu,h.ge.up hu,ks,h1.mono fun a b h=>h.up hu,h2.up hu⟩
theorem f2_take{α β:Type}{R:α→β→Prop}{l:List α}{m:List β}(h:F2 R l m)(n:Nat):F2 R (l.take n) (m.take n):=by
 induction h generalizing n with
 | nil=>simpa using F2.nil
 | cons h _ ih=>
  cases n with
  | zero=>exact .nil
  | succ n=>exact .cons h (ih n)
theorem f2_map{α β γ δ:Type}{R:α→β→Prop}{S:γ→δ→Prop}{f:α→γ}{g:β→δ}(hs:∀a b,R a b→S (f a) (g b)){l:List α}{m:List β}(h:F2 R l m):F2 S (l.map f) (m.map g):=by
 induction h with
 | nil=>exact .nil
 | cons h _ ih=>exact .cons (hs _ _ h) ih
theorem f2_mem{α β:Type}{R:α→β→Prop}{l:List α}{m:List β}(h:F2 R l m):F2 (fun a b=>R a b∧b∈m) l m:=by
 induction h with
 | nil=>exact .nil
 | cons h _ ih=>exact .cons ⟨h,by simp⟩ (ih.mono fun a b h=>⟨h.1,by simp [h.2]⟩)
section
variable {T:List TermD} {sI sP bI bP a e:List Int} {os ps:List (List Int)}
theorem beg_names(h:MS T sI sP os bI bP ps)(ha:Ok32 a)(he:Ok32 e)(hl:T.length≤700000) :
  GrD (begT a e bI bP ps T) sI sP a e os (nN (pubD a) (begT0 a e bI bP ps T)) (nN (pubD e) (addT (pubD a) (begT0 a e bI bP ps T))) (begN a e bI bP ps T)∧T <+: begT a e bI bP ps T∧(begT a e bI bP ps T).length≤T.length+7:=by
 have hF:F2 (PrR T) (begL a e bI bP ps) (grT sI sP a e os):=by
  refine F2.app (.cons ⟨sP,h.nP,h.okP,ha,rfl⟩ (.cons ⟨sI,h.nI,h.okI,he,rfl⟩ (.cons ⟨sP,h.nP,h.okP,he,rfl⟩ .nil))) ?_
  refine f2_map (fun P o hp=>?_) (f2_take (f2_mem h.nS) 1)
  exact⟨o,hp.1,h.okO o hp.2,he,rfl⟩
 have h4:(begL a e bI bP ps).length≤4:=by
  unfold begL
  simp only [laP,List.length_cons,List.length_nil,List.length_map,List.length_take]
  omega
 obtain⟨g1,g2,g3,g4,g5⟩:=agd_names h.gd hF (by omega)
 obtain⟨i1,i2⟩:=g1.add (mU_wf ha.1 ha.2) (by omega)
 have u1:=add_up (mU a) (addT (helD (begL a e bI bP ps) T) (agsT (begL a e bI bP ps) T))
 have a1:=addT_len (mU a) (addT (helD (begL a e bI bP ps) T) (agsT (begL a e bI bP ps) T))
 obtain⟨j1,j2⟩:=i1.add (mU_wf he.1 he.2) (by omega)
 have u2:=add_up (mU e) (addT (mU a) (addT (helD (begL a e bI bP ps) T) (agsT (begL a e bI bP ps) T)))
 have a2:=addT_len (mU e) (addT (mU a) (addT (helD (begL a e bI bP ps) T) (agsT (begL a e bI bP ps) T)))
 exact⟨⟨j1,i2.up u2,j2,_,g3.mono fun a b h=>h.up (u1.trans u2),g4.up (u1.trans u2)⟩,g2.trans (u1.trans u2),by show (addT (mU e) (addT (mU a) (addT (helD (begL a e bI bP ps) T) (agsT (begL a e bI bP ps) T)))).length≤_;omega⟩
theorem ans_names{U:List TermD}{NI NE x:List Int}(h:GrD U sI sP a e os NI NE x)(hI:Ok32 sI)(hP:Ok32 sP)(ha:Ok32 a)(he:Ok32 e)(ho:∀o∈os,Ok32 o)(hl:U.length≤700000) :
  ansN sI sP NI NE (os.take 1) U=x∧Gd (ansT sI sP NI NE (os.take 1) U)∧U <+: ansT sI sP NI NE (os.take 1) U∧(ansT sI sP NI NE (os.take 1) U).length≤U.length+5:=by
 have hF:F2 (PrR U) (ansL sI sP NI NE (os.take 1)) (grT sI sP a e os):=by
  refine F2.app (.cons ⟨a,h.gi,ha,hP,agK_comm _ _⟩ (.cons ⟨e,h.ge,he,hI,agK_comm _ _⟩ (.cons ⟨e,h.ge,he,hP,agK_comm _ _⟩ .nil))) ?_
  have:∀l:List (List Int),(∀o∈l,Ok32 o)→F2 (PrR U) (l.map fun o=>(o,NE)) (l.map fun o=>agK e o):=by
   intro l
   induction l with
   | nil=>intro _;exact .nil
   | cons o l ih=>exact fun hk=>.cons ⟨e,h.ge,he,hk o (by simp),agK_comm _ _⟩ (ih fun z hz=>hk z (by simp [hz]))
  exact this _ fun o hm=>ho o (List.mem_of_mem_take hm)
 have h4:(ansL sI sP NI NE (os.take 1)).length≤4:=by
  unfold ansL
  simp only [laP,List.length_cons,List.length_nil,List.length_map,List.length_take]
  omega
 obtain⟨g1,g2,g3,g4,g5⟩:=agd_names h.gd hF (by omega)
 obtain⟨ks,h1,h2⟩:=h.gx
 have hk:agsN (ansL sI sP NI NE (os.take 1)) U=ks:=F2.eq (fun k l t hk hl=>hk.key g1 hl) g3 (h1.mono fun a b h=>h.up g2)
 rw [hk]at g4
 exact⟨g4.key g1 (h2.up g2),g1,g2,by show (addT _ _).length≤_;omega⟩
end
end
section
theorem onD_wf(i:Nat):(onD i).Wf:=wf_atom (by have:=dg_size i;rw [ByteArray.size_append];show 4+_≤_;omega)
theorem onD_txt:∀i<8,∀j<8,i≠j→(onD i).text≠(onD j).text:=by decide +kernel
theorem on_names:∀ (n:Nat) {T:List TermD},Gd T→T.length+n≤900000→Gd (onT n T)∧T <+: onT n T∧F2 (isN (onT n T)) (onN n T) ((List.range n).map onD)
 | 0,T,hg,_=>⟨hg,List.prefix_rfl,.nil⟩
 | n+1,T,hg,hl=>by
  obtain⟨h1,h2,h3⟩:=on_names n hg (by omega)
  have ha:=onT_len n T
  obtain⟨g1,g2⟩:=h1.add (onD_wf n) (by omega)
  have hup:=add_up (onD n) (onT n T)
  refine⟨g1,h2.trans hup,?_⟩
  rw [List.range_succ,List.map_append]
  exact (h3.mono fun a b h=>h.up hup).app (.cons g2 .nil)
theorem f2_nodup{α β:Type}{R:α→β→Prop}(hR:∀a b b',R a b→R a b'→b=b'):∀ {l:List α} {m:List β},F2 R l m→m.Nodup→l.Nodup
 | _,_,.nil,_=>.nil
 | _,_,.cons (a:=a) (b:=b) (l:=l) (m:=m) h t,hn=>by
  rw [List.nodup_cons]at hn ⊢
  refine⟨fun hm=>?_,f2_nodup hR t hn.2⟩
  obtain⟨b',hb,hr⟩:=t.mem hm
  rw [hR _ _ _ h hr]at hn
  exact hn.1 hb
theorem gd_nil:Gd []:=⟨fun x hx=>(by cases hx),.nil,by simp⟩
def stT0(n:Nat):List TermD:=onT n (addT preD (addT idD []))
def stI:List Int:=nN idD []
def stP:List Int:=nN preD (addT idD [])
def stO(n:Nat):List (List Int):=onN n (addT preD (addT idD []))
theorem stO_len(n:Nat):(stO n).length=n:=onN_len _ _
theorem sto_ok{n:Nat}(hn:n≤8):Gd (stT0 n)∧Ok32 stI∧Ok32 stP∧(∀o∈stO n,Ok32 o)∧(stO n).Nodup∧(stT0 n).length≤n+2:=by
 obtain⟨a1,a2⟩:=gd_nil.add (x:=idD) (wf_atom (by show 2≤_;omega)) (by simp)
 have l1:=addT_len idD []
 obtain⟨b1,b2⟩:=a1.add (x:=preD) (wf_atom (by show 3≤_;omega)) (by simp at l1;omega)
 have l2:=addT_len preD (addT idD [])
 simp only [List.length_nil]at l1
 obtain⟨c1,c2,c3⟩:=on_names n b1 (by omega)
 have l3:=onT_len n (addT preD (addT idD []))
 refine⟨c1,⟨nN_len _ _,nN_by _ _⟩,⟨nN_len _ _,nN_by _ _⟩,fun o ho=>onN_k _ _ o ho,?_,by show (onT n _).length≤_;omega⟩
 refine f2_nodup (fun k x y h h'=>h.term c1 h') c3 ?_
 rw [List.nodup_iff_pairwise_ne,List.pairwise_map]
 refine (List.nodup_iff_pairwise_ne.1 (List.nodup_range (n:=n))).imp_of_mem fun {i j} hi hj hne e=>?_
 exact onD_txt i (by have:=List.mem_range.1 hi;omega) j (by have:=List.mem_range.1 hj;omega) hne (congrArg TermD.text e)
theorem ms_show{U:List TermD}{sI sP:List Int}{os:List (List Int)}(hg:Gd U)(okI:Ok32 sI)(okP:Ok32 sP)(okO:∀o∈os,Ok32 o)(nd:os.Nodup)(hl:U.length+os.length≤700000) :
  MS (pubsT os (addT (pubD sP) (addT (pubD sI) U))) sI sP os (nN (pubD sI) U) (nN (pubD sP) (addT (pubD sI) U)) (pubsN os (addT (pubD sP) (addT (pubD sI) U)))∧U <+: pubsT os (addT (pubD sP) (addT (pubD sI) U))∧(pubsT os (addT (pubD sP) (addT (pubD sI) U))).length≤U.length+os.length+2:=by
 obtain⟨d1,d2⟩:=hg.add (mU_wf okI.1 okI.2) (by omega)
 have l4:=addT_len (mU sI) U
 have u4:=add_up (mU sI) U
 obtain⟨e1,e2⟩:=d1.add (mU_wf okP.1 okP.2) (by omega)
 have l5:=addT_len (mU sP) (addT (mU sI) U)
 have u5:=add_up (mU sP) (addT (mU sI) U)
 obtain⟨f1,f2,f3⟩:=pubs_names (ks:=os) e1 okO (by omega)
 have l6:=pubsT_len os (addT (mU sP) (addT (mU sI) U))
 refine⟨⟨f1,okI,okP,okO,nd,d2.up (u5.trans f2),e2.up f2,f3⟩,u4.trans (u5.trans f2),?_⟩
 show (pubsT os (addT (mU sP) (addT (mU sI) U))).length≤_
 omega
end
section
theorem pick_names{U:List TermD}{sI sP bI bP a e NI NE x:List Int}{os ps:List (List Int)}(h:MS U sI sP os bI bP ps)(hG:GrD U sI sP a e os NI NE x)(ha:Ok32 a)(he:Ok32 e)(hl:U.length+os.length≤600000) :
  ∃T1,((oneOf ps=zl 32∧os.take 1=[]∧T1=U∧os.drop 1=os)∨(oneOf ps≠zl 32∧T1=pubsT os U∧∃u o,(pubsN os U)[u]?=some (oneOf ps)∧(∀j<u,(pubsN os U)[j]?≠some (oneOf ps))∧os[u]?=some o∧os.take 1=[o]∧os.drop 1=os.take u++os.drop (u+1))) ∧
   ansN sI sP NI NE (os.take 1) T1=x∧Gd (ansT sI sP NI NE (os.take 1) T1)∧U <+: ansT sI sP NI NE (os.take 1) T1∧(ansT sI sP NI NE (os.take 1) T1).length≤U.length+os.length+5:=by
 match os,ps,h.nS,h,hG,hl with
 | [],[],_,h,hG,hl=>
  have:=ans_names hG h.okI h.okP ha he h.okO (by simp at hl;omega)
  exact⟨U,.inl ⟨rfl,rfl,rfl,rfl⟩,this.1,this.2.1,this.2.2.1,by have:=this.2.2.2;simpa using this⟩
 | o::os,p::ps,hF,h,hG,hl=>
  have hp:isN U p (mU o):=by cases hF with | cons h _=>exact h
  have hpk:=hp.k32
  have hl':U.length+(os.length+1)≤600000:=hl
  obtain⟨g1,g2,g3⟩:=pubs_names (ks:=o::os) h.gd h.okO (by simp only [List.length_cons];omega)
  have l1:=pubsT_len (o::os) U
  have hpe:pubsN (o::os) U=p::ps:=F2.eq (fun k l t hk hl=>hk.key g1 hl) g3 (hF.mono fun a b h=>h.up g2)
  have:=ans_names (hG.up g2 g1) h.okI h.okP ha he h.okO (by simp only [List.length_cons]at l1;omega)
  refine⟨pubsT (o::os) U,.inr ⟨hpk.2.2,rfl,0,o,by rw [hpe];rfl,fun j hj=>absurd hj (Nat.not_lt_zero _),rfl,rfl,rfl⟩,this.1,this.2.1,g2.trans this.2.2.1,?_⟩
  have h5:=this.2.2.2
  omega
end
section
attribute [local simp] wb_bool wb_undef with_lit XL_nil XL_cons XLc_val XLc_call step1_eq stepW_t stepW_f stepC_n stepC_s stepX_s stepX_n stepN_s calleeX xrecv oneV xop_eq xopR_s xopR_n wantedA_eq wantedG_n wantedG_s plain1_int plain1_bool plain1_string bits_i64 bits_u64 bits_u32 bits_u16 bits_u8 xeqA xagg xcmp xarr allK_iv num_iv calleeOf xread xeff xbin xint xnil xun xstr xload xconv xpart xfield xfieldAddr xindexAddr xindex bnd asInt? xslice xlen xmin xmax xbuild xfill xappend xapp2 xappstr xappmk xcap xcopy xcells eval_tmp eval_const put_at put_none fr0_at cells_agg cells_int cells_bool cells_string cells_ptr cells_slice notTuple tab iv_all hget_app hget_app0 hget_cons0 hget_cons set_app set_app0 setR setR_one QL_nil QL_cons QLc_val stepQ_t stepQ_f stepQC_n stepQC_s stepQX_s SL_nil SL_cons SLc_val stepS_t stepS_f ltT ltF leT leF eqT eqF ltTn ltFn leTn leFn eqTn eqFn beqT beqF bneT bneF wi64 wu64 wu32 wu16 wu8 tmodP tdivP hgetL hgetNe hgetEq setL nums_def nums_len Nat.succ_le_of_lt List.getElem?_cons_zero List.getElem?_cons_succ Option.getD_some Int.toNat_add Int.toNat_mul agM okM agB agI agS agP agL agA okB okI okS okP okSl okA thenQ_ret scopeQ_ret inBlockQ_ret RQ resL resV
section
theorem tbl_new{H:AH}{b mb:Nat}(h:TblF H b mb (.slice none 0 0) [] [] []):Tbl H b [b,mb] []:=⟨mb,_,[],[],[],rfl,h,rfl,fun j hj=>by
 simp only [mcN]at hj
 rcases hj with rfl | rfl
 ·exact hget_lt h.hb
 ·exact hget_lt h.hm⟩
theorem newfree28_ac{γ:Nat→Option Nat}{nro:Nat}{H:AH}(hn:nro≤H.length):AC Tryd.prog nro γ 18 #[] H (fun v' H'=>∃b F,v'=.agg #[.pointer (some ⟨b,0,none⟩)]∧Low H.length H H'∧Tbl H' b F []∧∀j∈F,H.length≤j):=by
 have hne:=tnew_ac (nro:=nro) (γ:=γ) (H:=H++[some ⟨[.pointer none], 43,none⟩]) (by simp;omega)
 refine ac_of_aw Tryd.func18 rfl Tryd.ntmps18 Tryd.results18 (by simp) ?_
 (refine aso fun K hK=>?_;simp (disch:=first|omega|simp only [lnS];try omega) [-getElem?_pos,-getElem?_neg];refine hK _ _ ?_;clear hK K)
 refine aso fun K hK=>?_
 simp (disch:=first|omega|simp only [lnS];try omega) [-getElem?_pos,-getElem?_neg,nt_ptrG,nt_aggG,-notTuple]
 refine⟨by kernel_rfl,AC.mono hne ?_⟩
 rintro v1 G ⟨rfl,lw,ht⟩
 have lw':Low H.length H G:=⟨fun j hj=>(lw.1 j (by simp;omega)).trans (hget_left hj),by have:=lw.2;simp at this;omega⟩
 have g0:hget G H.length=some ⟨[.pointer none], 43,none⟩:=(lw.1 _ (by simp)).trans (by rw [hget_app0];rfl)
 have l0:=hget_lt g0
 have hpp:plain1 (.pointer none)=true:=rfl
 have hnG:nro≤H.length:=hn
 try simp (disch:=first|omega|simp only [lnS];try omega) [-getElem?_pos,-getElem?_neg,g0,l0,hnG,hpp,nt_ptrG,nt_aggG,-notTuple]
 refine hK _ _ ?_;clear hK K
 (refine aw_ret ?_;simp (disch:=first|omega|simp only [lnS];try omega) [-getElem?_pos,-getElem?_neg,l0,nt_aggG,-notTuple])
 have w1:=tbl_new ht
 simp only [laP,List.length_cons,List.length_nil,Nat.zero_add]at w1
 refine⟨⟨fun j hj=>(hget_set_ne (by omega)).trans (lw'.1 j hj),by have:=lw'.2;simpa using this⟩,[H.length+1+1,H.length+1],?_,fun j hj=>?_⟩
 ·refine w1.low (fun j hj=>hget_set_ne ?_) (by simp)
  simp only [mcN]at hj
  omega
 ·simp only [mcN]at hj
  omega
end
end
section
def al8D:List (Option Nat):=[some 15,some 16,some 17,some 18,some 19,some 20,some 21,some 22,some 23,some 24,some 25,some 26,some 27,some 14,some 28,some 29,some 30,some 31,some 3,some 4,some 5,none,none,none,some 6]
def al8P:List (List Nat):=[[],[0],[],[2],[3],[],[5],[4,6],[],[8],[],[7,9,10],[1,4,7,11],[12],[13],[13],[13],[13],[],[],[],[0,1,2,3,4,5,6,7,8,9,10,11,12,13,14,18,19,20],[0,1,2,3,4,5,6,7,8,9,10,11,12,13,14,15,18,19,20,21],[0,1,2,3,4,5,6,7,8,9,10,11,12,13,14,15,16,18,19,20,21,22],[0,1,2,3,4,5,6,7,8,9,10,11,12,13,14,15,16,17,18,19,20,21,22,23]]
def al8V(n b n1 n2 lo:Nat)(ov:Value)(sI sP Na Nb N1 N2 NI NE one xx:List Int)(NS RS:List (List Int))(G:AH)(X:List Nat)(i:Nat)(v:Value):Prop:=match i with
 | 0=>v=.agg #[.pointer (some ⟨b,0,none⟩)]
 | 1=>v=.iface 43 (.agg #[.pointer (some ⟨b,0,none⟩)])
 | 2=>v=.pointer (some ⟨n1,0,none⟩)
 | 3=>v=.pointer (some ⟨b,0,none⟩)
 | 4=>v=.agg (iv .u8 Na).toArray
 | 5=>v=.pointer (some ⟨n1,0,none⟩)
 | 6=>v=.pointer (some ⟨b,0,none⟩)
 | 7=>v=.agg (iv .u8 Nb).toArray
 | 8=>v=.agg #[.pointer (some ⟨b,0,none⟩)]
 | 9=>v=.iface 43 (.agg #[.pointer (some ⟨b,0,none⟩)])
 | 10=>v=.agg (bnC sI sP ov).toArray
 | 11=>∃w,v=.agg (bnC N1 N2 w).toArray∧KoN lo X G w NS
 | 12=>∃w,v=.tuple #[.agg (hlC NI NE one).toArray,.agg (iv .u8 xx).toArray,.agg (bnC N1 N2 w).toArray,.int .i64 0]∧KoN lo X G w RS
 | 13=>∃w,v=.tuple #[.agg (hlC NI NE one).toArray,.agg (iv .u8 xx).toArray,.agg (bnC N1 N2 w).toArray,.int .i64 0]∧KoN lo X G w RS
 | 14=>v=.agg (hlC NI NE one).toArray
 | 15=>v=.agg (iv .u8 xx).toArray
 | 16=>∃w,v=.agg (bnC N1 N2 w).toArray∧KoN lo X G w RS
 | 17=>v=.int .i64 0
 | 24=>v=.int .i64 0
 | _=>True
def al8S(n b n1 n2 lo:Nat)(ov:Value)(sI sP Na Nb N1 N2 NI NE one xx:List Int)(NS RS:List (List Int)):List Slot:=[⟨some 18,3,21,iv .u8 (zl 96), 104,fun G X cs=>cs=hlC NI NE one⟩,⟨some 19,4,22,iv .u8 (zl 32), 26,fun G X cs=>cs=iv .u8 xx⟩,⟨some 20,5,23,iv .u8 (zl 64)++[.slice none 0 0], 101,fun G X cs=>∃w,cs=bnC N1 N2 w∧KoN lo X G w RS⟩]
end
section
attribute [local simp] wb_bool wb_undef with_lit XL_nil XL_cons XLc_val XLc_call step1_eq stepW_t stepW_f stepC_n stepC_s stepX_s stepX_n stepN_s calleeX xrecv oneV xop_eq xopR_s xopR_n wantedA_eq wantedG_n wantedG_s plain1_int plain1_bool plain1_string bits_i64 bits_u64 bits_u32 bits_u16 bits_u8 xeqA xagg xcmp xarr allK_iv num_iv calleeOf xread xeff xbin xint xnil xun xstr xload xconv xpart xfield xfieldAddr xindexAddr xindex bnd asInt? xslice xlen xmin xmax xbuild xfill xappend xapp2 xappstr xappmk xcap xcopy xcells eval_tmp eval_const put_at put_none fr0_at cells_agg cells_int cells_bool cells_string cells_ptr cells_slice notTuple tab iv_all hget_app hget_app0 hget_cons0 hget_cons set_app set_app0 setR setR_one QL_nil QL_cons QLc_val stepQ_t stepQ_f stepQC_n stepQC_s stepQX_s SL_nil SL_cons SLc_val stepS_t stepS_f ltT ltF leT leF eqT eqF ltTn ltFn leTn leFn eqTn eqFn beqT beqF bneT bneF wi64 wu64 wu32 wu16 wu8 tmodP tdivP hgetL hgetNe hgetEq setL nums_def nums_len Nat.succ_le_of_lt List.getElem?_cons_zero List.getElem?_cons_succ Option.getD_some Int.toNat_add Int.toNat_mul agM okM agB agI agS agP agL agA okB okI okS okP okSl okA PL_nil plainB_lit PL_cons PLc_val PLc_new stepP_t stepP_f stepPC_n stepPC_s stepPX_s stepPX_n stepPV_n stepPV_s stepPA_t stepPA_c stepPA_l stepPN_s allocOp reloc_sl reloc_ptr thenQ_ret scopeQ_ret inBlockQ_ret RQ resL resV
section
theorem alive28_rc{γ:Nat→Option Nat}{H0:AH}(hpw:Pw γ H0):AC Tryd.prog H0.length γ 42 #[] H0 (fun v' _=>v'=.bool true):=by
 have hpl:plain1 (.slice none 0 0)=true:=rfl
 obtain⟨gd0,okI,okP,okO,nd,hTl⟩:=sto_ok (n:=2) (by omega)
 have k32:K32 (stO 2):=fun k hk=>(okO k hk).1
 have ol:=stO_len 2
 refine ac_of_aw Tryd.func42 rfl Tryd.ntmps42 Tryd.results42 (by simp) ?_
 (refine aso fun K hK=>?_;simp (disch:=first|omega|simp only [lnS];try omega) [-getElem?_pos,-getElem?_neg];refine hK _ _ ?_;clear hK K)
 refine aso fun K hK=>?_
 simp (disch:=first|omega|simp only [lnS];try omega) [-getElem?_pos,-getElem?_neg]
 refine⟨by kernel_rfl,AC.mono (newfree28_ac (nlE _)) ?_⟩
 rintro v1 G1 ⟨b,F,rfl,lw1,t1,f1⟩
 have k1:=kt_new lw1 t1 f1
 have hn1:=k1.le
 have hpp:plain1 (.pointer none)=true:=rfl
 try simp (disch:=first|omega|simp only [lnS];try omega) [-getElem?_pos,-getElem?_neg,hpp,hn1,nt_ptrG,nt_aggG,-notTuple]
 refine hK _ _ ?_;clear hK K
 obtain⟨n1,hn1'⟩:∃n1,n1=G1.length:=⟨_,rfl⟩
 obtain⟨G2,hG2⟩:∃G2:AH,G2=G1++[some ⟨[.pointer (some ⟨b,0,none⟩)], 43,none⟩]:=⟨_,rfl⟩
 have k2:Kt H0 [n1] G2 b []:=by rw [hG2,hn1'];exact k1.push _
 have g1:hget G2 n1=some ⟨[.pointer (some ⟨b,0,none⟩)], 43,none⟩:=by rw [hG2,hn1',hget_app0];rfl
 rw [←hn1',←hG2]
 clear hG2 k1 t1 f1 lw1 hn1
 have hst:=store_ac hpw k2 (n:=2) (by omega) (by simp)
 unfold kitV at hst
 refine aw_seq ?_
 have hif:ifcOk (und Tryd.prog 43)=true:=by kernel_rfl
 have nt_ifcG:∀ (t:Nat) (v:Value),notTuple (.iface t v)=true:=fun _ _=>rfl
 refine aoo fun K hK=>?_
 simp (disch:=first|omega|simp only [lnS];try omega) [-getElem?_pos,-getElem?_neg,g1,nt_aggG,nt_ifcG,hif,-notTuple]
 refine⟨by kernel_rfl,AC.mono (show AC Tryd.prog H0.length γ 43 #[.iface 43 (.agg #[.pointer (some ⟨b,0,none⟩)]),.int .i64 2] G2 _ from hst) ?_⟩
 rintro v2 G3 ⟨R,ov,rfl,fk,hov⟩
 rw [show onT 2 (addT preD (addT idD []))=stT0 2 from rfl]at fk
 rw [show nN idD []=stI from rfl,show nN preD (addT idD [])=stP from rfl]
 rw [show onN 2 (addT preD (addT idD []))=stO 2 from rfl]at hov
 generalize stT0 2=T0 at *
 generalize stI=sI at *
 generalize stP=sP at *
 generalize stO 2=os at *
 have lI:=okI.1
 have lP:=okP.1
 have hn3:=fk.kt.le
 have bS:=bnC_set (v:=ov) (C:=iv .u8 (zl 64)++[.slice none 0 0]) lI lP (by simp)
 try simp (disch:=first|omega|simp only [lnS];try omega) [-getElem?_pos,-getElem?_neg,nt_aggG,-notTuple,hn3,hpl,bS,bnC_len (v:=ov) lI lP]
 refine hK _ _ ?_;clear hK K
 obtain⟨n2,hn2'⟩:∃n2,n2=G3.length:=⟨_,rfl⟩
 obtain⟨G4,hG4⟩:∃G4:AH,G4=G3++[some ⟨bnC sI sP ov, 99,none⟩]:=⟨_,rfl⟩
 have k4:Kt H0 (n2::(R++[n1])) G4 b T0:=by rw [hG4,hn2'];exact fk.kt.push _
 have g2:hget G4 n2=some ⟨bnC sI sP ov, 99,none⟩:=by rw [hG4,hn2',hget_app0];rfl
 have s4:∀j,j<G3.length→hget G4 j=hget G3 j:=fun j hj=>by rw [hG4];exact hget_left hj
 have g1':hget G4 n1=some ⟨[.pointer (some ⟨b,0,none⟩)], 43,none⟩:=(s4 n1 (fk.kt.y n1 (by simp)).2).trans ((fk.st n1 (by simp)).trans g1)
 have hov4:KoV R G4 ov os:=hov.step (fun j hj=>⟨hj,s4 j (fk.kt.y j (by simp [hj])).2⟩)
 rw [←hn2',←hG4]
 have Rlt:∀j∈R,j<n2:=fun j hj=>by have:=(fk.kt.y j (by simp [hj])).2;omega
 have n12:n1<n2:=by have:=(fk.kt.y n1 (by simp)).2;omega
 have hn4:H0.length≤G4.length:=k4.le
 clear hG4 g1 fk hov hn3 hst
 have g1:=g1'
 clear g1'
 obtain⟨Ta,hTa⟩:∃Ta,Ta=addT ⟨1,⟨#[97]⟩,[]⟩ T0:=⟨_,rfl⟩
 obtain⟨Tb,hTb⟩:∃Tb,Tb=addT ⟨1,⟨#[98]⟩,[]⟩ Ta:=⟨_,rfl⟩
 obtain⟨Na,hNa⟩:∃Na,Na=nN ⟨1,⟨#[97]⟩,[]⟩ T0:=⟨_,rfl⟩
 obtain⟨Nb,hNb⟩:∃Nb,Nb=nN ⟨1,⟨#[98]⟩,[]⟩ Ta:=⟨_,rfl⟩
 have la:Ta.length≤T0.length+1:=by rw [hTa];exact addT_len _ _
 have lb:Tb.length≤Ta.length+1:=by rw [hTb];exact addT_len _ _
 obtain⟨gdA,iA⟩:=gd0.add (x:=⟨1,⟨#[97]⟩,[]⟩) (wf_atom (by decide)) (by omega)
 rw [←hTa,←hNa]at iA
 rw [←hTa]at gdA
 obtain⟨gdB,iB⟩:=gdA.add (x:=⟨1,⟨#[98]⟩,[]⟩) (wf_atom (by decide)) (by omega)
 rw [←hTb,←hNb]at iB
 rw [←hTb]at gdB
 have oA:Ok32 Na:=⟨iA.k32.1,iA.k32.2.1⟩
 have oB:Ok32 Nb:=⟨iB.k32.1,iB.k32.2.1⟩
 obtain⟨hms,up1,ltc⟩:=ms_show gdB okI okP okO nd (by omega)
 have hshow0:=fun {Y:List Nat} {G:AH} (ko:Kt H0 Y G b Tb) (hks:KsX H0.length Y G ov os)=>show_ac hpw ko okI.1 okI.2 okP.1 okP.2 hks okO (by omega) (by omega)
 obtain⟨Tc,hTc⟩:∃Tc,Tc=pubsT os (addT (pubD sP) (addT (pubD sI) Tb)):=⟨_,rfl⟩
 obtain⟨N1,hN1⟩:∃N1,N1=nN (pubD sI) Tb:=⟨_,rfl⟩
 obtain⟨N2,hN2⟩:∃N2,N2=nN (pubD sP) (addT (pubD sI) Tb):=⟨_,rfl⟩
 obtain⟨NS,hNS⟩:∃NS,NS=pubsN os (addT (pubD sP) (addT (pubD sI) Tb)):=⟨_,rfl⟩
 have hshow:∀ {Y:List Nat} {G:AH},Kt H0 Y G b Tb→KsX H0.length Y G ov os→AC Tryd.prog H0.length γ 44 #[kitV b,.agg (bnC sI sP ov).toArray] G (ShowQ H0 Y G b Tb Tc N1 N2 NS):=by
  intro Y G ko hks
  rw [hTc,hN1,hN2,hNS]
  exact hshow0 ko hks
 clear hshow0
 rw [←hTc,←hN1,←hN2,←hNS]at hms
 rw [←hTc]at ltc up1
 clear hTc hN1 hN2 hNS
 have hNl:NS.length=os.length:=hms.nS.len
 have oN1:=hms.nI.k32
 have oN2:=hms.nP.k32
 have m1:=oN1.1
 have m2:=oN2.1
 have oNS:∀k∈NS,k.length=32∧By k∧k≠zl 32:=fun k hk=>by
  obtain⟨o,_,h⟩:=hms.nS.mem hk
  exact h.k32
 obtain⟨hgr,up2,ltd⟩:=beg_names hms oA oB (by omega)
 have hbeg0:=fun {Y:List Nat} {G:AH} {w0:Value} (ko:Kt H0 Y G b Tc) (kw:KoV Y G w0 NS)=>begin28_ac hpw ko oA.1 oA.2 oB.1 oB.2 m1 oN1.2.1 oN1.2.2 m2 oN2.2.1 oN2.2.2 kw oNS (by omega) (by omega)
 obtain⟨Td,hTd⟩:∃Td,Td=begT Na Nb N1 N2 NS Tc:=⟨_,rfl⟩
 obtain⟨NI,hNI⟩:∃NI,NI=nN (pubD Na) (begT0 Na Nb N1 N2 NS Tc):=⟨_,rfl⟩
 obtain⟨NE,hNE⟩:∃NE,NE=nN (pubD Nb) (addT (pubD Na) (begT0 Na Nb N1 N2 NS Tc)):=⟨_,rfl⟩
 obtain⟨xx,hxx⟩:∃xx,xx=begN Na Nb N1 N2 NS Tc:=⟨_,rfl⟩
 obtain⟨one,hone⟩:∃one,one=oneOf NS:=⟨_,rfl⟩
 obtain⟨RS,hRS⟩:∃RS,RS=NS.drop 1:=⟨_,rfl⟩
 have hbeg:∀ {Y:List Nat} {G:AH} {w0:Value},Kt H0 Y G b Tc→KoV Y G w0 NS→AC Tryd.prog H0.length γ 45 #[kitV b,.agg (iv .u8 Na).toArray,.agg (iv .u8 Nb).toArray,.agg (bnC N1 N2 w0).toArray] G (Beg28Q H0 Y G b Td NI NE one xx N1 N2 NS):=by
  intro Y G w0 ko kw
  rw [hTd,hNI,hNE,hxx,hone]
  exact hbeg0 ko kw
 clear hbeg0
 rw [show pubD Na=mU Na from rfl,show pubD Nb=mU Nb from rfl]at *
 rw [←hTd,←hNI,←hNE,←hxx]at hgr
 rw [←hTd]at up2 ltd
 clear hTd hNI hNE hxx
 have hms2:=hms.up up2 hgr.gd
 obtain⟨T1,hpk,hx1,gdE,up3,lte⟩:=pick_names hms2 hgr oA oB (by omega)
 rw [←hone]at hpk
 have mI:=hgr.gi.k32.1
 have mE:=hgr.ge.k32.1
 have mo:one.length=32:=by
  rw [hone]
  cases hNS:NS with
  | nil=>simp [oneOf]
  | cons p l=>exact (oNS p (by simp [hNS])).1
 have ox:xx.length=32∧By xx∧xx≠zl 32:=by
  obtain⟨ks,_,h⟩:=hgr.gx
  exact h.k32
 have bo:By one:=by
  rw [hone]
  cases hNS:NS with
  | nil=>exact fun x hx=>by have:=List.eq_of_mem_replicate hx;omega
  | cons p l=>exact (oNS p (by simp [hNS])).2.1
 have mx:=ox.1
 have sx:setR (iv .u8 (zl 32)) 0 (iv .u8 xx)=iv .u8 xx:=setR_all _ _ (by simp [mx])
 refine aw_seq ?_
 refine name_aw (fun β hβ=>?_)
 have e1:β 1=.pointer (some ⟨n1,0,none⟩):=by rw [hβ];(first|simp [put_at,put_none,fr0_at];done|rfl)
 have e2:β 2=.pointer (some ⟨n2,0,none⟩):=by rw [hβ];(first|simp [put_at,put_none,fr0_at];done|rfl)
 clear hβ
 have hob:=kt_obj (H0:=H0) (b:=b) (l:=[(4,Ta),(7,Tb),(11,Tc),(12,Td)]) (T0:=T0)
 have hsh:shapeK al8D (al8S H0.length b n1 n2 0 ov sI sP Na Nb N1 N2 NI NE one xx NS RS) [4,7,11,12]=true:=rfl
 have hst:StV H0.length (al8V H0.length b n1 n2 0 ov sI sP Na Nb N1 N2 NI NE one xx NS RS):=by
  intro G G' X X' i v hl hn hx hv
  unfold al8V at hv ⊢
  split at hv <;> first | exact hv | (obtain⟨ov,h1,h2⟩:=hv;exact⟨ov,h1,h2.step hx⟩)
 have hsc:∀k∈al8S H0.length b n1 n2 0 ov sI sP Na Nb N1 N2 NI NE one xx NS RS,StC H0.length k.c:=by
  intro k hk
  simp only [al8S,mcN]at hk
  rcases hk with rfl | rfl | rfl <;> intro G G' X X' cs hl hn hx hv
  ·exact hv
  ·exact hv
  ·obtain⟨ov,h1,h2⟩:=hv
   exact⟨ov,h1,h2.step hx⟩
 refine aw_inv al8P (JkE H0.length al8D al8P (al8V H0.length b n1 n2 0 ov sI sP Na Nb N1 N2 NI NE one xx NS RS) (al8S H0.length b n1 n2 0 ov sI sP Na Nb N1 N2 NI NE one xx NS RS) (fun s Y G=>Kt H0 Y G b (stT [(4,Ta),(7,Tb),(11,Tc),(12,Td)] T0 s)) β ([n1,n2]++R) G4) (by kernel_rfl) (by kernel_rfl) (by kernel_rfl) ?_ ?_ ?_
 ·refine JK.start (Y:=n2::(R++[n1])) (by show Kt H0 _ G4 b (stT _ _ _);rw [stT_0];exact k4) (fun i hi=>?_) (fun q=>0) ?_ ?_
  ·simp only [maP,mcN]at hi ⊢
   rcases hi with (h | h) | h <;> simp [h]
  ·intro k sk hk ha
   match k,hk with
   | 0,hk=>cases hk;cases ha
   | 1,hk=>cases hk;cases ha
   | 2,hk=>cases hk;cases ha
  ·intro k k' sk sk' hk hk' hne ha
   match k,hk with
   | 0,hk=>cases hk;cases ha
   | 1,hk=>cases hk;cases ha
   | 2,hk=>cases hk;cases ha
 ·intro i s α G k hJ hi0 hsi hd hcc hcont
  obtain⟨X,Y,rs,hJ⟩:=hJ
  have g1:=(hJ.ss n1 (by simp)).2.trans g1
  have g2:=(hJ.ss n2 (by simp)).2.trans g2
  have lg1:=hget_lt g1
  have lg2:=hget_lt g2
  have j1:=(hJ.lo 1 (by decide)).trans e1
  have j2:=(hJ.lo 2 (by decide)).trans e2
  have hle:=hJ.le
  have hnG:=(hob.lo _ _ _ hJ.o).1
  have hi:i=0∨i=1∨i=2∨i=3∨i=4∨i=5∨i=6∨i=7∨i=8∨i=9∨i=10∨i=11∨i=12∨i=13∨i=14∨i=15∨i=16∨i=17∨i=18∨i=19∨i=20∨i=21∨i=22∨i=23∨i=24:=by have hi0:i<25:=hi0;omega
  rcases hi with rfl | rfl | rfl | rfl | rfl | rfl | rfl | rfl | rfl | rfl | rfl | rfl | rfl | rfl | rfl | rfl | rfl | rfl | rfl | rfl | rfl | rfl | rfl | rfl | rfl
  ·unfold XOm
   simp only [gcS]
   simp (disch:=first|omega|simp only [lnS];try omega) [-getElem?_pos,-getElem?_neg,-notTuple,nt_boolG,nt_aggG,nt_intG,nt_ptrG,nt_slG,nt_strG,j1,g1,XO_s,XO_z,XLk_val,XLk_call,headsO,behind,List.length_cons,List.length_nil,mcN,forall_eq_or_imp,forall_eq,List.contains_cons,List.contains_nil]
   exact hcont _ _ ⟨X,Y,rs,hJ.plain hsh hob (i:=0) (t:=15) rfl (by decide) (by simp [al8S]) rfl hd⟩
  ·have f0:α 15=.agg #[.pointer (some ⟨b,0,none⟩)]:=hJ.val 0 15 rfl (hd 0 (by decide))
   unfold XOm
   simp only [gcS]
   simp (disch:=first|omega|simp only [lnS];try omega) [-getElem?_pos,-getElem?_neg,-notTuple,nt_boolG,nt_aggG,nt_intG,nt_ptrG,nt_slG,nt_strG,f0,XO_s,XO_z,XLk_val,XLk_call,headsO,behind,List.length_cons,List.length_nil,mcN,forall_eq_or_imp,forall_eq,List.contains_cons,List.contains_nil]
   exact hcont _ _ ⟨X,Y,rs,hJ.plain hsh hob (i:=1) (t:=16) rfl (by decide) (by simp [al8S]) rfl hd⟩
  ·unfold XOm
   simp only [gcS]
   simp (disch:=first|omega|simp only [lnS];try omega) [-getElem?_pos,-getElem?_neg,-notTuple,nt_boolG,nt_aggG,nt_intG,nt_ptrG,nt_slG,nt_strG,j1,XO_s,XO_z,XLk_val,XLk_call,headsO,behind,List.length_cons,List.length_nil,mcN,forall_eq_or_imp,forall_eq,List.contains_cons,List.contains_nil]
   exact hcont _ _ ⟨X,Y,rs,hJ.plain hsh hob (i:=2) (t:=17) rfl (by decide) (by simp [al8S]) rfl hd⟩
  ·have f2:α 17=.pointer (some ⟨n1,0,none⟩):=hJ.val 2 17 rfl (hd 2 (by decide))
   unfold XOm
   simp only [gcS]
   simp (disch:=first|omega|simp only [lnS];try omega) [-getElem?_pos,-getElem?_neg,-notTuple,nt_boolG,nt_aggG,nt_intG,nt_ptrG,nt_slG,nt_strG,g1,f2,XO_s,XO_z,XLk_val,XLk_call,headsO,behind,List.length_cons,List.length_nil,mcN,forall_eq_or_imp,forall_eq,List.contains_cons,List.contains_nil]
   exact hcont _ _ ⟨X,Y,rs,hJ.plain hsh hob (i:=3) (t:=18) rfl (by decide) (by simp [al8S]) rfl hd⟩
  ·have f3:α 18=.pointer (some ⟨b,0,none⟩):=hJ.val 3 18 rfl (hd 3 (by decide))
   unfold XOm
   simp only [gcS]
   simp (disch:=first|omega|simp only [lnS];try omega) [-getElem?_pos,-getElem?_neg,f3,nt_aggG,nt_ptrG,nt_strG,-notTuple,XO_s,XO_z,XLk_val,XLk_call,headsO,behind,List.length_cons,List.length_nil,mcN,forall_eq_or_imp,forall_eq,List.contains_cons,List.contains_nil]
   have ko:Kt H0 Y G b T0:=by have:=hJ.o;simp only [stT,hsi,if_true,Bool.false_eq_true,if_false]at this;exact this
   refine⟨by kernel_rfl,AC.mono (kt_draw hpw ko (by show 1≤_;omega) (by omega)) ?_⟩
   rintro v' G' ⟨rfl,q1,q2,q3⟩
   have kold:=ko.old ⟨q1,q2,q3⟩
   rw [show addT ⟨1,⟨#[97]⟩,[]⟩ T0=Ta from hTa.symm]at q1
   exact hcont _ _ ⟨_,_,rs,hJ.call (R:=[]) (Y':=Y) hsh hst hsc (by have e:stT [(4,Ta),(7,Tb),(11,Tc),(12,Td)] T0 (s.setIfInBounds 4 true)=Ta:=(by simp only [stT,sgE (show 4<s.size from by rw [hJ.sz];decide),sgN (show (4:Nat)≠7 by decide),hcc 7 (by decide),if_true,Bool.false_eq_true,if_false]);show Kt H0 _ G' b (stT [(4,Ta),(7,Tb),(11,Tc),(12,Td)] T0 _);rw [e];exact q1) q3 kold (fun j hj=>⟨hj,q2 j hj⟩) (fun j hj=>by cases hj) (i:=4) (t:=19) rfl (by simp [al8S]) (by show _=_;rw [hNa]) hd⟩
  ·unfold XOm
   simp only [gcS]
   simp (disch:=first|omega|simp only [lnS];try omega) [-getElem?_pos,-getElem?_neg,-notTuple,nt_boolG,nt_aggG,nt_intG,nt_ptrG,nt_slG,nt_strG,j1,XO_s,XO_z,XLk_val,XLk_call,headsO,behind,List.length_cons,List.length_nil,mcN,forall_eq_or_imp,forall_eq,List.contains_cons,List.contains_nil]
   exact hcont _ _ ⟨X,Y,rs,hJ.plain hsh hob (i:=5) (t:=20) rfl (by decide) (by simp [al8S]) rfl hd⟩
  ·have f5:α 20=.pointer (some ⟨n1,0,none⟩):=hJ.val 5 20 rfl (hd 5 (by decide))
   unfold XOm
   simp only [gcS]
   simp (disch:=first|omega|simp only [lnS];try omega) [-getElem?_pos,-getElem?_neg,-notTuple,nt_boolG,nt_aggG,nt_intG,nt_ptrG,nt_slG,nt_strG,g1,f5,XO_s,XO_z,XLk_val,XLk_call,headsO,behind,List.length_cons,List.length_nil,mcN,forall_eq_or_imp,forall_eq,List.contains_cons,List.contains_nil]
   exact hcont _ _ ⟨X,Y,rs,hJ.plain hsh hob (i:=6) (t:=21) rfl (by decide) (by simp [al8S]) rfl hd⟩
  ·have f6:α 21=.pointer (some ⟨b,0,none⟩):=hJ.val 6 21 rfl (hd 6 (by decide))
   unfold XOm
   simp only [gcS]
   simp (disch:=first|omega|simp only [lnS];try omega) [-getElem?_pos,-getElem?_neg,f6,nt_aggG,nt_ptrG,nt_strG,-notTuple,XO_s,XO_z,XLk_val,XLk_call,headsO,behind,List.length_cons,List.length_nil,mcN,forall_eq_or_imp,forall_eq,List.contains_cons,List.contains_nil]
   have ko:Kt H0 Y G b Ta:=by have:=hJ.o;simp only [stT,(hd 4 (by decide)),hsi,if_true,Bool.false_eq_true,if_false]at this;exact this
   refine⟨by kernel_rfl,AC.mono (kt_draw hpw ko (by show 1≤_;omega) (by omega)) ?_⟩
   rintro v' G' ⟨rfl,q1,q2,q3⟩
   have kold:=ko.old ⟨q1,q2,q3⟩
   rw [show addT ⟨1,⟨#[98]⟩,[]⟩ Ta=Tb from hTb.symm]at q1
   exact hcont _ _ ⟨_,_,rs,hJ.call (R:=[]) (Y':=Y) hsh hst hsc (by have e:stT [(4,Ta),(7,Tb),(11,Tc),(12,Td)] T0 (s.setIfInBounds 7 true)=Tb:=(by simp only [stT,sgE (show 7<s.size from by rw [hJ.sz];decide),sgN (show (7:Nat)≠4 by decide),(hd 4 (by decide)),sgN (show (7:Nat)≠11 by decide),hcc 11 (by decide),if_true,Bool.false_eq_true,if_false]);show Kt H0 _ G' b (stT [(4,Ta),(7,Tb),(11,Tc),(12,Td)] T0 _);rw [e];exact q1) q3 kold (fun j hj=>⟨hj,q2 j hj⟩) (fun j hj=>by cases hj) (i:=7) (t:=22) rfl (by simp [al8S]) (by show _=_;rw [hNb]) hd⟩
  ·unfold XOm
   simp only [gcS]
   simp (disch:=first|omega|simp only [lnS];try omega) [-getElem?_pos,-getElem?_neg,-notTuple,nt_boolG,nt_aggG,nt_intG,nt_ptrG,nt_slG,nt_strG,j1,g1,XO_s,XO_z,XLk_val,XLk_call,headsO,behind,List.length_cons,List.length_nil,mcN,forall_eq_or_imp,forall_eq,List.contains_cons,List.contains_nil]
   exact hcont _ _ ⟨X,Y,rs,hJ.plain hsh hob (i:=8) (t:=23) rfl (by decide) (by simp [al8S]) rfl hd⟩
  ·have f8:α 23=.agg #[.pointer (some ⟨b,0,none⟩)]:=hJ.val 8 23 rfl (hd 8 (by decide))
   unfold XOm
   simp only [gcS]
   simp (disch:=first|omega|simp only [lnS];try omega) [-getElem?_pos,-getElem?_neg,-notTuple,nt_boolG,nt_aggG,nt_intG,nt_ptrG,nt_slG,nt_strG,f8,XO_s,XO_z,XLk_val,XLk_call,headsO,behind,List.length_cons,List.length_nil,mcN,forall_eq_or_imp,forall_eq,List.contains_cons,List.contains_nil]
   exact hcont _ _ ⟨X,Y,rs,hJ.plain hsh hob (i:=9) (t:=24) rfl (by decide) (by simp [al8S]) rfl hd⟩
  ·unfold XOm
   simp only [gcS]
   simp (disch:=first|omega|simp only [lnS];try omega) [-getElem?_pos,-getElem?_neg,-notTuple,nt_boolG,nt_aggG,nt_intG,nt_ptrG,nt_slG,nt_strG,j2,g2,bnC_all (v:=ov) lI lP,bnC_len (v:=ov) lI lP,XO_s,XO_z,XLk_val,XLk_call,headsO,behind,List.length_cons,List.length_nil,mcN,forall_eq_or_imp,forall_eq,List.contains_cons,List.contains_nil]
   exact hcont _ _ ⟨X,Y,rs,hJ.plain hsh hob (i:=10) (t:=25) rfl (by decide) (by simp [al8S]) rfl hd⟩
  ·have f9:α 24=.iface 43 (.agg #[.pointer (some ⟨b,0,none⟩)]):=hJ.val 9 24 rfl (hd 9 (by decide))
   have f10:α 25=.agg (bnC sI sP ov).toArray:=hJ.val 10 25 rfl (hd 10 (by decide))
   unfold XOm
   simp only [gcS]
   simp (disch:=first|omega|simp only [lnS];try omega) [-getElem?_pos,-getElem?_neg,f9,f10,nt_aggG,nt_ptrG,nt_strG,-notTuple,XO_s,XO_z,XLk_val,XLk_call,headsO,behind,List.length_cons,List.length_nil,mcN,forall_eq_or_imp,forall_eq,List.contains_cons,List.contains_nil]
   have hks:KsX H0.length Y G ov os:=(hov4.step (R':=Y) (G':=G) (fun j hj=>⟨hJ.xy j (hJ.ss j (by simp [hj])).1,(hJ.ss j (by simp [hj])).2⟩)).ksx k32
   have ko:Kt H0 Y G b Tb:=by have:=hJ.o;simp only [stT,(hJ.cl 7 (hd 7 (by decide)) 4 (by decide)),(hd 7 (by decide)),hsi,if_true,Bool.false_eq_true,if_false]at this;exact this
   refine⟨by kernel_rfl,AC.mono (hshow ko hks) ?_⟩
   rintro v' G' ⟨R,w,rfl,fk,kov⟩
   exact hcont _ _ ⟨_,_,rs,hJ.call (R:=R) (Y':=R++Y) hsh hst hsc (by have e:stT [(4,Ta),(7,Tb),(11,Tc),(12,Td)] T0 (s.setIfInBounds 11 true)=Tc:=(by simp only [stT,sgE (show 11<s.size from by rw [hJ.sz];decide),sgN (show (11:Nat)≠4 by decide),(hJ.cl 7 (hd 7 (by decide)) 4 (by decide)),sgN (show (11:Nat)≠7 by decide),(hd 7 (by decide)),sgN (show (11:Nat)≠12 by decide),hcc 12 (by decide),if_true,Bool.false_eq_true,if_false]);show Kt H0 _ G' b (stT [(4,Ta),(7,Tb),(11,Tc),(12,Td)] T0 _);rw [e];exact fk.kt) fk.le (fun j hj=>(fk.kt.lw.1 j hj).trans (ko.lw.1 j hj).symm) (fun j hj=>⟨List.mem_append_right _ hj,fk.st j hj⟩) (fun j hj=>⟨List.mem_append_left _ hj,fun e=>by have:=fk.nw j hj;have:=(ko.y j e).2;omega⟩) (i:=11) (t:=26) rfl (by simp [al8S]) ⟨w,rfl,kov_kon kov (fun j hj=>⟨List.mem_append_left _ hj,Nat.zero_le _⟩)⟩ hd⟩
  ·have f1:α 16=.iface 43 (.agg #[.pointer (some ⟨b,0,none⟩)]):=hJ.val 1 16 rfl (hd 1 (by decide))
   have f4:α 19=.agg (iv .u8 Na).toArray:=hJ.val 4 19 rfl (hd 4 (by decide))
   have f7:α 22=.agg (iv .u8 Nb).toArray:=hJ.val 7 22 rfl (hd 7 (by decide))
   have f11:=hJ.val 11 26 rfl (hd 11 (by decide))
   obtain⟨w0,e11,R0,k11,r11⟩:=f11
   unfold XOm
   simp only [gcS]
   simp (disch:=first|omega|simp only [lnS];try omega) [-getElem?_pos,-getElem?_neg,f1,f4,f7,e11,nt_aggG,nt_ptrG,nt_strG,-notTuple,XO_s,XO_z,XLk_val,XLk_call,headsO,behind,List.length_cons,List.length_nil,mcN,forall_eq_or_imp,forall_eq,List.contains_cons,List.contains_nil]
   have kw:KoV Y G w0 NS:=k11.step (R':=Y) (G':=G) (fun j hj=>⟨hJ.xy j (r11 j hj).1,rfl⟩)
   have ko:Kt H0 Y G b Tc:=by have:=hJ.o;simp only [stT,(hJ.cl 7 (hJ.cl 11 (hd 11 (by decide)) 7 (by decide)) 4 (by decide)),(hJ.cl 11 (hd 11 (by decide)) 7 (by decide)),(hd 11 (by decide)),hsi,if_true,Bool.false_eq_true,if_false]at this;exact this
   refine⟨by kernel_rfl,AC.mono (hbeg ko kw) ?_⟩
   rintro v' G' ⟨R,w,rfl,fk,kov⟩
   rw [←hRS]at kov
   exact hcont _ _ ⟨_,_,rs,hJ.call (R:=R) (Y':=R++Y) hsh hst hsc (by have e:stT [(4,Ta),(7,Tb),(11,Tc),(12,Td)] T0 (s.setIfInBounds 12 true)=Td:=(by simp only [stT,sgE (show 12<s.size from by rw [hJ.sz];decide),sgN (show (12:Nat)≠4 by decide),(hJ.cl 7 (hJ.cl 11 (hd 11 (by decide)) 7 (by decide)) 4 (by decide)),sgN (show (12:Nat)≠7 by decide),(hJ.cl 11 (hd 11 (by decide)) 7 (by decide)),sgN (show (12:Nat)≠11 by decide),(hd 11 (by decide)),if_true,Bool.false_eq_true,if_false]);show Kt H0 _ G' b (stT [(4,Ta),(7,Tb),(11,Tc),(12,Td)] T0 _);rw [e];exact fk.kt) fk.le (fun j hj=>(fk.kt.lw.1 j hj).trans (ko.lw.1 j hj).symm) (fun j hj=>⟨List.mem_append_right _ hj,fk.st j hj⟩) (fun j hj=>⟨List.mem_append_left _ hj,fun e=>by have:=fk.nw j hj;have:=(ko.y j e).2;omega⟩) (i:=12) (t:=27) rfl (by simp [al8S]) ⟨w,rfl,kov_kon kov (fun j hj=>⟨List.mem_append_left _ hj,Nat.zero_le _⟩)⟩ hd⟩
  ·have f12:=hJ.val 12 27 rfl (hd 12 (by decide))
   obtain⟨w,e12,k12⟩:=f12
   unfold XOm
   simp only [gcS]
   simp (disch:=first|omega|simp only [lnS];try omega) [-getElem?_pos,-getElem?_neg,e12,XO_s,XO_z,XLk_val,XLk_call,headsO,behind,List.length_cons,List.length_nil,mcN,forall_eq_or_imp,forall_eq,List.contains_cons,List.contains_nil]
   exact hcont _ _ ⟨X,Y,rs,hJ.plain hsh hob (i:=13) (t:=14) rfl (by decide) (by simp [al8S]) ⟨w,rfl,k12⟩ hd⟩
  ·have f13:=hJ.val 13 14 rfl (hd 13 (by decide))
   obtain⟨w,e13,k13⟩:=f13
   unfold XOm
   simp only [gcS]
   simp (disch:=first|omega|simp only [lnS];try omega) [-getElem?_pos,-getElem?_neg,e13,XO_s,XO_z,XLk_val,XLk_call,headsO,behind,List.length_cons,List.length_nil,mcN,forall_eq_or_imp,forall_eq,List.contains_cons,List.contains_nil]
   exact hcont _ _ ⟨X,Y,rs,hJ.plain hsh hob (i:=14) (t:=28) rfl (by decide) (by simp [al8S]) rfl hd⟩
  ·have f13:=hJ.val 13 14 rfl (hd 13 (by decide))
   obtain⟨w,e13,k13⟩:=f13
   unfold XOm
   simp only [gcS]
   simp (disch:=first|omega|simp only [lnS];try omega) [-getElem?_pos,-getElem?_neg,e13,XO_s,XO_z,XLk_val,XLk_call,headsO,behind,List.length_cons,List.length_nil,mcN,forall_eq_or_imp,forall_eq,List.contains_cons,List.contains_nil]
   exact hcont _ _ ⟨X,Y,rs,hJ.plain hsh hob (i:=15) (t:=29) rfl (by decide) (by simp [al8S]) rfl hd⟩
  ·have f13:=hJ.val 13 14 rfl (hd 13 (by decide))
   obtain⟨w,e13,k13⟩:=f13
   unfold XOm
   simp only [gcS]
   simp (disch:=first|omega|simp only [lnS];try omega) [-getElem?_pos,-getElem?_neg,e13,XO_s,XO_z,XLk_val,XLk_call,headsO,behind,List.length_cons,List.length_nil,mcN,forall_eq_or_imp,forall_eq,List.contains_cons,List.contains_nil]
   exact hcont _ _ ⟨X,Y,rs,hJ.plain hsh hob (i:=16) (t:=30) rfl (by decide) (by simp [al8S]) ⟨w,rfl,k13⟩ hd⟩
  ·have f13:=hJ.val 13 14 rfl (hd 13 (by decide))
   obtain⟨w,e13,k13⟩:=f13
   unfold XOm
   simp only [gcS]
   simp (disch:=first|omega|simp only [lnS];try omega) [-getElem?_pos,-getElem?_neg,e13,XO_s,XO_z,XLk_val,XLk_call,headsO,behind,List.length_cons,List.length_nil,mcN,forall_eq_or_imp,forall_eq,List.contains_cons,List.contains_nil]
   exact hcont _ _ ⟨X,Y,rs,hJ.plain hsh hob (i:=17) (t:=31) rfl (by decide) (by simp [al8S]) rfl hd⟩
  ·unfold XOm
   simp only [gcS]
   simp (disch:=first|omega|simp only [lnS];try omega) [-getElem?_pos,-getElem?_neg,-notTuple,nt_boolG,nt_aggG,nt_intG,nt_ptrG,nt_slG,nt_strG,hnG,XO_s,XO_z,XLk_val,XLk_call,headsO,behind,List.length_cons,List.length_nil,mcN,forall_eq_or_imp,forall_eq,List.contains_cons,List.contains_nil]
   exact hcont _ _ ⟨X,_,_,hJ.alloc hsh hob hst hsc (k:=0) rfl rfl (hcc 21 (by decide)) trivial hd⟩
  ·unfold XOm
   simp only [gcS]
   simp (disch:=first|omega|simp only [lnS];try omega) [-getElem?_pos,-getElem?_neg,-notTuple,nt_boolG,nt_aggG,nt_intG,nt_ptrG,nt_slG,nt_strG,hnG,XO_s,XO_z,XLk_val,XLk_call,headsO,behind,List.length_cons,List.length_nil,mcN,forall_eq_or_imp,forall_eq,List.contains_cons,List.contains_nil]
   exact hcont _ _ ⟨X,_,_,hJ.alloc hsh hob hst hsc (k:=1) rfl rfl (hcc 22 (by decide)) trivial hd⟩
  ·unfold XOm
   simp only [gcS]
   simp (disch:=first|omega|simp only [lnS];try omega) [-getElem?_pos,-getElem?_neg,-notTuple,nt_boolG,nt_aggG,nt_intG,nt_ptrG,nt_slG,nt_strG,hnG,hpl,XO_s,XO_z,XLk_val,XLk_call,headsO,behind,List.length_cons,List.length_nil,mcN,forall_eq_or_imp,forall_eq,List.contains_cons,List.contains_nil]
   exact hcont _ _ ⟨X,_,_,hJ.alloc hsh hob hst hsc (k:=2) rfl rfl (hcc 23 (by decide)) trivial hd⟩
  ·have f14:α 28=.agg (hlC NI NE one).toArray:=hJ.val 14 28 rfl (hd 14 (by decide))
   obtain⟨w1,w2,w3,cs0,w4,w5⟩:=hJ.sla 0 _ rfl (hd 18 (by decide))
   rw [hsi]at w5
   have w5:cs0=iv .u8 (zl 96):=w5
   subst w5
   have wl:=(hob.lo _ _ _ hJ.o).2 _ w2
   have w1:α 3=.pointer (some ⟨rs 0,0,none⟩):=w1
   have w4:hget G (rs 0)=some ⟨iv .u8 (zl 96), 104,none⟩:=w4
   have wl1:=wl.1
   have wl2:=wl.2
   unfold XOm
   simp only [gcS]
   simp (disch:=first|omega|simp only [lnS];try omega) [-getElem?_pos,-getElem?_neg,-notTuple,nt_boolG,nt_aggG,nt_intG,nt_ptrG,nt_slG,nt_strG,f14,w1,w4,wl1,wl2,hlC_len mI mE mo,hlC_set (C:=iv .u8 (zl 96)) mI mE mo (by simp),XO_s,XO_z,XLk_val,XLk_call,headsO,behind,List.length_cons,List.length_nil,mcN,forall_eq_or_imp,forall_eq,List.contains_cons,List.contains_nil]
   exact hcont _ _ ⟨X,Y,rs,hJ.store hsh hob hst hsc (k:=0) rfl (hd 18 (by decide)) rfl hd⟩
  ·have f15:α 29=.agg (iv .u8 xx).toArray:=hJ.val 15 29 rfl (hd 15 (by decide))
   obtain⟨w1,w2,w3,cs0,w4,w5⟩:=hJ.sla 1 _ rfl (hd 19 (by decide))
   rw [hsi]at w5
   have w5:cs0=iv .u8 (zl 32):=w5
   subst w5
   have wl:=(hob.lo _ _ _ hJ.o).2 _ w2
   have w1:α 4=.pointer (some ⟨rs 1,0,none⟩):=w1
   have w4:hget G (rs 1)=some ⟨iv .u8 (zl 32), 26,none⟩:=w4
   have wl1:=wl.1
   have wl2:=wl.2
   unfold XOm
   simp only [gcS]
   simp (disch:=first|omega|simp only [lnS];try omega) [-getElem?_pos,-getElem?_neg,-notTuple,nt_boolG,nt_aggG,nt_intG,nt_ptrG,nt_slG,nt_strG,f15,w1,w4,wl1,wl2,mx,sx,XO_s,XO_z,XLk_val,XLk_call,headsO,behind,List.length_cons,List.length_nil,mcN,forall_eq_or_imp,forall_eq,List.contains_cons,List.contains_nil]
   exact hcont _ _ ⟨X,Y,rs,hJ.store hsh hob hst hsc (k:=1) rfl (hd 19 (by decide)) rfl hd⟩
  ·have f16:=hJ.val 16 30 rfl (hd 16 (by decide))
   obtain⟨w,e16,k16⟩:=f16
   obtain⟨w1,w2,w3,cs0,w4,w5⟩:=hJ.sla 2 _ rfl (hd 20 (by decide))
   rw [hsi]at w5
   have w5:cs0=iv .u8 (zl 64)++[.slice none 0 0]:=w5
   subst w5
   have wl:=(hob.lo _ _ _ hJ.o).2 _ w2
   have w1:α 5=.pointer (some ⟨rs 2,0,none⟩):=w1
   have w4:hget G (rs 2)=some ⟨iv .u8 (zl 64)++[.slice none 0 0], 101,none⟩:=w4
   have wl1:=wl.1
   have wl2:=wl.2
   unfold XOm
   simp only [gcS]
   simp (disch:=first|omega|simp only [lnS];try omega) [-getElem?_pos,-getElem?_neg,-notTuple,nt_boolG,nt_aggG,nt_intG,nt_ptrG,nt_slG,nt_strG,w1,w4,wl1,wl2,e16,bnC_len (v:=w) m1 m2,bnC_set (v:=w) (C:=iv .u8 (zl 64)++[.slice none 0 0]) m1 m2 (by simp),XO_s,XO_z,XLk_val,XLk_call,headsO,behind,List.length_cons,List.length_nil,mcN,forall_eq_or_imp,forall_eq,List.contains_cons,List.contains_nil]
   exact hcont _ _ ⟨X,Y,rs,hJ.store hsh hob hst hsc (k:=2) rfl (hd 20 (by decide)) ⟨w,rfl,k16⟩ hd⟩
  ·have f17:α 31=.int .i64 0:=hJ.val 17 31 rfl (hd 17 (by decide))
   unfold XOm
   simp only [gcS]
   simp (disch:=first|omega|simp only [lnS];try omega) [-getElem?_pos,-getElem?_neg,-notTuple,nt_boolG,nt_aggG,nt_intG,nt_ptrG,nt_slG,nt_strG,f17,XO_s,XO_z,XLk_val,XLk_call,headsO,behind,List.length_cons,List.length_nil,mcN,forall_eq_or_imp,forall_eq,List.contains_cons,List.contains_nil]
   exact hcont _ _ ⟨X,Y,rs,hJ.plain hsh hob (i:=24) (t:=6) rfl (by decide) (by simp [al8S]) rfl hd⟩
 rintro s α G hJ hall
 obtain⟨X,Y2,rs,hJ⟩:=hJ
 have hd:∀i,i<25→s.getD i false=true:=fun i hi=>all_done hall (by rw [hJ.sz];exact hi)
 have sl:∀ (q:Nat) (sk:Slot),(al8S H0.length b n1 n2 0 ov sI sP Na Nb N1 N2 NI NE one xx NS RS)[q]?=some sk→sk.st<25→al s sk=true→α sk.t=.pointer (some ⟨rs q,0,none⟩)∧∃cs,hget G (rs q)=some ⟨cs,sk.ty,none⟩∧sk.c G X cs:=fun q sk hq hs ha=>by
  obtain⟨w1,w2,w3,cs,w4,w5⟩:=hJ.sla q sk hq ha
  rw [hd _ hs,if_pos rfl]at w5
  exact⟨w1,cs,w4,w5⟩
 obtain⟨w3,cs3,g3,rfl⟩:=sl 0 _ rfl (by show 21<25;omega) (hd 18 (by omega))
 obtain⟨w4,cs4,g4,rfl⟩:=sl 1 _ rfl (by show 22<25;omega) (hd 19 (by omega))
 obtain⟨w5,cs5,g5,lv,rfl,klv⟩:=sl 2 _ rfl (by show 23<25;omega) (hd 20 (by omega))
 have w3:α 3=.pointer (some ⟨rs 0,0,none⟩):=w3
 have w4:α 4=.pointer (some ⟨rs 1,0,none⟩):=w4
 have w5:α 5=.pointer (some ⟨rs 2,0,none⟩):=w5
 have w6:α 6=.int .i64 0:=hJ.val 24 6 rfl (hd 24 (by omega))
 have w1:α 1=.pointer (some ⟨n1,0,none⟩):=(hJ.lo 1 (by decide)).trans e1
 have w2:α 2=.pointer (some ⟨n2,0,none⟩):=(hJ.lo 2 (by decide)).trans e2
 have g3:hget G (rs 0)=some ⟨hlC NI NE one, 104,none⟩:=g3
 have g4:hget G (rs 1)=some ⟨iv .u8 xx, 26,none⟩:=g4
 have g5:hget G (rs 2)=some ⟨bnC N1 N2 lv, 101,none⟩:=g5
 have g1:=(hJ.ss n1 (by simp)).2.trans g1
 have g2:=(hJ.ss n2 (by simp)).2.trans g2
 have ko:Kt H0 Y2 G b Td:=by
  have:=hJ.o
  simp only [stT,hd 4 (by omega),hd 7 (by omega),hd 11 (by omega),hd 12 (by omega),if_true]at this
  exact this
 have hov5:KoV Y2 G ov os:=hov4.step (fun j hj=>⟨hJ.xy j (hJ.ss j (by simp [hj])).1,(hJ.ss j (by simp [hj])).2⟩)
 have hX:∀j∈X,j∈Y2:=hJ.xy
 have hn2Y:n2∈Y2:=hJ.xy _ (hJ.ss n2 (by simp)).1
 have hov6:KoV R G ov os:=hov4.step (fun j hj=>⟨hj,(hJ.ss j (by simp [hj])).2⟩)
 have hRY:∀j∈R,j∈Y2:=fun j hj=>hJ.xy j (hJ.ss j (by simp [hj])).1
 have hr:∀q<3,rs q∈Y2:=by
  intro q hq
  match q,hq with
  | 0,_=>exact (hJ.sla 0 _ rfl (hd 18 (by omega))).2.1
  | 1,_=>exact (hJ.sla 1 _ rfl (hd 19 (by omega))).2.1
  | 2,_=>exact (hJ.sla 2 _ rfl (hd 20 (by omega))).2.1
 have hans:=ans_ac hpw ko okI.1 okI.2 okP.1 okP.2 hgr.gi.k32.1 hgr.gi.k32.2.1 hgr.gi.k32.2.2 hgr.ge.k32.1 hgr.ge.k32.2.1 hgr.ge.k32.2.2 mo bo hov5 okO (by omega) (by omega) hpk
 rw [hx1]at hans
 unfold kitV at hans
 generalize hTe:ansT sI sP NI NE (os.take 1) T1=Te at *
 clear hTe hpk hx1 hshow hbeg hst hsc hsh hob hms hms2 hgr
 refine aso fun K hK=>?_
 simp (disch:=first|omega|simp only [lnS];try omega) [-getElem?_pos,-getElem?_neg,w1,w2,w3,g1,g2,g3,bnC_all (v:=ov) lI lP,bnC_len (v:=ov) lI lP,hlC_all mI mE mo,hlC_len mI mE mo,nt_aggG,nt_ifcG,hif,-notTuple]
 refine⟨by kernel_rfl,AC.mono hans ?_⟩
 rintro v' G5 ⟨R2,pv,rfl,fk,hpv⟩
 have hn5:=fk.kt.le
 have bS2:=bnC_set (v:=pv) (C:=iv .u8 (zl 64)++[.slice none 0 0]) lI lP (by simp)
 try simp (disch:=first|omega|simp only [lnS];try omega) [-getElem?_pos,-getElem?_neg,nt_aggG,nt_intG,-notTuple,hn5,hpl,bS2,bnC_len (v:=pv) lI lP,mx,sx]
 refine hK _ _ ?_;clear hK K
 obtain⟨t7,ht7⟩:∃t7,t7=G5.length:=⟨_,rfl⟩
 obtain⟨G6,hG6⟩:∃G6:AH,G6=G5++[some ⟨bnC sI sP pv, 99,none⟩,some ⟨iv .u8 xx, 26,none⟩]:=⟨_,rfl⟩
 have s6:∀j,j<G5.length→hget G6 j=hget G5 j:=fun j hj=>by rw [hG6];exact hget_left hj
 have old:∀j∈Y2,hget G6 j=hget G j:=fun j hj=>(s6 j (fk.kt.y j (by simp [hj])).2).trans (fk.st j hj)
 have g7:hget G6 t7=some ⟨bnC sI sP pv, 99,none⟩:=by rw [hG6,ht7,hget_app0];rfl
 have g8:hget G6 (t7+1)=some ⟨iv .u8 xx, 26,none⟩:=by rw [hG6,ht7,hget_app];rfl
 have g2:=(old n2 hn2Y).trans g2
 have g4:=(old _ (hr 1 (by omega))).trans g4
 have g5:=(old _ (hr 2 (by omega))).trans g5
 have ko6:KoV R G6 ov os:=hov6.step (fun j hj=>⟨hj,old j (hRY j hj)⟩)
 obtain⟨RL,klv,klr⟩:=klv
 have kl6:KoV RL G6 lv RS:=klv.step (fun j hj=>⟨hj,old j (hX j (klr j hj).1)⟩)
 have kp6:KoV R2 G6 pv (os.drop 1):=hpv.step (fun j hj=>⟨hj,s6 j (fk.kt.y j (by simp [hj])).2⟩)
 rw [←ht7,←hG6]
 obtain⟨o0,o1,hos⟩:∃o0 o1,os=[o0,o1]:=by
  match os,ol with
  | [o0,o1],_=>exact⟨o0,o1,rfl⟩
 have hRl:RS.length=1:=by rw [hRS,List.length_drop,hNl,ol]
 have k1:o1.length=32:=k32 o1 (by simp [hos])
 have oat:∀ {v:Value} {i:Nat} {ks:List (List Int)} {Rv:List Nat},KoV Rv G6 v ks→K32 ks→∀k,ks[i]?=some k→∃p,xindexAddr Tryd.prog 23 v (.int .i64 (i:Nat))=some p∧notTuple p=true∧xload Tryd.prog 26 p G6=some (.agg (iv .u8 k).toArray):=by
  intro v i ks Rv hk h32 k hi
  obtain⟨p,y,n1,p1,n2,ey,ld⟩:=((hk.now h32).acc h32).at_ i (gsI.1 hi).1
  have ey:y=.agg (iv .u8 (ks.getD i [])).toArray:=ey
  rw [gdD,hi,Option.getD_some]at ey
  exact⟨p,p1,n1,ey▸ld G6 ⟨fun _ _=>rfl,nlE _⟩⟩
 obtain⟨pa,pa1,pa2,pa3⟩:=oat (i:=0) kp6 (fun k hk=>k32 k (List.mem_of_mem_drop hk)) o1 (by rw [hos];rfl)
 obtain⟨pb,pb1,pb2,pb3⟩:=oat (i:=1) ko6 k32 o1 (by rw [hos];rfl)
 have pa1:xindexAddr Tryd.prog 23 pv (.int .i64 0)=some pa:=pa1
 have pb1:xindexAddr Tryd.prog 23 ov (.int .i64 1)=some pb:=pb1
 have len1:=kl6.len
 have len2:=kp6.len
 have np:=kp6.nt
 have nl:=kl6.nt
 have no:=ko6.nt
 rw [hRl]at len1
 rw [show (os.drop 1).length=1 by rw [hos];rfl]at len2
 have len1:xlen Tryd.prog 23 lv=some (.int .i64 1):=len1
 have len2:xlen Tryd.prog 23 pv=some (.int .i64 1):=len2
 have hxb:(xx==zl 32)=false:=by rw [beq_eq_false_iff_ne];exact ox.2.2
 have hu:und Tryd.prog 23 = .slice 26 := by kernel_rfl
 have lda:∀ (n:Nat) (v:Value) (x y:List Int) (ty:Nat),x.length=32→y.length=32→hget G6 n=some ⟨bnC x y v,ty,none⟩→xload Tryd.prog 23 (.pointer (some ⟨n,64,none⟩)) G6=some v:=by
  intro n v x y ty hx hy hg
  simp [xload,hg,bnC_3 (v:=v) hx hy,isAggD,okD,hu]
 have ld5:=lda _ lv N1 N2 _ m1 m2 g5
 have ld7:=lda _ pv sI sP _ lI lP g7
 have ld2:=lda _ ov sI sP _ lI lP g2
 have ldk:∀ (n:Nat),hget G6 n=some ⟨iv .u8 xx, 26,none⟩→xload Tryd.prog 26 (.pointer (some ⟨n,0,none⟩)) G6=some (.agg (iv .u8 xx).toArray):=by
  intro n hg
  have ht:(iv .u8 xx).take 32=iv .u8 xx:=tkL (by simp [mx])
  simp [xload,hg,mx,ht]
 have ld4:=ldk _ g4
 have ld8:=ldk _ g8
 refine aw_seq ?_
 (refine aw_plan [] [] [0,1,2,3,4,5,6,7,8,9,10,11,12,13,14,15,16,17,18,19,20,21,22,23,24,25,26,27,28,29,30,31,32,33,34,35,36,37,38,39] 40 0 (by kernel_rfl) (by kernel_rfl) (by kernel_rfl) (fun K hK=>?_));simp only [sel,gcS,gdZ];simp (disch:=first|omega|simp only [lnS];try omega) [-getElem?_pos,-getElem?_neg,w6,w4,w5,w2,ld4,ld8,ld5,ld7,ld2,mx,hxb,pa1,pa2,pa3,pb1,pb2,pb3,len1,len2,np.1,nl.1,no.1,nt_aggG,nt_intG,nt_ptrG,-notTuple,-xlen,-xload,-xindexAddr,Nat.add_assoc]
 exact hK _ _ (by (refine aw_ret ?_;simp (disch:=first|omega|simp only [lnS];try omega) [-getElem?_pos,-getElem?_neg]))
end
end
section
def mAB:ByteArray:=⟨#[97,32]⟩
def mBB:ByteArray:=⟨#[98,32]⟩
def mtD:List (Option Nat):=[some 44,some 45,some 46,some 47,some 48,some 49,some 50,some 51,some 52,some 53,some 54,some 55,some 56,some 57,some 43,some 58,some 59,some 60,some 61,some 10,some 11,some 12,none,none,none,some 13]
def mtP:List (List Nat):=[[],[0],[],[2],[],[4],[3,5],[],[7],[],[9],[6,8,10],[],[1,6,11,12],[13],[14],[14],[14],[14],[],[],[],[0,1,2,3,4,5,6,7,8,9,10,11,12,13,14,15,19,20,21],[0,1,2,3,4,5,6,7,8,9,10,11,12,13,14,15,16,19,20,21,22],[0,1,2,3,4,5,6,7,8,9,10,11,12,13,14,15,16,17,19,20,21,22,23],[0,1,2,3,4,5,6,7,8,9,10,11,12,13,14,15,16,17,18,19,20,21,22,23,24]]
def mtV(n b n5 n7 ii lo:Nat)(pv:Value)(bI bP Na Nb NI NE one xx:List Int)(RS:List (List Int))(G:AH)(X:List Nat)(i:Nat)(v:Value):Prop:=match i with
 | 0=>v=.agg #[.pointer (some ⟨b,0,none⟩)]
 | 1=>v=.iface 43 (.agg #[.pointer (some ⟨b,0,none⟩)])
 | 2=>v=.pointer (some ⟨n5,0,none⟩)
 | 3=>v=.pointer (some ⟨b,0,none⟩)
 | 4=>v=.string (dg ii)
 | 5=>v=.string (mAB++dg ii)
 | 6=>v=.agg (iv .u8 Na).toArray
 | 7=>v=.pointer (some ⟨n5,0,none⟩)
 | 8=>v=.pointer (some ⟨b,0,none⟩)
 | 9=>v=.string (dg ii)
 | 10=>v=.string (mBB++dg ii)
 | 11=>v=.agg (iv .u8 Nb).toArray
 | 12=>v=.agg (bnC bI bP pv).toArray
 | 13=>∃w,v=.tuple #[.agg (hlC NI NE one).toArray,.agg (iv .u8 xx).toArray,.agg (bnC bI bP w).toArray,.int .i64 0]∧KoN lo X G w RS
 | 14=>∃w,v=.tuple #[.agg (hlC NI NE one).toArray,.agg (iv .u8 xx).toArray,.agg (bnC bI bP w).toArray,.int .i64 0]∧KoN lo X G w RS
 | 15=>v=.agg (hlC NI NE one).toArray
 | 16=>v=.agg (iv .u8 xx).toArray
 | 17=>∃w,v=.agg (bnC bI bP w).toArray∧KoN lo X G w RS
 | 18=>v=.int .i64 0
 | 25=>v=.int .i64 0
 | _=>True
def mtS(n b n5 n7 ii lo:Nat)(pv:Value)(bI bP Na Nb NI NE one xx:List Int)(RS:List (List Int)):List Slot:=[⟨some 19,10,22,iv .u8 (zl 96), 104,fun G X cs=>cs=hlC NI NE one⟩,⟨some 20,11,23,iv .u8 (zl 32), 26,fun G X cs=>cs=iv .u8 xx⟩,⟨some 21,12,24,iv .u8 (zl 64)++[.slice none 0 0], 101,fun G X cs=>∃w,cs=bnC bI bP w∧KoN lo X G w RS⟩]
theorem used_gone{U:List TermD}{sI sP bI bP:List Int}{os ps:List (List Int)}(h:MS U sI sP os bI bP ps)(h0:oneOf ps≠zl 32)(hl:U.length+os.length≤600000) :
  oneOf ps∉pubsN (os.drop 1) U:=by
 match os,ps,h.nS,h,hl with
 | [],[],_,h,hl=>exact absurd rfl h0
 | o::os,p::ps,hF,h,hl=>
  have hp:isN U p (mU o):=by cases hF with | cons h _=>exact h
  intro hm
  have hm:p∈pubsN os U:=hm
  simp only [List.length_cons]at hl
  obtain⟨g1,g2,g3⟩:=pubs_names (ks:=os) h.gd (fun k hk=>h.okO k (by simp [hk])) (by omega)
  obtain⟨o',ho',h2⟩:=g3.mem hm
  have he:=isN.term g1 (hp.up g2) h2
  have:o=o':=by have e:=congrArg TermD.keys he;exact List.head_eq_of_cons_eq e
  subst this
  exact (List.nodup_cons.1 h.nd).1 ho'
theorem again_ac{γ:Nat→Option Nat}{H0 G:AH}{Y:List Nat}{b:Nat}{U:List TermD}(hpw:Pw γ H0)(ko:Kt H0 Y G b U){sI sP bI bP a e NI NE x one:List Int}{os ps:List (List Int)}{w:Value}(hms:MS U sI sP os bI bP ps)(hgr:GrD U sI sP a e os NI NE x)(oA:Ok32 a)(oB:Ok32 e)(h1:one=oneOf ps)(lo:one.length=32)(bo:By one)(hK:KoV Y G w (os.drop 1))(ol:os.length≤8)(hT:U.length≤500000) :
  AC Tryd.prog H0.length γ 46 #[kitV b,.agg (bnC sI sP w).toArray,.agg (hlC NI NE one).toArray] G (fun v' H'=>∃ (A2:List Value) (K2:List Int) (T2:List TermD) (R2:List Nat),v'=.tuple #[.agg A2.toArray,.agg (iv .u8 K2).toArray,.int .i64 (if one=zl 32 then 0 else 22)]∧A2.length=65∧K2.length=32∧FrK H0 Y G b T2 R2 H'∧U <+: T2∧Gd T2∧T2.length≤U.length+16):=by
 have hk:∀k∈os.drop 1,k.length=32∧By k:=fun k hk=>hms.okO k (List.mem_of_mem_drop hk)
 have hd:(os.drop 1).length≤8:=by rw [List.length_drop];omega
 by_cases hz:one=zl 32
 ·have hp:ps=[]:=by
   cases hps:ps with
   | nil=>rfl
   | cons p l=>
    have:=hms.nS
    rw [hps]at this
    have hp:∃o,isN U p (mU o):=by cases this with | cons h _=>exact⟨_,h⟩
    obtain⟨o,ho⟩:=hp
    rw [hz,hps]at h1
    exact absurd h1.symm ho.k32.2.2
  have ho:os=[]:=List.length_eq_zero_iff.1 (by rw [←hms.nS.len,hp];rfl)
  subst ho
  obtain⟨n1,n2,n3,n4⟩:=ans_names hgr hms.okI hms.okP oA oB hms.okO (by omega)
  refine (ans_ac hpw ko hms.okI.1 hms.okI.2 hms.okP.1 hms.okP.2 hgr.gi.k32.1 hgr.gi.k32.2.1 hgr.gi.k32.2.2 hgr.ge.k32.1 hgr.ge.k32.2.1 hgr.ge.k32.2.2 lo bo hK hk (by omega) (by omega) (.inl ⟨hz,rfl,rfl,rfl⟩)).mono ?_
  rintro v' H' ⟨R,ov,rfl,fk,_⟩
  refine⟨bnC sI sP ov,ansN sI sP NI NE [] U,ansT sI sP NI NE [] U,R,?_,bnC_len hms.okI.1 hms.okP.1,?_,fk,n3,n2,Nat.le_trans n4 (by omega)⟩
  ·rw [if_pos hz]
  ·show (ansN sI sP NI NE (([]:List (List Int)).take 1) U).length=32
   rw [n1]
   obtain⟨_,_,h⟩:=hgr.gx
   exact h.k32.1
 ·have hg:=used_gone hms (by rw [←h1];exact hz) (by omega)
  rw [←h1]at hg
  obtain⟨g1,g2,_⟩:=pubs_names (ks:=os.drop 1) hms.gd hk (by omega)
  have l1:=pubsT_len (os.drop 1) U
  refine (ansN_ac hpw ko hms.okI.1 hms.okI.2 hms.okP.1 hms.okP.2 hgr.gi.k32.1 hgr.gi.k32.2.1 hgr.gi.k32.2.2 hgr.ge.k32.1 hgr.ge.k32.2.1 hgr.ge.k32.2.2 lo bo hK hk (by omega) (by omega) hz hg).mono ?_
  rintro v' H' ⟨rfl,q1,q2,q3⟩
  refine⟨iv .u8 (zl 64)++[Value.slice none 0 0],zl 32,_,[],?_,by simp,by simp,⟨q1,q2,q3,fun j hj=>by cases hj⟩,g2,g1,by omega⟩
  rw [if_neg hz]
end
end Go.Proofs.YtcidhpandnjmoaaDoor
