/-
  A stranger's keys of a frame.
-/
import Derived.Test.YtlaglpnbmkoakaaDoorFvF
namespace Go.Proofs.YtlaglpnbmkoakaaDoor
open Go Go.RowKit
set_option linter.unusedSimpArgs false
set_option linter.unusedVariables false
set_option maxRecDepth 100000
set_option maxHeartbeats 8000000
section
attribute [local simp] wb_bool wb_undef with_lit XL_nil XL_cons XLc_val XLc_call step1_eq stepW_t stepW_f stepC_n stepC_s stepX_s stepX_n stepN_s calleeX xrecv oneV xop_eq xopR_s xopR_n wantedA_eq wantedG_n wantedG_s plain1_int plain1_bool plain1_string bits_i64 bits_u64 bits_u32 bits_u16 bits_u8 xeqA xagg xcmp xarr allK_iv num_iv calleeOf xread xeff xbin xint xnil xun xstr xload xconv xpart xfield xfieldAddr xindexAddr xindex bnd asInt? xslice xlen xmin xmax xbuild xfill xappend xapp2 xappstr xappmk xcap xcopy xcells eval_tmp eval_const put_at put_none fr0_at cells_agg cells_int cells_bool cells_string cells_ptr cells_slice notTuple tab iv_all hget_app hget_app0 hget_cons0 hget_cons set_app set_app0 setR setR_one QL_nil QL_cons QLc_val stepQ_t stepQ_f stepQC_n stepQC_s stepQX_s SL_nil SL_cons SLc_val stepS_t stepS_f ltT ltF leT leF eqT eqF ltTn ltFn leTn leFn eqTn eqFn beqT beqF bneT bneF wi64 wu64 wu32 wu16 wu8 tmodP tdivP hgetL hgetNe hgetEq setL nums_def nums_len Nat.succ_le_of_lt List.getElem?_cons_zero List.getElem?_cons_succ Option.getD_some Int.toNat_add Int.toNat_mul agM okM agB agI agS agP agL agA okB okI okS okP okSl okA nt_strG nt_boolG nt_aggG nt_intG nt_ptrG nt_slG XO_s XO_z XLk_val XLk_call headsO behind List.length_cons List.length_nil List.mem_cons List.not_mem_nil or_false forall_eq_or_imp forall_eq List.contains_cons List.contains_nil XOm thenQ_ret scopeQ_ret inBlockQ_ret RQ resL resV
section
theorem fr_mid{E G G':AH}{K Fc F1 Fx:List Nat}(jf:Fr E G K (Fc++Fx))(f1:Fr G G' Fc F1)(jd:∀j∈Fx,j∉Fc)(hb:∀j∈Fc,j<G.length):Fr E G' K (F1++Fx):=by
 refine⟨by have:=jf.len;have:=f1.len;omega,fun j hj hn=>?_,fun j hj=>?_⟩
 ·rw [f1.out j (by have:=jf.len;omega) (fun e=>?_)]
  ·exact jf.out j hj hn
  ·rcases jf.new j (by simp [e]) with e2 | e2
   ·exact hn e2
   ·omega
 ·rcases maP.1 hj with e | e
  ·rcases f1.new j e with e2 | e2
   ·exact jf.new j (by simp [e2])
   ·have:=jf.len;exact .inr (by omega)
  ·exact jf.new j (by simp [e])
theorem fr_dis{G G':AH}{Fc F1 Fx:List Nat}(f1:Fr G G' Fc F1)(jd:∀j∈Fx,j∉Fc)(hx:∀j∈Fx,j<G.length):∀j∈Fx,j∉F1:=fun j hj e=>by
 rcases f1.new j e with e2 | e2
 ·exact jd j hj e2
 ·have:=hx j hj;omega
theorem fr_own{E G G':AH}{K Fc F3 Fx:List Nat}(jf:Fr E G K (Fc++Fx))(hl:G.length≤G'.length)(hk:∀j,j<G.length→j∉Fx→hget G' j=hget G j)(h3:∀j∈F3,G.length≤j):Fr E G' K (Fc++F3):=by
 refine⟨by have:=jf.len;omega,fun j hj hn=>?_,fun j hj=>?_⟩
 ·rw [hk j (by have:=jf.len;omega) (fun e=>?_)]
  ·exact jf.out j hj hn
  ·rcases jf.new j (by simp [e]) with e2 | e2
   ·exact hn e2
   ·omega
 ·rcases maP.1 hj with e | e
  ·exact jf.new j (by simp [e])
  ·have:=h3 j e;have:=jf.len;exact .inr (by omega)
@[reducible] def FkR (E:AH) (b:Nat) (F Fo:List Nat) (T T1:List TermD) (ov:Value) (ks ks':List (List Int)) (X Y:List Int) (s:Array Bool) (α:Fm) (G:AH):Prop:=
 ∃Fc Fx,Fr E G (F++Fo) (Fc++Fx)∧Tbl G b Fc (if s.getD 8 false=true then T1 else T)∧(∀j∈Fx,j∉Fc)∧(s.getD 10 false=false→OwnX G ov ks Fx) ∧
  (s.getD 9 false=true→s.getD 10 false=false→∃r,α 50=.slice (some ⟨r,0,none⟩) 2 2∧r∉Fc∧r∉Fx∧hget G r=some ⟨iv .u8 X++iv .u8 Y, 41,some 32⟩) ∧
  (s.getD 10 false=true→OwnX G (α 51) ks' Fx)∧(s.getD 11 false=false→α 5=ov)∧(s.getD 11 false=true→OwnX G (α 5) ks' Fx)
theorem FkR.keep{E:AH}{b:Nat}{F Fo:List Nat}{T T1:List TermD}{ov:Value}{ks ks':List (List Int)}{X Y:List Int}{s:Array Bool}{α:Fm}{G:AH}{i t:Nat}{v:Value}(hi:i∉[8,9,10,11])(ht:t∉[50,51,5])(h:FkR E b F Fo T T1 ov ks ks' X Y s α G):FkR E b F Fo T T1 ov ks ks' X Y (s.setIfInBounds i true) (α.put (some t) v) G:=by
 simp only [mcN,not_or]at hi ht
 obtain⟨Fc,Fx,w1,w2,w3,w4,w5,w6,w7,w8⟩:=h
 have p0:(α.put (some t) v) 50=α 50:=by simp [put_at,Ne.symm ht.1]
 have p1:(α.put (some t) v) 51=α 51:=by simp [put_at,Ne.symm ht.2.1]
 have p5:(α.put (some t) v) 5=α 5:=by simp [put_at,Ne.symm ht.2.2]
 refine⟨Fc,Fx,w1,by rw [gs_ne hi.1];exact w2,w3,by rw [gs_ne hi.2.2.1];exact w4,?_,?_,?_,?_⟩
 ·rw [gs_ne hi.2.1,gs_ne hi.2.2.1,p0];exact w5
 ·rw [gs_ne hi.2.2.1,p1];exact w6
 ·rw [gs_ne hi.2.2.2,p5];exact w7
 ·rw [gs_ne hi.2.2.2,p5];exact w8
theorem bx_pub{G:AH}{w:Nat}{us:List Value}{z:BoxD}(h:∃H:AH,BoxC H us z)(hb:hget G w=some ⟨us, 80,none⟩):xload Tryd.prog 41 (.pointer (some ⟨w,1,none⟩)) G=some (.agg (iv .u8 z.pub).toArray):=by
 obtain⟨H,h⟩:=h
 have g3:isAggD (und Tryd.prog 41)=true:=by kernel_rfl
 have s3:szt Tryd.prog 41 = 32:=by kernel_rfl
 have h1:us.tail.take 32=iv .u8 z.pub:=by rw [←List.drop_one];exact h.pub
 have h2:=h.len
 simp [xload,hb,g3,s3,h1,h2]
theorem bx_body{G:AH}{w:Nat}{us:List Value}{z:BoxD}(h:∃H:AH,BoxC H us z)(hb:hget G w=some ⟨us, 80,none⟩):xload Tryd.prog 9 (.pointer (some ⟨w,35,none⟩)) G=some (.string z.body):=by
 obtain⟨H,h⟩:=h
 have f3:isAggD (und Tryd.prog 9)=false∧okD (und Tryd.prog 9)=true:=⟨by kernel_rfl,by kernel_rfl⟩
 have h1:=h.c35
 simp [xload,hb,f3.1,f3.2,h1]
def fkAD:List (Option Nat):=[some 41,some 42,some 43,some 44,some 45,some 46,some 47,some 48,some 49,some 50,some 51,some 5]
def fkAP:List (List Nat):=[[],[],[1],[2],[],[4],[],[6],[5,7],[3,8],[0,8,9],[0,1,2,3,4,5,6,7,8,9,10]]
def fkAV(n b w:Nat)(ov:Value)(X Y:List Int)(tx:ByteArray)(i:Nat)(v:Value):Prop:=match i with
 | 0=>v=ov
 | 1=>v=.pointer (some ⟨w,1,none⟩)
 | 2=>v=.pointer (some ⟨w,1,none⟩)
 | 3=>v=.agg (iv .u8 X).toArray
 | 4=>v=.pointer (some ⟨n,0,none⟩)
 | 5=>v=.pointer (some ⟨b,0,none⟩)
 | 6=>v=.pointer (some ⟨w,35,none⟩)
 | 7=>v=.string tx
 | 8=>v=.agg (iv .u8 Y).toArray
 | _=>True
theorem fkA_nd:∀i j t:Nat,fkAD[i]?=some (some t)→fkAD[j]?=some (some t)→i=j:=by
 have h:∀i<12,∀j<12,∀t:Nat,fkAD[i]?=some (some t)→fkAD[j]?=some (some t)→i=j:=by
  intro i hi j hj t h1 h2
  have h3:fkAD[i]?=fkAD[j]?:=h1.trans h2.symm
  have h4:(fkAD[i]?.bind id).isSome=true:=by rw [h1];rfl
  revert h3 h4
  clear h1 h2
  revert i j
  decide
 intro i j t hi hj
 exact h i (gsI.1 hi).1 j (gsI.1 hj).1 t hi hj
theorem markF_ac{nro:Nat}{γ:Nat→Option Nat}{H:AH}(hp:Pw γ H){b:Nat}{F:List Nat}{T:List TermD}(h:Tbl H b F T)(hnro:∀j∈F,nro≤j)(hnH:nro≤H.length){s:ByteArray}(hs1:s.size≤10000000)(hT:T.length≤1000000) :
  AC Tryd.prog nro γ 26 #[.pointer (some ⟨b,0,none⟩),.string s] H (fun v' H'=>v'=.agg (iv .u8 (markV T s)).toArray∧∃F',Fr H H' F F'∧Tbl H' b F' (markT T s)):=
 (mark_ac hp h hnro hnH hs1 hT).mono fun v' H' hq=>by
  unfold MarkQ at hq
  unfold markT markV
  by_cases h32:s.size=32
  ·rw [if_pos h32]at hq ⊢
   rw [if_pos h32]
   exact⟨hq.1,F,low_fr F hq.2,h.low (fun j hj=>hq.2.1 j (h.bound j hj)) hq.2.2⟩
  ·rw [if_neg h32]at hq ⊢
   rw [if_neg h32]
   exact hq.fr
end
section
structure FramD.Sm (x:FramD):Prop where
 parents:x.op.parents.length≤30
 boxes:x.op.boxes.length≤30
 text:x.op.text.size≤600
 body:∀z∈x.op.boxes,z.body.size≤600
 ids:x.ids.length≤40
theorem sm_of{x:FramD}(hg:greatO x.op=false)(hi:x.ids.length≤40):x.Sm:=by
 unfold greatO at hg
 simp only [Bool.or_eq_false_iff,decide_eq_false_iff_not]at hg
 obtain⟨h1,h2,h3,h4,h5⟩:=hg
 refine⟨by omega,by omega,by omega,fun z hz=>?_,hi⟩
 obtain⟨k,hk,rfl⟩:=List.getElem_of_mem hz
 have:=List.any_eq_false.1 h5 k (List.mem_range.2 hk)
 simp only [decide_eq_true_eq]at this
 unfold bodyAt at this
 rw [geE hk]at this
 simp at this
 omega
structure KOk (s:KSt) (m n:Nat):Prop where
 k:∀k∈s.2,k.length=32∧By k
 m:s.2.length≤m
 n:s.1.length≤n
theorem markV_ok{T:List TermD}{s:ByteArray}:(markV T s).length=32∧By (markV T s):=by
 unfold markV
 by_cases h:s.size=32
 ·rw [if_pos h]
  exact⟨by rw [nums_len,h],fun x hx=>nums_bd s x hx⟩
 ·rw [if_neg h]
  exact⟨nmL_len _,nmL_by _⟩
theorem mkT_len{T:List TermD}{s:ByteArray}:(markT T s).length≤T.length+1:=by
 unfold markT addT
 split
 ·omega
 ·split
  ·omega
  ·simp
theorem KOk.mk_{s:KSt}{m n:Nat}(h:KOk s m n)(x:ByteArray):KOk (mkS s x) (m+1) (n+1):=by
 refine⟨fun k hk=>?_,?_,?_⟩
 ·rcases maP.1 hk with e | e
  ·exact h.k k e
  ·rw [msG.1 e];exact markV_ok
 ·have:=h.m;show (s.2++[_]).length≤_;simp;omega
 ·have:=h.n;have:=mkT_len (T:=s.1) (s:=x);show (markT s.1 x).length≤_;omega
theorem KOk.bx{s:KSt}{m n:Nat}(h:KOk s m n){z:BoxD}(hz:z.Wf):KOk (bxS s z) (m+2) (n+1):=by
 refine⟨fun k hk=>?_,?_,?_⟩
 ·rcases maP.1 hk with e | e
  ·exact h.k k e
  ·simp only [mcN]at e
   rcases e with rfl | rfl
   ·exact⟨hz.pub.1,hz.pub.2⟩
   ·exact markV_ok
 ·have:=h.m;show (s.2++[_,_]).length≤_;simp;omega
 ·have:=h.n;have:=mkT_len (T:=s.1) (s:=z.body);show (markT s.1 z.body).length≤_;omega
theorem KOk.less{s:KSt}{m n m' n':Nat}(h:KOk s m n)(hm:m≤m')(hn:n≤n'):KOk s m' n':=⟨h.k,by have:=h.m;omega,by have:=h.n;omega⟩
theorem kok_0{T:List TermD}{x:FramD}(hw:x.Wf)(hs:x.Sm):KOk (T,x.op.parents++[x.op.of,x.op.check]) 32 T.length:=by
 refine⟨fun k hk=>?_,?_,nlE _⟩
 ·rcases maP.1 hk with e | e
  ·exact⟨(hw.op.parents k e).1,(hw.op.parents k e).2⟩
  ·simp only [mcN]at e
   rcases e with rfl | rfl
   ·exact⟨hw.op.of.1,hw.op.of.2⟩
   ·exact⟨hw.op.check.1,hw.op.check.2⟩
 ·have:=hs.parents;show (x.op.parents++[_,_]).length≤_;simp;omega
theorem kok_hd{T:List TermD}{x:FramD}(hw:x.Wf)(hs:x.Sm):KOk (hdS T x.op) 33 (T.length+1):=by
 have h:=kok_0 (T:=T) hw hs
 unfold hdS
 split
 ·exact h.mk_ _
 ·exact h.less (by omega) (by omega)
theorem kok_fold{m n:Nat}:∀ (l:List BoxD) (s:KSt),KOk s m n→(∀z∈l,z.Wf)→KOk (l.foldl bxS s) (m+2*l.length) (n+l.length)
 | [],s,h,_=>h
 | z::l,s,h,hw=>by
  have:=kok_fold l (bxS s z) (h.bx (hw z (by simp))) (fun y hy=>hw y (by simp [hy]))
  exact this.less (by simp;omega) (by simp;omega)
theorem kok_take{T:List TermD}{x:FramD}(hw:x.Wf)(hs:x.Sm)(i:Nat):KOk ((x.op.boxes.take i).foldl bxS (hdS T x.op)) 93 (T.length+31):=by
 have h:=kok_fold (x.op.boxes.take i) _ (kok_hd (T:=T) hw hs) (fun z hz=>hw.op.boxes z (List.mem_of_mem_take hz))
 have:=hs.boxes
 have hl:(x.op.boxes.take i).length≤30:=by rw [List.length_take];omega
 exact h.less (by omega) (by omega)
def BxP(H:AH)(F:List Nat)(v:Value)(l:List BoxD):Prop:=∀G:AH,H.length≤G.length→(∀j,j<H.length→j∉F→hget G j=hget H j)→BxV G v l
theorem BxP.fr{H H':AH}{F F':List Nat}{v:Value}{l:List BoxD}(h:BxP H F v l)(f:Fr H H' F F'):BxP H' F' v l:=fun G hl hg=>h G (Nat.le_trans f.len hl) (fun j hj hn=>by
 rw [hg j (Nat.lt_of_lt_of_le hj f.len) (fun e=>?_),f.out j hj hn]
 rcases f.new j e with e1 | e1
 ·exact hn e1
 ·omega)
theorem BxP.now{H:AH}{F:List Nat}{v:Value}{l:List BoxD}(h:BxP H F v l):BxV H v l:=h H (nlE _) (fun _ _ _=>rfl)
def KyQ(H:AH)(b:Nat)(F:List Nat)(S:KSt)(v':Value)(H':AH):Prop:=∃F' Fo,Fr H H' F (F'++Fo)∧Tbl H' b F' S.1∧OwnX H' v' S.2 Fo∧∀j∈Fo,j∉F'
theorem bx_take{l:List BoxD}{i:Nat}{z:BoxD}(h:l[i]?=some z)(s:KSt):(l.take (i+1)).foldl bxS s=bxS ((l.take i).foldl bxS s) z:=by
 rw [List.take_add_one,h,List.foldl_append]
 rfl
theorem fkeys_ac{γ:Nat→Option Nat}{H0 H:AH}(hpw:Pw γ H0)(lw0:Low H0.length H0 H){b:Nat}{F:List Nat}{T:List TermD}(h:Tbl H b F T)(hnro:∀j∈F,H0.length≤j){x:FramD}(hw:x.Wf)(hs:x.Sm){pv wv bv qv:Value}(hp:KsP H F pv x.op.parents)(hb:BxP H F bv x.op.boxes)(hq:KsP H F qv x.ids)(hT:T.length≤10000) :
  AC Tryd.prog H0.length γ 16 #[.agg #[.pointer (some ⟨b,0,none⟩)],.agg (frRow x pv wv bv qv).toArray] H (KyQ H b F (keysS T x)):=by
 have pnt:=hp.nt
 have qnt:=hq.nt
 have bnt:=val_nt hb.now
 obtain⟨C,hC⟩:∃C,C=frRow x pv wv bv qv:=⟨_,rfl⟩
 have cl:C.length=74:=by rw [hC];simp [frRow,opRow_len hw.op]
 have tC:C.take 74=C:=tkL (by omega)
 obtain⟨n,hn⟩:∃n,n=H.length:=⟨_,rfl⟩
 obtain⟨B,hB⟩:∃B:AH,B=H++[some ⟨[.pointer (some ⟨b,0,none⟩)], 27,none⟩,some ⟨C, 51,none⟩]:=⟨_,rfl⟩
 have gT:hget B n=some ⟨[.pointer (some ⟨b,0,none⟩)], 27,none⟩:=by rw [hB,hn,hget_app0];rfl
 have gF:hget B (n+1)=some ⟨C, 51,none⟩:=by rw [hB,hn,hget_app];rfl
 have lwB:Low H.length H B:=by rw [hB];exact Low.push (nlE _) _
 have hBl:B.length=n+2:=by rw [hB,hn];simp
 have hFl:=h.bound
 have tB:Tbl B b F T:=h.low (fun j hj=>lwB.1 j (hFl j hj)) lwB.2
 have f0:Fr H B F F:=low_fr F lwB
 have nF:n∉F:=fun e=>by have:=hFl _ e;omega
 have mF:n+1∉F:=fun e=>by have:=hFl _ e;omega
 have hl0:=lw0.2
 rw [←hC]
 refine ac_of_aw Tryd.func16 rfl Tryd.ntmps16 Tryd.results16 (by simp) ?_
 (refine aso fun K hK=>?_;simp (disch:=first|omega|simp only [lnS];try omega) [-getElem?_pos,-getElem?_neg,cl,tC];refine hK _ _ ?_;clear hK K)
 rw [←hn,←hB]
 clear hB
 rw [hC]at gF
 clear hC cl tC
 have fb:=frB hw gF
 have l1:(iv .u8 x.op.of).length=32:=by rw [iv_length];exact hw.op.of.1
 have l2:(iv .u8 x.op.check).length=32:=by rw [iv_length];exact hw.op.check.1
 have t1:(iv .u8 x.op.of).take 32=iv .u8 x.op.of:=tkL (by omega)
 have t2:(iv .u8 x.op.check).take 32=iv .u8 x.op.check:=tkL (by omega)
 have hrow:setR (setR (List.map (fun j=>(iv .u8 (zl 32))[j%32]?.getD undef) (List.range 64)) 0 (iv .u8 x.op.of)) 32 (iv .u8 x.op.check)=iv .u8 x.op.of++iv .u8 x.op.check:=row2 (by simp) l1 l2
 have r2:List.range 2=[0,1]:=rfl
 have hpl:plain1 (.slice none 0 0)=true:=rfl
 obtain⟨N2,hN2⟩:∃N2:AH,N2=[some ⟨iv .u8 x.op.of++iv .u8 x.op.check, 41,some 32⟩,some ⟨[pv,.slice (some ⟨B.length,0,none⟩) 2 2], 34,some 1⟩]:=⟨_,rfl⟩
 have g2:hget (B++N2) B.length=some ⟨iv .u8 x.op.of++iv .u8 x.op.check, 41,some 32⟩:=by rw [hget_app0,hN2];rfl
 have g3:hget (B++N2) (B.length+1)=some ⟨[pv,.slice (some ⟨B.length,0,none⟩) 2 2], 34,some 1⟩:=by rw [hget_app,hN2];rfl
 have lN2:(B++N2).length=B.length+2:=by rw [hN2];simp
 have two:∀z∈[x.op.of,x.op.check],z.length=32:=fun z hz=>by
  simp only [mcN]at hz
  rcases hz with rfl | rfl
  ·exact hw.op.of.1
  ·exact hw.op.check.1
 have p32:K32 x.op.parents:=fun k hk=>(hw.op.parents k hk).1
 have hsp:=hs.parents
 have hcc:=concatK_ac (nro:=H0.length) (γ:=γ) (H:=B++N2) (v:=undef) (j:=B.length+1) (xs:=[pv,.slice (some ⟨B.length,0,none⟩) 2 2]) (L:=[x.op.parents,[x.op.of,x.op.check]]) (fun l hl=>by
   simp only [mcN]at hl
   rcases hl with rfl | rfl
   ·exact p32
   ·exact two) g3 rfl (fun i v c hx1 hc1=>by
   match i,hx1,hc1 with
   | 0,hx1,hc1=>
    cases hx1
    cases hc1
    exact ((hp.fr (f0.push N2)).now).part p32
   | 1,hx1,hc1=>
    cases hx1
    cases hc1
    exact (keys2 hw.op.of.1 hw.op.check.1 g2).part two
   | i+2,hx1,hc1=>simp at hx1) (by simp [sumK];omega) (by simp) (by omega)
 have hfl:[x.op.parents,[x.op.of,x.op.check]].flatten=x.op.parents++[x.op.of,x.op.check]:=by simp
 rw [hfl,hN2]at hcc
 refine aso fun K hK=>?_
 simp (disch:=first|omega|simp only [lnS];try omega) [-getElem?_pos,-getElem?_neg,-xload,fb.parents,fb.of,fb.check,l1,l2,t1,t2,hrow,r2,hpl,-notTuple,pnt.1,pnt.2]
 refine⟨by kernel_rfl,AC.mono hcc ?_⟩
 rintro v1 G ⟨ho,hlG,hkG⟩
 rw [←hN2]at ho hlG hkG
 obtain⟨Fo,o1,hFo⟩:=ho.x
 have ont:=o1.k.nt
 have lwG:Low B.length B G:=⟨fun j hj=>(hkG j (by omega)).trans (hget_left hj),by omega⟩
 try simp (disch:=first|omega|simp only [lnS];try omega) [-getElem?_pos,-getElem?_neg,-notTuple,ont.1,ont.2]
 refine hK _ _ ?_;clear hK K
 have tG:Tbl G b F T:=tB.low (fun j hj=>lwG.1 j (by have:=hFl j hj;omega)) lwG.2
 have d1:∀j∈Fo,j∉F:=fun j hj e=>by have:=hFo j hj;have:=hFl j e;omega
 have f1:Fr B G F (F++Fo):=⟨lwG.2,fun j hj _=>lwG.1 j hj,fun j hj=>by
  rcases maP.1 hj with e | e
  ·exact .inl e
  ·have:=hFo j e;exact .inr (by omega)⟩
 clear ho hkG hcc g2 g3 lwG hFo hlG hN2 lN2 N2
 refine aw_seq ?_
 refine aw_cut (fun α G=>∃ (F1 Fo:List Nat) (ov:Value),α 2=.pointer (some ⟨n,0,none⟩)∧α 3=.pointer (some ⟨n+1,0,none⟩)∧α 5=ov∧Fr B G F (F1++Fo)∧Tbl G b F1 (hdS T x.op).1∧OwnX G ov (hdS T x.op).2 Fo∧∀j∈Fo,j∉F1) ?_ ?_
 ·have gT1:=(f1.out n (by omega) nF).trans gT
  have gF1:=(f1.out (n+1) (by omega) mF).trans gF
  have fb1:=frB hw gF1
  have ldT:=ld_tb gT1
  have hk0:=kok_0 (T:=T) hw hs
  refine aw_seq ?_
  by_cases h7:x.op.kind=7
  ·have hd:hdS T x.op=mkS (T,x.op.parents++[x.op.of,x.op.check]) x.op.text:=by unfold hdS;rw [if_pos h7]
   rw [hd]
   have hmk:=markF_ac (nro:=H0.length) (γ:=γ) (H:=G) (hpw.low (lowFr lw0 hnro (f0.trans f1))) tG hnro (by have:=f1.len;omega) (s:=x.op.text) (by have:=hs.text;omega) (by omega)
   obtain⟨Y,hY⟩:∃Y,Y=markV T x.op.text:=⟨_,rfl⟩
   have lY:Y.length=32:=by rw [hY];exact markV_ok.1
   have tY:(iv .u8 Y).take 32=iv .u8 Y:=tkL (by rw [iv_length];omega)
   have rY:setR (List.map (fun j=>(iv .u8 (zl 32))[j%32]?.getD undef) (List.range 32)) 0 (iv .u8 Y)=iv .u8 Y:=setR_all _ _ (by simp [lY])
   rw [←hY]at hmk
   (refine aoo fun K hK=>?_;simp (disch:=first|omega|simp only [lnS];try omega) [-getElem?_pos,-getElem?_neg,-xload,fb1.kind,h7,-notTuple];refine hK _ _ ?_;clear hK K)
   refine awt (by simp<;>omega) ?_
   refine aoo fun K hK=>?_
   simp (disch:=first|omega|simp only [lnS];try omega) [-getElem?_pos,-getElem?_neg,-xload,ldT,fb1.text,-notTuple,ont.1,ont.2]
   refine⟨by kernel_rfl,AC.mono hmk ?_⟩
   rintro v2 G2 ⟨rfl,F2,f2,t2'⟩
   have o2:OwnX G2 v1 (x.op.parents++[x.op.of,x.op.check]) Fo:=o1.low (fun j hj=>f2.out j (o1.lt j hj) (d1 j hj))
   have o2p:OwnX (G2++[some ⟨iv .u8 Y, 41,some 32⟩]) v1 (x.op.parents++[x.op.of,x.op.check]) Fo:=o2.low (fun j hj=>hget_left (o2.lt j hj))
   have gY:hget (G2++[some ⟨iv .u8 Y, 41,some 32⟩]) G2.length=some ⟨iv .u8 Y, 41,some 32⟩:=by rw [hget_app0];rfl
   have one:∀z∈[Y],z.length=32:=fun z hz=>by rw [msG.1 hz];exact lY
   obtain⟨v3,G3,F3,hap,o3,hl3,hk3,hF3⟩:=ownX_append (nro:=H0.length) (x:=.slice (some ⟨G2.length,0,none⟩) 1 1) (fun k hk=>(hk0.k k hk).1) one o2p (fun j hj=>by have:=(f0.trans f1).lo hnro hl0 j (by simp [hj]);exact this) (fun s e=>by cases e) ((keys1 lY gY).part one |>.2 _ (fun _ _=>rfl)) (by have:=hk0.m;simp at this ⊢;omega)
   have n3:=o3.k.nt
   try simp (disch:=first|omega|simp only [lnS];try omega) [-getElem?_pos,-getElem?_neg,lY,tY,rY,hpl,-xappend,hap,-notTuple,ont.1,ont.2,n3.1,n3.2]
   refine hK _ _ ?_;clear hK K
   have hl2:(G2++[some (⟨iv .u8 Y, 41,some 32⟩:Blk)]).length=G2.length+1:=by simp
   refine⟨F2,F3,v3,by (first|simp;done|rfl),by (first|simp;done|rfl),by (first|simp;done|rfl),fr_own ((fr_mid f1 f2 d1 tG.bound).push _) hl3 hk3 hF3,?_,by show OwnX G3 v3 (x.op.parents++[x.op.of,x.op.check]++[markV T x.op.text]) F3;rw [←hY];exact o3,fun j hj e=>?_⟩
   ·exact (t2'.push _).low (fun j hj=>hk3 j (by have:=t2'.bound j hj;omega) (fun e=>fr_dis f2 d1 o1.lt j e hj)) hl3
   ·have:=hF3 j hj
    have:=t2'.bound j e
    omega
  ·have hd:hdS T x.op=(T,x.op.parents++[x.op.of,x.op.check]):=by unfold hdS;rw [if_neg h7]
   rw [hd]
   (refine aoo fun K hK=>?_;simp (disch:=first|omega|simp only [lnS];try omega) [-getElem?_pos,-getElem?_neg,-xload,fb1.kind,h7,-notTuple];refine hK _ _ ?_;clear hK K)
   refine awf (by simp<;>omega) ?_
   refine aw_skip ?_
   exact⟨F,Fo,v1,by (first|simp;done|rfl),by (first|simp;done|rfl),by (first|simp;done|rfl),f1,tG,o1,d1⟩
 rintro α G1 ⟨F1,Fo1,ov,e2,e3,e5,f1',tG1,o1',d1'⟩
 clear f1 tG o1 d1 ont
 have gF1:=(f1'.out (n+1) (by omega) mF).trans gF
 have fb1:=frB hw gF1
 have hbl:=(hb.now.acc hw.op.boxes).len
 have hblm:x.op.boxes.length≤30:=hs.boxes
 refine aw_seq (aw_seq ?_)
 (refine aoo fun K hK=>?_;simp (disch:=first|omega|simp only [lnS];try omega) [-getElem?_pos,-getElem?_neg,e3,-xload,fb1.boxes,-xlen,hbl,-notTuple,bnt.1,bnt.2];refine hK _ _ ?_;clear hK K)
 refine aw_block ?_
 refine aw_loop (fun q α G=>∃ (i:Nat) (F1 Fo:List Nat) (ov:Value),i+q=x.op.boxes.length∧α 2=.pointer (some ⟨n,0,none⟩)∧α 3=.pointer (some ⟨n+1,0,none⟩)∧α 5=ov∧α 35=bv∧α 36=.int .i64 (x.op.boxes.length:Nat)∧α 37=.int .i64 (i:Nat)∧Fr B G F (F1++Fo)∧Tbl G b F1 ((x.op.boxes.take i).foldl bxS (hdS T x.op)).1∧OwnX G ov ((x.op.boxes.take i).foldl bxS (hdS T x.op)).2 Fo∧∀j∈Fo,j∉F1) x.op.boxes.length ?_ ?_
 ·exact⟨0,F1,Fo1,ov,by omega,by (first|simp [e2];done|rfl),by (first|simp [e3];done|rfl),by (first|simp [e5];done|rfl),by (first|simp;done|rfl),by (first|simp;done|rfl),by (first|simp;done|rfl),f1',tG1,o1',d1'⟩
 clear e2 e3 e5 f1' tG1 o1' d1' gF1 fb1 α G1 ov F1 Fo1
 rintro q α G1 ⟨i,F1,Fo1,ov,hiq,e2,e3,e5,e35,e36,e37,f1,tG1,o1,d1⟩
 have ont2:=o1.k.nt
 have ont:=ont2.1
 have hk:=kok_take (T:=T) hw hs i
 have fH:=f0.trans f1
 have hlen1:=f1.len
 refine aw_seq ?_
 by_cases hi:i<x.op.boxes.length
 ·have hi':(i:Int)<x.op.boxes.length:=by omega
  have hbG:=(hb.fr fH).now
  obtain⟨p,u,q1,q2,q3,⟨us,z,rfl,hz,bC0⟩,q4⟩:=(hbG.acc hw.op.boxes).at_ i hi
  have q4:=q4 G1 (Low.refl (nlE _))
  have hzm:=moG hz
  have hzw:=hw.op.boxes z hzm
  have htk:=bx_take hz (hdS T x.op)
  have ul:=bC0.len
  have tU:us.take 36=us:=tkL (by omega)
  have sU:∀Z:List Value,Z.length=36→setR Z 0 us=us:=fun Z hZ=>setR_all _ _ (by omega)
  obtain⟨E,hE⟩:∃E:AH,E=G1++[some ⟨us, 80,none⟩]:=⟨_,rfl⟩
  have lwE0:Low G1.length G1 E:=by rw [hE];exact Low.push (nlE _) _
  have gB:hget E G1.length=some ⟨us, 80,none⟩:=by rw [hE,hget_app0];rfl
  have hnG1:H0.length≤G1.length:=by omega
  (refine aoo fun K hK=>?_;simp (disch:=first|omega|simp only [lnS];try omega) [-getElem?_pos,-getElem?_neg,e36,e37,hi'];refine hK _ _ ?_;clear hK K)
  refine aw_seq ?_
  refine awt (by simp<;>omega) ?_
  refine aw_skip (aw_seq ?_)
  refine aw_block ?_
  (refine aso fun K hK=>?_;simp (disch:=first|omega|simp only [lnS];try omega) [-getElem?_pos,-getElem?_neg,e35,e37,-xload,q4,-xindexAddr,q2,q1,bnt.1,bnt.2,-notTuple,ul,tU,sU,hpl,hnG1];refine hK _ _ ?_;clear hK K)
  rw [←hE]
  clear hE
  generalize hS:(x.op.boxes.take i).foldl bxS (hdS T x.op)=S at *
  obtain⟨T1,ks⟩:=S
  simp only at tG1 o1
  have hkl:=hk.m
  have hTl:=hk.n
  simp only at hkl hTl
  have hks32:K32 ks:=fun k hkk=>(hk.k k hkk).1
  obtain⟨Y,hY⟩:∃Y,Y=markV T1 z.body:=⟨_,rfl⟩
  obtain⟨T2,hT1⟩:∃T2,T2=markT T1 z.body:=⟨_,rfl⟩
  have hSx:bxS (T1,ks) z=(T2,ks++[z.pub,Y]):=by unfold bxS;rw [hY,hT1]
  rw [hSx]at htk
  have htx:z.body.size≤10000000:=by have:=hs.body z hzm;omega
  have hTm:T1.length≤1000000:=by omega
  have lXl:=hzw.pub.1
  have lYl:Y.length=32:=by rw [hY];exact markV_ok.1
  have h2k:∀k∈[z.pub,Y],k.length=32:=fun k hkk=>by
   simp only [mcN]at hkk
   rcases hkk with rfl | rfl
   ·exact lXl
   ·exact lYl
  have hsz:ks.length+[z.pub,Y].length≤1000000000:=by simp;omega
  have bC:∃H:AH,BoxC H us z:=⟨_,bC0⟩
  obtain⟨w,hwd⟩:∃w,w=G1.length:=⟨_,rfl⟩
  have tE:Tbl E b F1 T1:=tG1.low (fun j hj=>lwE0.1 j (tG1.bound j hj)) lwE0.2
  have oE:OwnX E ov ks Fo1:=o1.low (fun j hj=>lwE0.1 j (o1.lt j hj))
  have fE:Fr B E F (F1++Fo1):=f1.trans (low_fr _ lwE0)
  have lwE:Low H0.length H0 E:=lowFr lw0 hnro (f0.trans fE)
  have hnE:H0.length≤E.length:=lwE.2
  have hnro':∀j∈F1++Fo1,H0.length≤j:=(f0.trans fE).lo hnro hl0
  have gT1:=(fE.out n (by omega) nF).trans gT
  have nT:n∉F1++Fo1:=fun e=>by
   rcases fE.new n e with e' | e'
   ·exact nF e'
   ·omega
  have nB:w∉F1++Fo1:=fun e=>by
   rcases maP.1 e with e' | e'
   ·have:=tG1.bound _ e';omega
   ·have:=o1.lt _ e';omega
  rw [←hwd]at gB
  refine name_aw (fun β hβ=>?_)
  have e2':β 2=.pointer (some ⟨n,0,none⟩):=by rw [hβ];(first|simp [e2];done|rfl)
  have e3':β 3=.pointer (some ⟨n+1,0,none⟩):=by rw [hβ];(first|simp [e3];done|rfl)
  have e5':β 5=ov:=by rw [hβ];(first|simp [e5];done|rfl)
  have e7:β 7=.pointer (some ⟨w,0,none⟩):=by rw [hβ,hwd];(first|simp;done|rfl)
  have e35':β 35=bv:=by rw [hβ];(first|simp [e35];done|rfl)
  have e36':β 36=.int .i64 (x.op.boxes.length:Nat):=by rw [hβ];(first|simp [e36];done|rfl)
  have e37':β 37=.int .i64 (i:Nat):=by rw [hβ];(first|simp [e37];done|rfl)
  clear hβ e2 e3 e5 e35 e36 e37
  have e2:=e2'
  have gT:=gT1
  have hnro:=hnro'
  have lX:(iv .u8 z.pub).length=32:=by rw [iv_length];exact lXl
  have lY:(iv .u8 Y).length=32:=by rw [iv_length];exact lYl
  have tX:(iv .u8 z.pub).take 32=iv .u8 z.pub:=tkL (by omega)
  have tY:(iv .u8 Y).take 32=iv .u8 Y:=tkL (by omega)
  have hrow:setR (setR (List.map (fun j=>(iv .u8 (zl 32))[j%32]?.getD undef) (List.range 64)) 0 (iv .u8 z.pub)) 32 (iv .u8 Y)=iv .u8 z.pub++iv .u8 Y:=row2 (by simp) lX lY
  refine aw_inv fkAP (JT fkAD (fkAV n b w ov z.pub Y z.body) β (FkR E b F1 Fo1 T1 T2 ov ks (ks++[z.pub,Y]) z.pub Y)) (by kernel_rfl) (by kernel_rfl) (by kernel_rfl) ?_ ?_ ?_
  ·exact⟨by simp;rfl,fun _ _=>rfl,fun i t' hi h=>(by rw [gs_0]at h;cases h),F1,Fo1,Fr.refl _ _,(by rw [gs_0];exact tE),d1,fun _=>oE,fun h=>(by rw [gs_0]at h;cases h),fun h=>(by rw [gs_0]at h;cases h),fun _=>e5',fun h=>(by rw [gs_0]at h;cases h)⟩
  ·intro i s α G k hJ hi0 hsi hd hcc hcont
   obtain⟨Fc,Fx,jf,jt,jd,jo,ja,jb,jz,jw⟩:=hJ.hp
   have j2:=(hJ.lo 2 (by decide)).trans e2
   have j7:=(hJ.lo 7 (by decide)).trans e7
   have gT:=(jf.out _ (hget_lt gT) nT).trans gT
   have gB:=(jf.out _ (hget_lt gB) nB).trans gB
   have ldT:=ld_tb gT
   have ldX:=bx_pub bC gB
   have ldB:=bx_body bC gB
   have jl:=jf.len
   have hnG:H0.length≤G.length:=by omega
   have hi:i=0∨i=1∨i=2∨i=3∨i=4∨i=5∨i=6∨i=7∨i=8∨i=9∨i=10∨i=11:=by have hi0:i<12:=hi0;omega
   rcases hi with rfl | rfl | rfl | rfl | rfl | rfl | rfl | rfl | rfl | rfl | rfl | rfl
   ·have j5:α 5=ov:=jz (hcc 11 (by decide))
    simp (disch:=first|omega|simp only [lnS];try omega) [-getElem?_pos,-getElem?_neg,-notTuple,ont,j5]
    exact hcont _ _ (hJ.put fkA_nd (t:=41) rfl rfl (FkR.keep (by decide) (by decide) hJ.hp))
   ·simp (disch:=first|omega|simp only [lnS];try omega) [-getElem?_pos,-getElem?_neg,-notTuple,ont,j7]
    exact hcont _ _ (hJ.put fkA_nd (t:=42) rfl rfl (FkR.keep (by decide) (by decide) hJ.hp))
   ·have f1:α 42=.pointer (some ⟨w,1,none⟩):=hJ.val 1 42 rfl (hd 1 (by decide))
    simp (disch:=first|omega|simp only [lnS];try omega) [-getElem?_pos,-getElem?_neg,-notTuple,ont,f1]
    exact hcont _ _ (hJ.put fkA_nd (t:=43) rfl rfl (FkR.keep (by decide) (by decide) hJ.hp))
   ·have f2:α 43=.pointer (some ⟨w,1,none⟩):=hJ.val 2 43 rfl (hd 2 (by decide))
    simp (disch:=first|omega|simp only [lnS];try omega) [-getElem?_pos,-getElem?_neg,-notTuple,ont,-xload,ldX,f2]
    exact hcont _ _ (hJ.put fkA_nd (t:=44) rfl rfl (FkR.keep (by decide) (by decide) hJ.hp))
   ·simp (disch:=first|omega|simp only [lnS];try omega) [-getElem?_pos,-getElem?_neg,-notTuple,ont,j2]
    exact hcont _ _ (hJ.put fkA_nd (t:=45) rfl rfl (FkR.keep (by decide) (by decide) hJ.hp))
   ·have f4:α 45=.pointer (some ⟨n,0,none⟩):=hJ.val 4 45 rfl (hd 4 (by decide))
    simp (disch:=first|omega|simp only [lnS];try omega) [-getElem?_pos,-getElem?_neg,-notTuple,ont,-xload,ldT,f4]
    exact hcont _ _ (hJ.put fkA_nd (t:=46) rfl rfl (FkR.keep (by decide) (by decide) hJ.hp))
   ·simp (disch:=first|omega|simp only [lnS];try omega) [-getElem?_pos,-getElem?_neg,-notTuple,ont,j7]
    exact hcont _ _ (hJ.put fkA_nd (t:=47) rfl rfl (FkR.keep (by decide) (by decide) hJ.hp))
   ·have f6:α 47=.pointer (some ⟨w,35,none⟩):=hJ.val 6 47 rfl (hd 6 (by decide))
    simp (disch:=first|omega|simp only [lnS];try omega) [-getElem?_pos,-getElem?_neg,-notTuple,ont,-xload,ldB,f6]
    exact hcont _ _ (hJ.put fkA_nd (t:=48) rfl rfl (FkR.keep (by decide) (by decide) hJ.hp))
   ·have f5:α 46=.pointer (some ⟨b,0,none⟩):=hJ.val 5 46 rfl (hd 5 (by decide))
    have f7:α 48=.string z.body:=hJ.val 7 48 rfl (hd 7 (by decide))
    simp (disch:=first|omega|simp only [lnS];try omega) [-getElem?_pos,-getElem?_neg,f5,f7]
    have jt:Tbl G b Fc T1:=by rw [hsi]at jt;exact jt
    refine⟨by kernel_rfl,AC.mono (markF_ac (nro:=H0.length) (γ:=γ) (hpw.low (lowFr lwE hnro jf)) jt (fun j hj=>jf.lo hnro hnE j (by simp [hj])) hnG htx hTm) ?_⟩
    rintro v' G' ⟨hv,F9,f9,t9⟩
    rw [←hY]at hv
    rw [←hT1]at t9
    subst hv
    have h10:s.getD 10 false=false:=hcc 10 (by decide)
    refine hcont _ _ (hJ.put fkA_nd (t:=49) rfl rfl ⟨F9,Fx,fr_mid jf f9 jd jt.bound,by rw [gs_eq (by rw [hJ.sz];decide)];exact t9,fr_dis f9 jd (jo h10).lt,fun a=>(jo h10).low (fun j hj=>f9.out j ((jo h10).lt j hj) (jd j hj)),fun a=>?_,fun a=>?_,fun a=>?_,fun a=>?_⟩)
    ·rw [gs_ne (by decide),hcc 9 (by decide)]at a;cases a
    ·rw [gs_ne (by decide),h10]at a;cases a
    ·have j5:=jz (hcc 11 (by decide))
     (first|simp [j5];done|rfl)
    ·rw [gs_ne (by decide),hcc 11 (by decide)]at a;cases a
   ·have f3:α 44=.agg (iv .u8 z.pub).toArray:=hJ.val 3 44 rfl (hd 3 (by decide))
    have f8:α 49=.agg (iv .u8 Y).toArray:=hJ.val 8 49 rfl (hd 8 (by decide))
    simp (disch:=first|omega|simp only [lnS];try omega) [-getElem?_pos,-getElem?_neg,f3,f8,lX,tX,lY,tY,hrow]
    have h10:s.getD 10 false=false:=hcc 10 (by decide)
    refine hcont _ _ (hJ.put fkA_nd (t:=50) rfl trivial ⟨Fc,Fx,jf.push _,by rw [gs_ne (by decide)];exact jt.push _,jd,fun a=>(jo h10).low (fun j hj=>hget_left ((jo h10).lt j hj)),fun a a2=>⟨G.length,by (first|simp;done|rfl),fun e=>by have:=jt.bound _ e;omega,fun e=>by have:=(jo h10).lt _ e;omega,by rw [hget_app0];rfl⟩,fun a=>?_,fun a=>?_,fun a=>?_⟩)
    ·rw [gs_ne (by decide),h10]at a;cases a
    ·have j5:=jz (hcc 11 (by decide))
     (first|simp [j5];done|rfl)
    ·rw [gs_ne (by decide),hcc 11 (by decide)]at a;cases a
   ·have f0:α 41=ov:=hJ.val 0 41 rfl (hd 0 (by decide))
    have f8:α 49=.agg (iv .u8 Y).toArray:=hJ.val 8 49 rfl (hd 8 (by decide))
    have h10:s.getD 10 false=false:=hsi
    obtain⟨r,w1,w2,w3,w4⟩:=ja (hd 9 (by decide)) h10
    have jo:=jo h10
    obtain⟨v1,G3,F3,hap,o3,hl3,hk3,hF3⟩:=ownX_append (nro:=H0.length) (H:=G) (x:=.slice (some ⟨r,0,none⟩) 2 2) hks32 h2k jo (fun j hj=>jf.lo hnro hnE j (by simp [hj])) (fun s e=>by cases e) ((keys2 lXl lYl w4).part h2k |>.2 G (fun _ _=>rfl)) hsz
    have n3:=o3.k.nt
    simp (disch:=first|omega|simp only [lnS];try omega) [-getElem?_pos,-getElem?_neg,w1,f0,f8,-xappend,hap,n3.1,n3.2,-notTuple]
    refine hcont _ _ (hJ.put fkA_nd (t:=51) rfl trivial ⟨Fc,F3,?_,?_,?_,fun a=>?_,fun a a2=>?_,fun a=>?_,fun a=>?_,fun a=>?_⟩)
    ·exact fr_own jf hl3 hk3 hF3
    ·rw [gs_ne (by decide)]
     exact jt.low (fun j hj=>hk3 j (jt.bound j hj) (fun e=>jd j e hj)) hl3
    ·intro j hj e
     have:=hF3 j hj
     have:=jt.bound j e
     omega
    ·rw [gs_eq (by rw [hJ.sz];decide)]at a;cases a
    ·rw [gs_eq (by rw [hJ.sz];decide)]at a2;cases a2
    ·rw [show (α.put (some 51) v1) 51=v1 by (first|simp;done|rfl)]
     exact o3
    ·have j5:=jz (hcc 11 (by decide))
     (first|simp [j5];done|rfl)
    ·rw [gs_ne (by decide),hcc 11 (by decide)]at a;cases a
   ·have f0:α 41=ov:=hJ.val 0 41 rfl (hd 0 (by decide))
    have f1:α 42=.pointer (some ⟨w,1,none⟩):=hJ.val 1 42 rfl (hd 1 (by decide))
    have f2:α 43=.pointer (some ⟨w,1,none⟩):=hJ.val 2 43 rfl (hd 2 (by decide))
    have f3:α 44=.agg (iv .u8 z.pub).toArray:=hJ.val 3 44 rfl (hd 3 (by decide))
    have f4:α 45=.pointer (some ⟨n,0,none⟩):=hJ.val 4 45 rfl (hd 4 (by decide))
    have f5:α 46=.pointer (some ⟨b,0,none⟩):=hJ.val 5 46 rfl (hd 5 (by decide))
    have f6:α 47=.pointer (some ⟨w,35,none⟩):=hJ.val 6 47 rfl (hd 6 (by decide))
    have f7:α 48=.string z.body:=hJ.val 7 48 rfl (hd 7 (by decide))
    have f8:α 49=.agg (iv .u8 Y).toArray:=hJ.val 8 49 rfl (hd 8 (by decide))
    have h10:s.getD 10 false=true:=hd 10 (by decide)
    have jb:=jb h10
    have nb:=jb.k.nt
    obtain⟨zv,hzv⟩:∃zv,α 51=zv:=⟨_,rfl⟩
    rw [hzv]at jb nb
    simp (disch:=first|omega|simp only [lnS];try omega) [-getElem?_pos,-getElem?_neg,hzv,-notTuple,nb.1,nb.2]
    refine hcont _ _ (hJ.put fkA_nd (t:=5) rfl trivial ⟨Fc,Fx,jf,by rw [gs_ne (by decide)];exact jt,jd,fun a=>?_,fun a a2=>?_,fun a=>?_,fun a=>?_,fun a=>?_⟩)
    ·rw [gs_ne (by decide),h10]at a;cases a
    ·rw [gs_ne (by decide),h10]at a2;cases a2
    ·rw [show (α.put (some 5) zv) 51=zv by (first|simp [hzv];done|rfl)]
     exact jb
    ·rw [gs_eq (by rw [hJ.sz];decide)]at a;cases a
    ·rw [show (α.put (some 5) zv) 5=zv by (first|simp;done|rfl)]
     exact jb
  rintro s α G hJ hall
  have hsz':s.size=12:=hJ.sz
  have hg:s.getD 8 false=true∧s.getD 11 false=true:=by
   have hh:∀i,i<12→s.getD i false=true:=fun i hi=>by
    rw [agD,Array.getElem?_eq_getElem (by omega)]
    exact Array.all_eq_true.1 hall i (by omega)
   exact⟨hh 8 (by omega),hh 11 (by omega)⟩
  obtain⟨Fc,Fx,jf,jt,jd,jo,ja,jb,jz,jw⟩:=hJ.hp
  rw [if_pos hg.1]at jt
  have e2:=(hJ.lo 2 (by decide)).trans e2
  have e3:=(hJ.lo 3 (by decide)).trans e3'
  have e35:=(hJ.lo 35 (by decide)).trans e35'
  have e36:=(hJ.lo 36 (by decide)).trans e36'
  have e37:=(hJ.lo 37 (by decide)).trans e37'
  have o2:=jw hg.2
  obtain⟨v2,e5⟩:∃v2,α 5=v2:=⟨_,rfl⟩
  rw [e5]at o2
  clear hJ hall hg hsz' jo ja jb jz jw
  (refine aoo fun K hK=>?_;simp (disch:=first|omega|simp only [lnS];try omega) [-getElem?_pos,-getElem?_neg,e37];refine hK _ _ ?_;clear hK K)
  exact⟨q-1,by omega,i+1,Fc,Fx,v2,by omega,by (first|simp [e2];done|rfl),by (first|simp [e3];done|rfl),by (first|simp [e5];done|rfl),by (first|simp [e35];done|rfl),by (first|simp [e36];done|rfl),by (first|simp;done|rfl),fE.trans jf,by rw [htk];exact jt,by rw [htk];exact o2,jd⟩
 ·obtain rfl:i=x.op.boxes.length:=by omega
  rw [tkL (nlE _)]at tG1 o1 hk
  have gF2:=(f1.out (n+1) (by omega) mF).trans gF
  have fb2:=frB hw gF2
  have hqG:=(hq.fr fH).now
  have q32:K32 x.ids:=fun k hkk=>(hw.ids k hkk).1
  obtain⟨v3,G3,F3,hap,o3,hl3,hk3,hF3⟩:=ownX_append (nro:=H0.length) (x:=qv) (fun k hkk=>(hk.k k hkk).1) q32 o1 (fun j hj=>fH.lo hnro hl0 j (by simp [hj])) (fun s e=>by
   have:=hqG.part q32
   obtain⟨⟨a,c,e2⟩,_⟩:=this
   rw [e2]at e
   cases e) ((hqG.part q32).2 _ (fun _ _=>rfl)) (by have:=hk.m;have:=hs.ids;omega)
  have n3:=o3.k.nt
  (refine aoo fun K hK=>?_;simp (disch:=first|omega|simp only [lnS];try omega) [-getElem?_pos,-getElem?_neg,e36,e37];refine hK _ _ ?_;clear hK K)
  refine aw_seq ?_
  refine awf (by simp<;>omega) ?_
  refine aw_exit (aw_seq ?_)
  (refine aoo fun K hK=>?_;simp (disch:=first|omega|simp only [lnS];try omega) [-getElem?_pos,-getElem?_neg,e3,e5,-xload,fb2.ids,-xappend,hap,-notTuple,ont,qnt.1,qnt.2,n3.1,n3.2];refine hK _ _ ?_;clear hK K)
  have fin:KyQ H b F (keysS T x) v3 G3:=⟨F1,F3,f0.trans (fr_own f1 hl3 hk3 hF3),tG1.low (fun j hj=>hk3 j (tG1.bound j hj) (fun e=>d1 j e hj)) hl3,o3,fun j hj e=>by
   have:=hF3 j hj
   have:=tG1.bound j e
   omega⟩
  (refine aw_ret ?_;simp (disch:=first|omega|simp only [lnS];try omega) [-getElem?_pos,-getElem?_neg,-notTuple,n3.1,n3.2])
  exact fin
end
section
@[reducible] def RkR (E:AH) (b:Nat) (F Fo:List Nat) (T T1:List TermD) (ov:Value) (ks ks':List (List Int)) (X Y:List Int) (s:Array Bool) (α:Fm) (G:AH):Prop:=
 ∃Fc Fx,Fr E G (F++Fo) (Fc++Fx)∧RTbl G b Fc (if s.getD 17 false=true then T1 else T)∧(∀j∈Fx,j∉Fc)∧(s.getD 19 false=false→OwnX G ov ks Fx) ∧
  (s.getD 18 false=true→s.getD 19 false=false→∃r,α 59=.slice (some ⟨r,0,none⟩) 2 2∧r∉Fc∧r∉Fx∧hget G r=some ⟨iv .u8 X++iv .u8 Y, 41,some 32⟩) ∧
  (s.getD 19 false=true→OwnX G (α 60) ks' Fx)∧(s.getD 20 false=false→α 5=ov)∧(s.getD 20 false=true→OwnX G (α 5) ks' Fx)
theorem RkR.keep{E:AH}{b:Nat}{F Fo:List Nat}{T T1:List TermD}{ov:Value}{ks ks':List (List Int)}{X Y:List Int}{s:Array Bool}{α:Fm}{G:AH}{i t:Nat}{v:Value}(hi:i∉[17,18,19,20])(ht:t∉[59,60,5])(h:RkR E b F Fo T T1 ov ks ks' X Y s α G):RkR E b F Fo T T1 ov ks ks' X Y (s.setIfInBounds i true) (α.put (some t) v) G:=by
 simp only [mcN,not_or]at hi ht
 obtain⟨Fc,Fx,w1,w2,w3,w4,w5,w6,w7,w8⟩:=h
 have p0:(α.put (some t) v) 59=α 59:=by simp [put_at,Ne.symm ht.1]
 have p1:(α.put (some t) v) 60=α 60:=by simp [put_at,Ne.symm ht.2.1]
 have p5:(α.put (some t) v) 5=α 5:=by simp [put_at,Ne.symm ht.2.2]
 refine⟨Fc,Fx,w1,by rw [gs_ne hi.1];exact w2,w3,by rw [gs_ne hi.2.2.1];exact w4,?_,?_,?_,?_⟩
 ·rw [gs_ne hi.2.1,gs_ne hi.2.2.1,p0];exact w5
 ·rw [gs_ne hi.2.2.1,p1];exact w6
 ·rw [gs_ne hi.2.2.2,p5];exact w7
 ·rw [gs_ne hi.2.2.2,p5];exact w8
theorem bx_ld{E:AH}{F:List Nat}{v:Value}{l:List BoxD}(hE:BxP E F v l)(hl:∀b∈l,b.Wf){i:Nat}{z:BoxD}(hz:l[i]?=some z):∃j q,xindexAddr Tryd.prog 47 v (.int .i64 (i:Nat))=some (.pointer (some ⟨j,q,none⟩))∧∀G:AH,E.length≤G.length→(∀j,j<E.length→j∉F→hget G j=hget E j)→xload Tryd.prog 41 (.pointer (some ⟨j,q+1,none⟩)) G=some (.agg (iv .u8 z.pub).toArray)∧xload Tryd.prog 9 (.pointer (some ⟨j,q+35,none⟩)) G=some (.string z.body):=by
 have hzw:=hl z (moG hz)
 have row:∀G:AH,BxV G v l→∃j q bb us,xindexAddr Tryd.prog 47 v (.int .i64 (i:Nat))=some (.pointer (some ⟨j,q,none⟩))∧hget G j=some bb∧us=(bb.cells.drop q).take 36∧q+36≤bb.cells.length∧(∀c,c<36→bb.cells[q+c]?=us[c]?)∧BoxC G us z:=fun G h=>by
  obtain⟨j,b,us,hv,hb,hle,hx,hus,hul,hle2,hc,hval⟩:=val_at (P:=Tryd.prog) (t := 47) (e := 80) (sz:=36) h (by kernel_rfl) (by kernel_rfl) (by omega) (fun row hr=>by
   obtain⟨y,hy,rfl⟩:=List.mem_map.1 hr
   have:=(hl y hy).pub.1
   simp [BoxD.row,kd,this]) (i:=i) (row:=z.row) (by rw [gmP,hz];rfl)
  exact⟨j,i*36,b,us,hx,hb,hus,hle2,hc,box_c hzw hval⟩
 obtain⟨j,q,_,_,hx,_⟩:=row E hE.now
 refine⟨j,q,hx,fun G hG hg=>?_⟩
 obtain⟨j2,q2,bb,us,hx2,hb,hus,hle,hc,bC⟩:=row G (hE G hG hg)
 rw [hx]at hx2
 cases hx2
 have f3:isAggD (und Tryd.prog 9)=false∧okD (und Tryd.prog 9)=true:=⟨by kernel_rfl,by kernel_rfl⟩
 have g3:isAggD (und Tryd.prog 41)=true:=by kernel_rfl
 have s3:szt Tryd.prog 41 = 32:=by kernel_rfl
 have h1:(bb.cells.drop (q+1)).take 32=iv .u8 z.pub:=by
  have h:=bC.pub
  rw [hus,List.drop_take,List.take_take,List.drop_drop]at h
  exact h
 have h2:bb.cells[q+35]?=some (.string z.body):=(hc 35 (by omega)).trans bC.c35
 exact⟨by simp [xload,hb,g3,s3,h1];omega,by simp [xload,hb,f3.1,f3.2,h2]⟩
def RKyQ(H:AH)(b:Nat)(F:List Nat)(S:KSt)(v':Value)(H':AH):Prop:=∃F' Fo,Fr H H' F (F'++Fo)∧RTbl H' b F' S.1∧OwnX H' v' S.2 Fo∧∀j∈Fo,j∉F'
def rfAD:List (Option Nat):=[some 41,some 42,some 43,some 44,some 45,some 46,some 47,some 48,some 49,some 50,some 51,some 52,some 53,some 54,some 55,some 56,some 57,some 58,some 59,some 60,some 5]
def rfAP:List (List Nat):=[[],[],[1],[2],[],[3,4],[5],[6],[7],[],[],[10],[11],[],[12,13],[14],[15],[9,16],[8,17],[0,17,18],[0,1,2,3,4,5,6,7,8,9,10,11,12,13,14,15,16,17,18,19]]
def rfAV(m b j q i9:Nat)(ov bv:Value)(z:BoxD)(Y:List Int)(i:Nat)(v:Value):Prop:=match i with
 | 0=>v=ov
 | 1=>v=.pointer (some ⟨m,2,none⟩)
 | 2=>v=.pointer (some ⟨m,72,none⟩)
 | 3=>v=bv
 | 4=>v=.int .i64 (i9:Nat)
 | 5=>v=.pointer (some ⟨j,q,none⟩)
 | 6=>v=.pointer (some ⟨j,q+1,none⟩)
 | 7=>v=.pointer (some ⟨j,q+1,none⟩)
 | 8=>v=.agg (iv .u8 z.pub).toArray
 | 9=>v=.pointer (some ⟨b,0,none⟩)
 | 10=>v=.pointer (some ⟨m,2,none⟩)
 | 11=>v=.pointer (some ⟨m,72,none⟩)
 | 12=>v=bv
 | 13=>v=.int .i64 (i9:Nat)
 | 14=>v=.pointer (some ⟨j,q,none⟩)
 | 15=>v=.pointer (some ⟨j,q+35,none⟩)
 | 16=>v=.string z.body
 | 17=>v=.agg (iv .u8 Y).toArray
 | _=>True
theorem rfA_nd:∀i j t:Nat,rfAD[i]?=some (some t)→rfAD[j]?=some (some t)→i=j:=by
 have h:∀i<21,∀j<21,∀t:Nat,rfAD[i]?=some (some t)→rfAD[j]?=some (some t)→i=j:=by
  intro i hi j hj t h1 h2
  have h3:rfAD[i]?=rfAD[j]?:=h1.trans h2.symm
  have h4:(rfAD[i]?.bind id).isSome=true:=by rw [h1];rfl
  revert h3 h4
  clear h1 h2
  revert i j
  decide
 intro i j t hi hj
 exact h i (gsI.1 hi).1 j (gsI.1 hj).1 t hi hj
theorem rmarkF_ac{nro:Nat}{γ:Nat→Option Nat}{H:AH}{b:Nat}{F:List Nat}{T:List TermD}(h:RTbl H b F T)(hn:∀j∈F,nro≤j)(hnH:nro≤H.length){s:ByteArray}(hs:s.size≤10000000)(hT:T.length≤900000) :
  AC Tryd.prog nro γ 35 #[.pointer (some ⟨b,0,none⟩),.string s] H (RFQ H b F (markT T s) (.agg (iv .u8 (markV T s)).toArray)):=by
 unfold markT markV
 by_cases h32:s.size=32
 ·rw [if_pos h32,if_pos h32]
  exact rmarkT h hnH h32
 ·rw [if_neg h32,if_neg h32]
  obtain⟨tv,sv,Ft,Fs,Fk,L,rfl,h,rfl⟩:=h
  rw [List.length_map]at hT
  exact (rmark1_ac h hnH (fun j hj=>hn j (by simp only [List.mem_cons,maP]at hj ⊢;rcases hj with e | e | e <;> simp [e])) hs h32 hT).mono fun v' H' hq=>hq.fr (hget_lt h.hb)
theorem rkeys_ac{γ:Nat→Option Nat}{H0 H:AH}(lw0:Low H0.length H0 H){b:Nat}{F:List Nat}{T:List TermD}(h:RTbl H b F T)(hnro:∀j∈F,H0.length≤j){x:FramD}(hw:x.Wf)(hs:x.Sm){pv wv bv qv:Value}(hp:KsP H F pv x.op.parents)(hb:BxP H F bv x.op.boxes)(hq:KsP H F qv x.ids)(hT:T.length≤10000) :
  AC Tryd.prog H0.length γ 17 #[.pointer (some ⟨b,0,none⟩),.agg (frRow x pv wv bv qv).toArray] H (RKyQ H b F (keysS T x)):=by
 have pnt:=hp.nt
 have qnt:=hq.nt
 have bnt:=val_nt hb.now
 obtain⟨C,hC⟩:∃C,C=frRow x pv wv bv qv:=⟨_,rfl⟩
 have cl:C.length=74:=by rw [hC];simp [frRow,opRow_len hw.op]
 have tC:C.take 74=C:=tkL (by omega)
 obtain⟨m,hmm⟩:∃m,m=H.length:=⟨_,rfl⟩
 obtain⟨B,hB⟩:∃B:AH,B=H++[some ⟨C, 51,none⟩]:=⟨_,rfl⟩
 have gF:hget B m=some ⟨C, 51,none⟩:=by rw [hB,hmm,hget_app0];rfl
 have lwB:Low H.length H B:=by rw [hB];exact Low.push (nlE _) _
 have hBl:B.length=m+1:=by rw [hB,hmm];simp
 have hFl:=h.bound
 have tB:RTbl B b F T:=h.low (fun j hj=>lwB.1 j (hFl j hj)) lwB.2
 have f0:Fr H B F F:=low_fr F lwB
 have mF:m∉F:=fun e=>by have:=hFl _ e;omega
 have hl0:=lw0.2
 rw [←hC]
 refine ac_of_aw Tryd.func17 rfl Tryd.ntmps17 Tryd.results17 (by simp) ?_
 (refine aso fun K hK=>?_;simp (disch:=first|omega|simp only [lnS];try omega) [-getElem?_pos,-getElem?_neg,cl,tC];refine hK _ _ ?_;clear hK K)
 rw [←hmm,←hB]
 clear hB
 rw [hC]at gF
 clear hC cl tC
 have fb:=frB hw gF
 have l1:(iv .u8 x.op.of).length=32:=by rw [iv_length];exact hw.op.of.1
 have l2:(iv .u8 x.op.check).length=32:=by rw [iv_length];exact hw.op.check.1
 have t1:(iv .u8 x.op.of).take 32=iv .u8 x.op.of:=tkL (by omega)
 have t2:(iv .u8 x.op.check).take 32=iv .u8 x.op.check:=tkL (by omega)
 have hrow:setR (setR (List.map (fun j=>(iv .u8 (zl 32))[j%32]?.getD undef) (List.range 64)) 0 (iv .u8 x.op.of)) 32 (iv .u8 x.op.check)=iv .u8 x.op.of++iv .u8 x.op.check:=row2 (by simp) l1 l2
 have hpl:plain1 (.slice none 0 0)=true:=rfl
 have two:∀z∈[x.op.of,x.op.check],z.length=32:=fun z hz=>by
  simp only [mcN]at hz
  rcases hz with rfl | rfl
  ·exact hw.op.of.1
  ·exact hw.op.check.1
 have p32:K32 x.op.parents:=fun k hk=>(hw.op.parents k hk).1
 have hsp:=hs.parents
 (refine aso fun K hK=>?_;simp (disch:=first|omega|simp only [lnS];try omega) [-getElem?_pos,-getElem?_neg];refine hK _ _ ?_;clear hK K)
 obtain⟨v1,G1,X1,hap1,o1,hl1,hk1,hX1⟩:=ownX_append (nro:=H0.length) (H:=B) (v:=.slice none 0 0) (x:=pv) (ks:=[]) (fun k hk=>(by cases hk)) p32 (.inl ⟨rfl,rfl,rfl⟩:OwnX B (.slice none 0 0) [] []) (fun j hj=>(by cases hj)) (fun s e=>by
  have:=((hp.fr f0).now).part p32
  obtain⟨⟨a,c,e2⟩,_⟩:=this
  rw [e2]at e
  cases e) ((((hp.fr f0).now).part p32).2 _ (fun _ _=>rfl)) (by simp;omega)
 rw [List.nil_append]at o1
 have n1:=o1.k.nt
 (refine aso fun K hK=>?_;simp (disch:=first|omega|simp only [lnS];try omega) [-getElem?_pos,-getElem?_neg,-xload,fb.parents,-xappend,hap1,-notTuple,pnt.1,pnt.2,n1.1,n1.2];refine hK _ _ ?_;clear hK K)
 have gF1:=(hk1 m (by omega) (fun e=>by cases e)).trans gF
 have fb1:=frB hw gF1
 have o1p:OwnX (G1++[some ⟨iv .u8 x.op.of++iv .u8 x.op.check, 41,some 32⟩]) v1 x.op.parents X1:=o1.low (fun j hj=>hget_left (o1.lt j hj))
 have gK:hget (G1++[some ⟨iv .u8 x.op.of++iv .u8 x.op.check, 41,some 32⟩]) G1.length=some ⟨iv .u8 x.op.of++iv .u8 x.op.check, 41,some 32⟩:=by rw [hget_app0];rfl
 obtain⟨v2,G,Fo,hap2,o2,hl2,hk2,hFo⟩:=ownX_append (nro:=H0.length) (x:=.slice (some ⟨G1.length,0,none⟩) 2 2) p32 two o1p (fun j hj=>by have:=hX1 j hj;omega) (fun s e=>by cases e) ((keys2 hw.op.of.1 hw.op.check.1 gK).part two |>.2 _ (fun _ _=>rfl)) (by simp;omega)
 have n2:=o2.k.nt
 (refine aso fun K hK=>?_;simp (disch:=first|omega|simp only [lnS];try omega) [-getElem?_pos,-getElem?_neg,-xload,fb1.of,fb1.check,l1,l2,t1,t2,hrow,hpl,-xappend,hap2,-notTuple,n1.1,n1.2,n2.1,n2.2];refine hK _ _ ?_;clear hK K)
 have hlp:(G1++[some (⟨iv .u8 x.op.of++iv .u8 x.op.check, 41,some 32⟩:Blk)]).length=G1.length+1:=by simp
 have lwG:Low B.length B G:=⟨fun j hj=>((hk2 j (by omega) (fun e=>by have:=hX1 j e;omega)).trans (hget_left (by omega))).trans (hk1 j hj (fun e=>by cases e)),by omega⟩
 have tG:RTbl G b F T:=tB.low (fun j hj=>lwG.1 j (by have:=hFl j hj;omega)) lwG.2
 have d1:∀j∈Fo,j∉F:=fun j hj e=>by have:=hFo j hj;have:=hFl j e;omega
 have f1:Fr B G F (F++Fo):=⟨lwG.2,fun j hj _=>lwG.1 j hj,fun j hj=>by
  rcases maP.1 hj with e | e
  ·exact .inl e
  ·have:=hFo j e;exact .inr (by omega)⟩
 clear hap1 hap2 o1 o1p gK gF1 fb1 hk1 hk2 lwG
 refine aw_seq ?_
 refine aw_cut (fun α G=>∃ (F1 Fo:List Nat) (ov:Value),α 0=.pointer (some ⟨b,0,none⟩)∧α 3=.pointer (some ⟨m,0,none⟩)∧α 5=ov∧Fr B G F (F1++Fo)∧RTbl G b F1 (hdS T x.op).1∧OwnX G ov (hdS T x.op).2 Fo∧∀j∈Fo,j∉F1) ?_ ?_
 ·have gF1:=(f1.out m (by omega) mF).trans gF
  have fb1:=frB hw gF1
  have hk0:=kok_0 (T:=T) hw hs
  refine aw_seq ?_
  by_cases h7:x.op.kind=7
  ·have hd:hdS T x.op=mkS (T,x.op.parents++[x.op.of,x.op.check]) x.op.text:=by unfold hdS;rw [if_pos h7]
   rw [hd]
   have hmk:=rmarkF_ac (nro:=H0.length) (γ:=γ) (H:=G) tG hnro (by have:=f1.len;omega) (s:=x.op.text) (by have:=hs.text;omega) (by omega)
   obtain⟨Y,hY⟩:∃Y,Y=markV T x.op.text:=⟨_,rfl⟩
   have lY:Y.length=32:=by rw [hY];exact markV_ok.1
   have tY:(iv .u8 Y).take 32=iv .u8 Y:=tkL (by rw [iv_length];omega)
   have rY:setR (List.map (fun j=>(iv .u8 (zl 32))[j%32]?.getD undef) (List.range 32)) 0 (iv .u8 Y)=iv .u8 Y:=setR_all _ _ (by simp [lY])
   rw [←hY]at hmk
   (refine aoo fun K hK=>?_;simp (disch:=first|omega|simp only [lnS];try omega) [-getElem?_pos,-getElem?_neg,-xload,fb1.kind,h7,-notTuple];refine hK _ _ ?_;clear hK K)
   refine awt (by simp<;>omega) ?_
   refine aoo fun K hK=>?_
   simp (disch:=first|omega|simp only [lnS];try omega) [-getElem?_pos,-getElem?_neg,-xload,fb1.text,-notTuple,n2.1,n2.2]
   refine⟨by kernel_rfl,AC.mono hmk ?_⟩
   rintro v3 G2 ⟨rfl,F2,f2,t2'⟩
   have o2':OwnX G2 v2 (x.op.parents++[x.op.of,x.op.check]) Fo:=o2.low (fun j hj=>f2.out j (o2.lt j hj) (d1 j hj))
   have o2p:OwnX (G2++[some ⟨iv .u8 Y, 41,some 32⟩]) v2 (x.op.parents++[x.op.of,x.op.check]) Fo:=o2'.low (fun j hj=>hget_left (o2'.lt j hj))
   have gY:hget (G2++[some ⟨iv .u8 Y, 41,some 32⟩]) G2.length=some ⟨iv .u8 Y, 41,some 32⟩:=by rw [hget_app0];rfl
   have one:∀z∈[Y],z.length=32:=fun z hz=>by rw [msG.1 hz];exact lY
   obtain⟨v4,G3,F3,hap,o3,hl3,hk3,hF3⟩:=ownX_append (nro:=H0.length) (x:=.slice (some ⟨G2.length,0,none⟩) 1 1) (fun k hk=>(hk0.k k hk).1) one o2p (fun j hj=>by have:=(f0.trans f1).lo hnro hl0 j (by simp [hj]);exact this) (fun s e=>by cases e) ((keys1 lY gY).part one |>.2 _ (fun _ _=>rfl)) (by have:=hk0.m;simp at this ⊢;omega)
   have n3:=o3.k.nt
   try simp (disch:=first|omega|simp only [lnS];try omega) [-getElem?_pos,-getElem?_neg,lY,tY,rY,hpl,-xappend,hap,-notTuple,n2.1,n2.2,n3.1,n3.2]
   refine hK _ _ ?_;clear hK K
   have hl2':(G2++[some (⟨iv .u8 Y, 41,some 32⟩:Blk)]).length=G2.length+1:=by simp
   refine⟨F2,F3,v4,by (first|simp;done|rfl),by (first|simp;done|rfl),by (first|simp;done|rfl),fr_own ((fr_mid f1 f2 d1 tG.bound).push _) hl3 hk3 hF3,?_,by show OwnX G3 v4 (x.op.parents++[x.op.of,x.op.check]++[markV T x.op.text]) F3;rw [←hY];exact o3,fun j hj e=>?_⟩
   ·exact (t2'.push _).low (fun j hj=>hk3 j (by have:=t2'.bound j hj;omega) (fun e=>fr_dis f2 d1 o2.lt j e hj)) hl3
   ·have:=hF3 j hj
    have:=t2'.bound j e
    omega
  ·have hd:hdS T x.op=(T,x.op.parents++[x.op.of,x.op.check]):=by unfold hdS;rw [if_neg h7]
   rw [hd]
   (refine aoo fun K hK=>?_;simp (disch:=first|omega|simp only [lnS];try omega) [-getElem?_pos,-getElem?_neg,-xload,fb1.kind,h7,-notTuple];refine hK _ _ ?_;clear hK K)
   refine awf (by simp<;>omega) ?_
   refine aw_skip ?_
   exact⟨F,Fo,v2,by (first|simp;done|rfl),by (first|simp;done|rfl),by (first|simp;done|rfl),f1,tG,o2,d1⟩
 rintro α G2 ⟨F1,Fo1,ov,e0,e3,e5,f1',tG1,o1',d1'⟩
 clear f1 tG o2 d1 n2
 have hbl:=(hb.now.acc hw.op.boxes).len
 have hblm:x.op.boxes.length≤30:=hs.boxes
 refine aw_seq (aw_seq ?_)
 (refine aoo fun K hK=>?_;simp (disch:=first|omega|simp only [lnS];try omega) [-getElem?_pos,-getElem?_neg];refine hK _ _ ?_;clear hK K)
 refine aw_block ?_
 refine aw_loop (fun c α G=>∃ (i:Nat) (F1 Fo:List Nat) (ov:Value),i+c=x.op.boxes.length∧α 0=.pointer (some ⟨b,0,none⟩)∧α 3=.pointer (some ⟨m,0,none⟩)∧α 5=ov∧α 6=.int .i64 (i:Nat)∧Fr B G F (F1++Fo)∧RTbl G b F1 ((x.op.boxes.take i).foldl bxS (hdS T x.op)).1∧OwnX G ov ((x.op.boxes.take i).foldl bxS (hdS T x.op)).2 Fo∧∀j∈Fo,j∉F1) x.op.boxes.length ?_ ?_
 ·exact⟨0,F1,Fo1,ov,by omega,by (first|simp [e0];done|rfl),by (first|simp [e3];done|rfl),by (first|simp [e5];done|rfl),by (first|simp;done|rfl),f1',tG1,o1',d1'⟩
 clear e0 e3 e5 f1' tG1 o1' d1' α G2 ov F1 Fo1
 rintro c α E ⟨i,F1,Fo1,ov,hic,e0,e3,e5,e6,fE,tE,oE,d1⟩
 have ont2:=oE.k.nt
 have ont:=ont2.1
 have hk:=kok_take (T:=T) hw hs i
 have fH:=f0.trans fE
 have hlen1:=fE.len
 have mF1:m∉F1++Fo1:=fun e=>by
  rcases fE.new m e with e' | e'
  ·exact mF e'
  ·omega
 have gF:=(fE.out m (by omega) mF).trans gF
 have fbE:=frB hw gF
 refine aw_seq (aw_seq ?_)
 by_cases hi:i<x.op.boxes.length
 ·have hi':(i:Int)<x.op.boxes.length:=by omega
  obtain⟨z,hz⟩:∃z,x.op.boxes[i]?=some z:=⟨_,geE hi⟩
  have hzm:=moG hz
  have hzw:=hw.op.boxes z hzm
  obtain⟨j,q,ax,ldz⟩:=bx_ld (hb.fr fH) hw.op.boxes hz
  have htk:=bx_take hz (hdS T x.op)
  (refine aoo fun K hK=>?_;simp (disch:=first|omega|simp only [lnS];try omega) [-getElem?_pos,-getElem?_neg,e3,e6,-xload,fbE.boxes,-xlen,hbl,-notTuple,bnt.1,bnt.2,hi'];refine hK _ _ ?_;clear hK K)
  refine awt (by simp<;>omega) ?_
  refine aw_skip (aw_seq ?_)
  refine aw_block ?_
  generalize hS:(x.op.boxes.take i).foldl bxS (hdS T x.op)=S at *
  obtain⟨T1,ks⟩:=S
  simp only at tE oE
  have hkl:=hk.m
  have hTl:=hk.n
  simp only at hkl hTl
  have hks32:K32 ks:=fun k hkk=>(hk.k k hkk).1
  obtain⟨Y,hY⟩:∃Y,Y=markV T1 z.body:=⟨_,rfl⟩
  obtain⟨T2,hT1⟩:∃T2,T2=markT T1 z.body:=⟨_,rfl⟩
  have hSx:bxS (T1,ks) z=(T2,ks++[z.pub,Y]):=by unfold bxS;rw [hY,hT1]
  rw [hSx]at htk
  have htx:z.body.size≤10000000:=by have:=hs.body z hzm;omega
  have hTm:T1.length≤900000:=by omega
  have lXl:=hzw.pub.1
  have lYl:Y.length=32:=by rw [hY];exact markV_ok.1
  have h2k:∀k∈[z.pub,Y],k.length=32:=fun k hkk=>by
   simp only [mcN]at hkk
   rcases hkk with rfl | rfl
   ·exact lXl
   ·exact lYl
  have hsz:ks.length+[z.pub,Y].length≤1000000000:=by simp;omega
  have lwE:Low H0.length H0 E:=lowFr lw0 hnro fH
  have hnE:H0.length≤E.length:=lwE.2
  have hnro':∀j∈F1++Fo1,H0.length≤j:=fH.lo hnro hl0
  have lX:(iv .u8 z.pub).length=32:=by rw [iv_length];exact lXl
  have lY:(iv .u8 Y).length=32:=by rw [iv_length];exact lYl
  have tX:(iv .u8 z.pub).take 32=iv .u8 z.pub:=tkL (by omega)
  have tY:(iv .u8 Y).take 32=iv .u8 Y:=tkL (by omega)
  have hrow:setR (setR (List.map (fun j=>(iv .u8 (zl 32))[j%32]?.getD undef) (List.range 64)) 0 (iv .u8 z.pub)) 32 (iv .u8 Y)=iv .u8 z.pub++iv .u8 Y:=row2 (by simp) lX lY
  refine name_aw (fun β hβ=>?_)
  have e0':β 0=.pointer (some ⟨b,0,none⟩):=by rw [hβ];(first|simp [e0];done|rfl)
  have e3':β 3=.pointer (some ⟨m,0,none⟩):=by rw [hβ];(first|simp [e3];done|rfl)
  have e5':β 5=ov:=by rw [hβ];(first|simp [e5];done|rfl)
  have e6':β 6=.int .i64 (i:Nat):=by rw [hβ];(first|simp [e6];done|rfl)
  clear hβ e0 e3 e5 e6
  have e0:=e0'
  have e3:=e3'
  have e6:=e6'
  obtain⟨i9,hi9⟩:∃i9,i9=i:=⟨_,rfl⟩
  rw [←hi9]at e6 ax
  refine aw_inv rfAP (JT rfAD (rfAV m b j q i9 ov bv z Y) β (RkR E b F1 Fo1 T1 T2 ov ks (ks++[z.pub,Y]) z.pub Y)) (by kernel_rfl) (by kernel_rfl) (by kernel_rfl) ?_ ?_ ?_
  ·exact⟨by simp;rfl,fun _ _=>rfl,fun i t' hi h=>(by rw [gs_0]at h;cases h),F1,Fo1,Fr.refl _ _,(by rw [gs_0];exact tE),d1,fun _=>oE,fun h=>(by rw [gs_0]at h;cases h),fun h=>(by rw [gs_0]at h;cases h),fun _=>e5',fun h=>(by rw [gs_0]at h;cases h)⟩
  ·intro i s α G k hJ hi0 hsi hd hcc hcont
   obtain⟨Fc,Fx,jf,jt,jd,jo,ja,jb,jz,jw⟩:=hJ.hp
   have j0:=(hJ.lo 0 (by decide)).trans e0
   have j3:=(hJ.lo 3 (by decide)).trans e3
   have j6:=(hJ.lo 6 (by decide)).trans e6
   have gF:=(jf.out _ (hget_lt gF) mF1).trans gF
   have fbG:=(frB hw gF).boxes
   obtain⟨ldX,ldB⟩:=ldz G (by have:=jf.len;omega) (fun j hj hn=>(jf.out j (by omega) hn))
   have jl:=jf.len
   have hnG:H0.length≤G.length:=by omega
   have hi:i=0∨i=1∨i=2∨i=3∨i=4∨i=5∨i=6∨i=7∨i=8∨i=9∨i=10∨i=11∨i=12∨i=13∨i=14∨i=15∨i=16∨i=17∨i=18∨i=19∨i=20:=by have hi0:i<21:=hi0;omega
   rcases hi with rfl | rfl | rfl | rfl | rfl | rfl | rfl | rfl | rfl | rfl | rfl | rfl | rfl | rfl | rfl | rfl | rfl | rfl | rfl | rfl | rfl
   ·have j5:α 5=ov:=jz (hcc 20 (by decide))
    simp (disch:=first|omega|simp only [lnS];try omega) [-getElem?_pos,-getElem?_neg,-notTuple,ont,j5]
    exact hcont _ _ (hJ.put rfA_nd (t:=41) rfl rfl (RkR.keep (by decide) (by decide) hJ.hp))
   ·simp (disch:=first|omega|simp only [lnS];try omega) [-getElem?_pos,-getElem?_neg,-notTuple,ont,bnt.1,j3]
    exact hcont _ _ (hJ.put rfA_nd (t:=42) rfl rfl (RkR.keep (by decide) (by decide) hJ.hp))
   ·have f1:α 42=.pointer (some ⟨m,2,none⟩):=hJ.val 1 42 rfl (hd 1 (by decide))
    simp (disch:=first|omega|simp only [lnS];try omega) [-getElem?_pos,-getElem?_neg,-notTuple,ont,bnt.1,f1]
    exact hcont _ _ (hJ.put rfA_nd (t:=43) rfl rfl (RkR.keep (by decide) (by decide) hJ.hp))
   ·have f2:α 43=.pointer (some ⟨m,72,none⟩):=hJ.val 2 43 rfl (hd 2 (by decide))
    simp (disch:=first|omega|simp only [lnS];try omega) [-getElem?_pos,-getElem?_neg,-notTuple,ont,bnt.1,-xload,fbG,f2]
    exact hcont _ _ (hJ.put rfA_nd (t:=44) rfl rfl (RkR.keep (by decide) (by decide) hJ.hp))
   ·simp (disch:=first|omega|simp only [lnS];try omega) [-getElem?_pos,-getElem?_neg,-notTuple,ont,bnt.1,j6]
    exact hcont _ _ (hJ.put rfA_nd (t:=45) rfl rfl (RkR.keep (by decide) (by decide) hJ.hp))
   ·have f3:α 44=bv:=hJ.val 3 44 rfl (hd 3 (by decide))
    have f4:α 45=.int .i64 (i9:Nat):=hJ.val 4 45 rfl (hd 4 (by decide))
    simp (disch:=first|omega|simp only [lnS];try omega) [-getElem?_pos,-getElem?_neg,-notTuple,ont,bnt.1,-xindexAddr,ax,f3,f4]
    exact hcont _ _ (hJ.put rfA_nd (t:=46) rfl rfl (RkR.keep (by decide) (by decide) hJ.hp))
   ·have f5:α 46=.pointer (some ⟨j,q,none⟩):=hJ.val 5 46 rfl (hd 5 (by decide))
    simp (disch:=first|omega|simp only [lnS];try omega) [-getElem?_pos,-getElem?_neg,-notTuple,ont,bnt.1,f5]
    exact hcont _ _ (hJ.put rfA_nd (t:=47) rfl rfl (RkR.keep (by decide) (by decide) hJ.hp))
   ·have f6:α 47=.pointer (some ⟨j,q+1,none⟩):=hJ.val 6 47 rfl (hd 6 (by decide))
    simp (disch:=first|omega|simp only [lnS];try omega) [-getElem?_pos,-getElem?_neg,-notTuple,ont,bnt.1,f6]
    exact hcont _ _ (hJ.put rfA_nd (t:=48) rfl rfl (RkR.keep (by decide) (by decide) hJ.hp))
   ·have f7:α 48=.pointer (some ⟨j,q+1,none⟩):=hJ.val 7 48 rfl (hd 7 (by decide))
    simp (disch:=first|omega|simp only [lnS];try omega) [-getElem?_pos,-getElem?_neg,-notTuple,ont,bnt.1,-xload,ldX,f7]
    exact hcont _ _ (hJ.put rfA_nd (t:=49) rfl rfl (RkR.keep (by decide) (by decide) hJ.hp))
   ·simp (disch:=first|omega|simp only [lnS];try omega) [-getElem?_pos,-getElem?_neg,-notTuple,ont,bnt.1,j0]
    exact hcont _ _ (hJ.put rfA_nd (t:=50) rfl rfl (RkR.keep (by decide) (by decide) hJ.hp))
   ·simp (disch:=first|omega|simp only [lnS];try omega) [-getElem?_pos,-getElem?_neg,-notTuple,ont,bnt.1,j3]
    exact hcont _ _ (hJ.put rfA_nd (t:=51) rfl rfl (RkR.keep (by decide) (by decide) hJ.hp))
   ·have f10:α 51=.pointer (some ⟨m,2,none⟩):=hJ.val 10 51 rfl (hd 10 (by decide))
    simp (disch:=first|omega|simp only [lnS];try omega) [-getElem?_pos,-getElem?_neg,-notTuple,ont,bnt.1,f10]
    exact hcont _ _ (hJ.put rfA_nd (t:=52) rfl rfl (RkR.keep (by decide) (by decide) hJ.hp))
   ·have f11:α 52=.pointer (some ⟨m,72,none⟩):=hJ.val 11 52 rfl (hd 11 (by decide))
    simp (disch:=first|omega|simp only [lnS];try omega) [-getElem?_pos,-getElem?_neg,-notTuple,ont,bnt.1,-xload,fbG,f11]
    exact hcont _ _ (hJ.put rfA_nd (t:=53) rfl rfl (RkR.keep (by decide) (by decide) hJ.hp))
   ·simp (disch:=first|omega|simp only [lnS];try omega) [-getElem?_pos,-getElem?_neg,-notTuple,ont,bnt.1,j6]
    exact hcont _ _ (hJ.put rfA_nd (t:=54) rfl rfl (RkR.keep (by decide) (by decide) hJ.hp))
   ·have f12:α 53=bv:=hJ.val 12 53 rfl (hd 12 (by decide))
    have f13:α 54=.int .i64 (i9:Nat):=hJ.val 13 54 rfl (hd 13 (by decide))
    simp (disch:=first|omega|simp only [lnS];try omega) [-getElem?_pos,-getElem?_neg,-notTuple,ont,bnt.1,-xindexAddr,ax,f12,f13]
    exact hcont _ _ (hJ.put rfA_nd (t:=55) rfl rfl (RkR.keep (by decide) (by decide) hJ.hp))
   ·have f14:α 55=.pointer (some ⟨j,q,none⟩):=hJ.val 14 55 rfl (hd 14 (by decide))
    simp (disch:=first|omega|simp only [lnS];try omega) [-getElem?_pos,-getElem?_neg,-notTuple,ont,bnt.1,f14]
    exact hcont _ _ (hJ.put rfA_nd (t:=56) rfl rfl (RkR.keep (by decide) (by decide) hJ.hp))
   ·have f15:α 56=.pointer (some ⟨j,q+35,none⟩):=hJ.val 15 56 rfl (hd 15 (by decide))
    simp (disch:=first|omega|simp only [lnS];try omega) [-getElem?_pos,-getElem?_neg,-notTuple,ont,bnt.1,-xload,ldB,f15]
    exact hcont _ _ (hJ.put rfA_nd (t:=57) rfl rfl (RkR.keep (by decide) (by decide) hJ.hp))
   ·have f9:α 50=.pointer (some ⟨b,0,none⟩):=hJ.val 9 50 rfl (hd 9 (by decide))
    have f16:α 57=.string z.body:=hJ.val 16 57 rfl (hd 16 (by decide))
    simp (disch:=first|omega|simp only [lnS];try omega) [-getElem?_pos,-getElem?_neg,f9,f16]
    have jt:RTbl G b Fc T1:=by rw [hsi]at jt;exact jt
    refine⟨by kernel_rfl,AC.mono (rmarkF_ac (nro:=H0.length) (γ:=γ) jt (fun j hj=>jf.lo hnro' hnE j (by simp [hj])) hnG htx hTm) ?_⟩
    rintro v' G' ⟨hv,F9,f9,t9⟩
    rw [←hY]at hv
    rw [←hT1]at t9
    subst hv
    have h19:s.getD 19 false=false:=hcc 19 (by decide)
    refine hcont _ _ (hJ.put rfA_nd (t:=58) rfl rfl ⟨F9,Fx,fr_mid jf f9 jd jt.bound,by rw [gs_eq (by rw [hJ.sz];decide)];exact t9,fr_dis f9 jd (jo h19).lt,fun a=>(jo h19).low (fun j hj=>f9.out j ((jo h19).lt j hj) (jd j hj)),fun a=>?_,fun a=>?_,fun a=>?_,fun a=>?_⟩)
    ·rw [gs_ne (by decide),hcc 18 (by decide)]at a;cases a
    ·rw [gs_ne (by decide),h19]at a;cases a
    ·have j5:=jz (hcc 20 (by decide))
     (first|simp [j5];done|rfl)
    ·rw [gs_ne (by decide),hcc 20 (by decide)]at a;cases a
   ·have f8:α 49=.agg (iv .u8 z.pub).toArray:=hJ.val 8 49 rfl (hd 8 (by decide))
    have f17:α 58=.agg (iv .u8 Y).toArray:=hJ.val 17 58 rfl (hd 17 (by decide))
    simp (disch:=first|omega|simp only [lnS];try omega) [-getElem?_pos,-getElem?_neg,f8,f17,lX,tX,lY,tY,hrow]
    have h19:s.getD 19 false=false:=hcc 19 (by decide)
    refine hcont _ _ (hJ.put rfA_nd (t:=59) rfl trivial ⟨Fc,Fx,jf.push _,by rw [gs_ne (by decide)];exact jt.push _,jd,fun a=>(jo h19).low (fun j hj=>hget_left ((jo h19).lt j hj)),fun a a2=>⟨G.length,by (first|simp;done|rfl),fun e=>by have:=jt.bound _ e;omega,fun e=>by have:=(jo h19).lt _ e;omega,by rw [hget_app0];rfl⟩,fun a=>?_,fun a=>?_,fun a=>?_⟩)
    ·rw [gs_ne (by decide),h19]at a;cases a
    ·have j5:=jz (hcc 20 (by decide))
     (first|simp [j5];done|rfl)
    ·rw [gs_ne (by decide),hcc 20 (by decide)]at a;cases a
   ·have f0:α 41=ov:=hJ.val 0 41 rfl (hd 0 (by decide))
    have f17:α 58=.agg (iv .u8 Y).toArray:=hJ.val 17 58 rfl (hd 17 (by decide))
    have h19:s.getD 19 false=false:=hsi
    obtain⟨r,w1,w2,w3,w4⟩:=ja (hd 18 (by decide)) h19
    have jo:=jo h19
    obtain⟨v1,G3,F3,hap,o3,hl3,hk3,hF3⟩:=ownX_append (nro:=H0.length) (H:=G) (x:=.slice (some ⟨r,0,none⟩) 2 2) hks32 h2k jo (fun j hj=>jf.lo hnro' hnE j (by simp [hj])) (fun s e=>by cases e) ((keys2 lXl lYl w4).part h2k |>.2 G (fun _ _=>rfl)) hsz
    have n3:=o3.k.nt
    simp (disch:=first|omega|simp only [lnS];try omega) [-getElem?_pos,-getElem?_neg,w1,f0,f17,-xappend,hap,n3.1,n3.2,-notTuple]
    refine hcont _ _ (hJ.put rfA_nd (t:=60) rfl trivial ⟨Fc,F3,?_,?_,?_,fun a=>?_,fun a a2=>?_,fun a=>?_,fun a=>?_,fun a=>?_⟩)
    ·exact fr_own jf hl3 hk3 hF3
    ·rw [gs_ne (by decide)]
     exact jt.low (fun j hj=>hk3 j (jt.bound j hj) (fun e=>jd j e hj)) hl3
    ·intro j hj e
     have:=hF3 j hj
     have:=jt.bound j e
     omega
    ·rw [gs_eq (by rw [hJ.sz];decide)]at a;cases a
    ·rw [gs_eq (by rw [hJ.sz];decide)]at a2;cases a2
    ·rw [show (α.put (some 60) v1) 60=v1 by (first|simp;done|rfl)]
     exact o3
    ·have j5:=jz (hcc 20 (by decide))
     (first|simp [j5];done|rfl)
    ·rw [gs_ne (by decide),hcc 20 (by decide)]at a;cases a
   ·have f0:α 41=ov:=hJ.val 0 41 rfl (hd 0 (by decide))
    have f1:α 42=.pointer (some ⟨m,2,none⟩):=hJ.val 1 42 rfl (hd 1 (by decide))
    have f2:α 43=.pointer (some ⟨m,72,none⟩):=hJ.val 2 43 rfl (hd 2 (by decide))
    have f3:α 44=bv:=hJ.val 3 44 rfl (hd 3 (by decide))
    have f4:α 45=.int .i64 (i9:Nat):=hJ.val 4 45 rfl (hd 4 (by decide))
    have f5:α 46=.pointer (some ⟨j,q,none⟩):=hJ.val 5 46 rfl (hd 5 (by decide))
    have f6:α 47=.pointer (some ⟨j,q+1,none⟩):=hJ.val 6 47 rfl (hd 6 (by decide))
    have f7:α 48=.pointer (some ⟨j,q+1,none⟩):=hJ.val 7 48 rfl (hd 7 (by decide))
    have f8:α 49=.agg (iv .u8 z.pub).toArray:=hJ.val 8 49 rfl (hd 8 (by decide))
    have f9:α 50=.pointer (some ⟨b,0,none⟩):=hJ.val 9 50 rfl (hd 9 (by decide))
    have f10:α 51=.pointer (some ⟨m,2,none⟩):=hJ.val 10 51 rfl (hd 10 (by decide))
    have f11:α 52=.pointer (some ⟨m,72,none⟩):=hJ.val 11 52 rfl (hd 11 (by decide))
    have f12:α 53=bv:=hJ.val 12 53 rfl (hd 12 (by decide))
    have f13:α 54=.int .i64 (i9:Nat):=hJ.val 13 54 rfl (hd 13 (by decide))
    have f14:α 55=.pointer (some ⟨j,q,none⟩):=hJ.val 14 55 rfl (hd 14 (by decide))
    have f15:α 56=.pointer (some ⟨j,q+35,none⟩):=hJ.val 15 56 rfl (hd 15 (by decide))
    have f16:α 57=.string z.body:=hJ.val 16 57 rfl (hd 16 (by decide))
    have f17:α 58=.agg (iv .u8 Y).toArray:=hJ.val 17 58 rfl (hd 17 (by decide))
    have h19:s.getD 19 false=true:=hd 19 (by decide)
    have jb:=jb h19
    have nb:=jb.k.nt
    obtain⟨zv,hzv⟩:∃zv,α 60=zv:=⟨_,rfl⟩
    rw [hzv]at jb nb
    simp (disch:=first|omega|simp only [lnS];try omega) [-getElem?_pos,-getElem?_neg,hzv,-notTuple,nb.1,nb.2]
    refine hcont _ _ (hJ.put rfA_nd (t:=5) rfl trivial ⟨Fc,Fx,jf,by rw [gs_ne (by decide)];exact jt,jd,fun a=>?_,fun a a2=>?_,fun a=>?_,fun a=>?_,fun a=>?_⟩)
    ·rw [gs_ne (by decide),h19]at a;cases a
    ·rw [gs_ne (by decide),h19]at a2;cases a2
    ·rw [show (α.put (some 5) zv) 60=zv by (first|simp [hzv];done|rfl)]
     exact jb
    ·rw [gs_eq (by rw [hJ.sz];decide)]at a;cases a
    ·rw [show (α.put (some 5) zv) 5=zv by (first|simp;done|rfl)]
     exact jb
  rintro s α G hJ hall
  have hsz':s.size=21:=hJ.sz
  have hg:s.getD 17 false=true∧s.getD 20 false=true:=by
   have hh:∀i,i<21→s.getD i false=true:=fun i hi=>by
    rw [agD,Array.getElem?_eq_getElem (by omega)]
    exact Array.all_eq_true.1 hall i (by omega)
   exact⟨hh 17 (by omega),hh 20 (by omega)⟩
  obtain⟨Fc,Fx,jf,jt,jd,jo,ja,jb,jz,jw⟩:=hJ.hp
  rw [if_pos hg.1]at jt
  have e0:=(hJ.lo 0 (by decide)).trans e0
  have e3:=(hJ.lo 3 (by decide)).trans e3
  have e6:=(hJ.lo 6 (by decide)).trans e6'
  have o2:=jw hg.2
  obtain⟨v2,e5⟩:∃v2,α 5=v2:=⟨_,rfl⟩
  rw [e5]at o2
  clear hJ hall hg hsz' jo ja jb jz jw
  (refine aoo fun K hK=>?_;simp (disch:=first|omega|simp only [lnS];try omega) [-getElem?_pos,-getElem?_neg,e6];refine hK _ _ ?_;clear hK K)
  exact⟨c-1,by omega,i+1,Fc,Fx,v2,by omega,by (first|simp [e0];done|rfl),by (first|simp [e3];done|rfl),by (first|simp [e5];done|rfl),by (first|simp;done|rfl),fE.trans jf,by rw [htk];exact jt,by rw [htk];exact o2,jd⟩
 ·obtain rfl:i=x.op.boxes.length:=by omega
  rw [tkL (nlE _)]at tE oE hk
  have hqG:=(hq.fr fH).now
  have q32:K32 x.ids:=fun k hkk=>(hw.ids k hkk).1
  obtain⟨v3,G3,F3,hap,o3,hl3,hk3,hF3⟩:=ownX_append (nro:=H0.length) (x:=qv) (fun k hkk=>(hk.k k hkk).1) q32 oE (fun j hj=>fH.lo hnro hl0 j (by simp [hj])) (fun s e=>by
   have:=hqG.part q32
   obtain⟨⟨a,c,e2⟩,_⟩:=this
   rw [e2]at e
   cases e) ((hqG.part q32).2 _ (fun _ _=>rfl)) (by have:=hk.m;have:=hs.ids;omega)
  have n3:=o3.k.nt
  (refine aoo fun K hK=>?_;simp (disch:=first|omega|simp only [lnS];try omega) [-getElem?_pos,-getElem?_neg,e3,e6,-xload,fbE.boxes,-xlen,hbl,-notTuple,bnt.1,bnt.2];refine hK _ _ ?_;clear hK K)
  refine awf (by simp<;>omega) ?_
  refine aw_exit (aw_seq ?_)
  (refine aoo fun K hK=>?_;simp (disch:=first|omega|simp only [lnS];try omega) [-getElem?_pos,-getElem?_neg,e3,e5,-xload,fbE.ids,-xappend,hap,-notTuple,ont,qnt.1,qnt.2,n3.1,n3.2];refine hK _ _ ?_;clear hK K)
  have fin:RKyQ H b F (keysS T x) v3 G3:=⟨F1,F3,f0.trans (fr_own fE hl3 hk3 hF3),tE.low (fun j hj=>hk3 j (tE.bound j hj) (fun e=>d1 j e hj)) hl3,o3,fun j hj e=>by
   have:=hF3 j hj
   have:=tE.bound j e
   omega⟩
  (refine aw_ret ?_;simp (disch:=first|omega|simp only [lnS];try omega) [-getElem?_pos,-getElem?_neg,-notTuple,n3.1,n3.2])
  exact fin
end
section
theorem agreeT_kind(T:List TermD)(s p:List Int):(agreeT T s p).kind≠0:=by
 unfold agreeT
 split
 ·split
  ·split <;> exact (by decide:(4:Nat)≠0)
  ·exact (by decide:(5:Nat)≠0)
 ·exact (by decide:(5:Nat)≠0)
theorem ckT_kind(T:List TermD)(ks:List (List Int))(c:CookD):(ckT T ks c).kind≠0:=by
 unfold ckT
 split
 ·exact (by decide:(1:Nat)≠0)
 split
 ·exact (by decide:(2:Nat)≠0)
 split
 ·exact (by decide:(3:Nat)≠0)
 split
 ·exact agreeT_kind _ _ _
 ·exact (by decide:(6:Nat)≠0)
theorem cookM_kind{T:List TermD}{seen ks:List (List Int)}{c:CookD}(h:∀y∈T,y.kind≠0):∀y∈(cookM T seen ks c).1,y.kind≠0:=fun y hy=>by
 have hm:∀y∈addT (ckT T ks c) T,y.kind≠0:=fun y hy=>by
  rcases addT_mem hy with e | rfl
  ·exact h y e
  ·exact ckT_kind _ _ _
 unfold cookM at hy
 split at hy
 ·exact h y hy
 split at hy
 ·exact hm y hy
 split at hy
 ·split at hy
  ·exact h y hy
  ·exact hm y hy
 split at hy
 ·exact h y hy
 split at hy
 ·exact h y hy
 ·exact h y hy
theorem makeM_kind{seen:List (List Int)}:∀ (l:List CookD) (s:List TermD×List (List Int)),(∀y∈s.1,y.kind≠0)→∀y∈(makeM seen l s).1,y.kind≠0
 | [],s,h=>h
 | c::l,s,h=>by
  refine makeM_kind l (moreM s.1 seen s.2 c) ?_
  unfold moreM
  split
  ·exact cookM_kind h
  ·exact h
structure TK (T:List TermD):Prop where
 wf:∀x∈T,x.Wf
 two:∀x∈T,x.kind=4→∃a b,x.keys=[a,b]∧TermD.Wf ⟨3,⟨#[]⟩,[a]⟩∧TermD.Wf ⟨3,⟨#[]⟩,[b]⟩
 k0:∀x∈T,x.kind≠0
theorem TK.mark{T:List TermD}(h:TK T){s:ByteArray}(hs:s.size≤600):TK (markT T s):=by
 unfold markT
 split
 ·exact h
 ·have hk:(boxT s).kind=2:=rfl
  have hw:(boxT s).Wf:=wf_0 (.inr rfl) (by rw [ByteArray.size_append];show 3+s.size≤_;omega)
  refine⟨fun x hx=>?_,fun x hx h4=>?_,fun x hx=>?_⟩
  ·rcases addT_mem hx with e | rfl
   ·exact h.wf x e
   ·exact hw
  ·rcases addT_mem hx with e | rfl
   ·exact h.two x e h4
   ·rw [hk]at h4;cases h4
  ·rcases addT_mem hx with e | rfl
   ·exact h.k0 x e
   ·rw [hk];decide
theorem TK.fold:∀ (l:List BoxD) (s:KSt),TK s.1→(∀z∈l,z.body.size≤600)→TK (l.foldl bxS s).1
 | [],s,h,_=>h
 | z::l,s,h,hz=>TK.fold l (bxS s z) (h.mark (hz z (by simp))) (fun y hy=>hz y (by simp [hy]))
theorem TK.keys{T:List TermD}(h:TK T){x:FramD}(hs:x.Sm):TK (keysS T x).1:=by
 refine TK.fold x.op.boxes (hdS T x.op) ?_ hs.body
 unfold hdS
 split
 ·exact h.mark hs.text
 ·exact h
theorem TK.tw{T:List TermD}(h:TK T)(hm:T.length≤1000000):TWf T:=⟨h.wf,hm,h.two⟩
theorem kok_keys{T:List TermD}{x:FramD}(hw:x.Wf)(hs:x.Sm):KOk (keysS T x) 133 (T.length+31):=by
 have h:=kok_take (T:=T) hw hs x.op.boxes.length
 rw [tkL (nlE _)]at h
 refine⟨fun k hk=>?_,?_,h.n⟩
 ·rcases maP.1 hk with e | e
  ·exact h.k k e
  ·exact⟨(hw.ids k e).1,(hw.ids k e).2⟩
 ·have:=h.m
  have:=hs.ids
  show ((kyS T x.op).2++x.ids).length≤_
  rw [laP]
  have:(kyS T x.op).2.length≤93:=h.m
  omega
theorem all_snoc{α:Type}{f:α→Bool}{l:List α}{i:Nat}{y:α}(h:l[i]?=some y):(l.take (i+1)).all f=((l.take i).all f&&f y):=by
 rw [List.take_add_one,h,List.all_append]
 simp
theorem fair_ac{γ:Nat→Option Nat}{H0 H:AH}(hpw:Pw γ H0)(lw0:Low H0.length H0 H){b:Nat}{F:List Nat}{T:List TermD}(h:Tbl H b F T)(hnro:∀j∈F,H0.length≤j){x:FramD}(hw:x.Wf)(hs:x.Sm){pv wv bv qv:Value}(hp:KsP H F pv x.op.parents)(hb:BxP H F bv x.op.boxes)(hq:KsP H F qv x.ids)(hT:T.length≤10000)
  {kx kb m:Nat} {kn:List Bool} (hx:hget H kx=some ⟨[.slice (some ⟨kb,0,none⟩) m m], 55,none⟩) (hg:hget H kb=some ⟨bsC kn, 4,some 1⟩) (hxF:kx∉F) (hkF:kb∉F) (hkl:kn.length=m) (hm:m≤1000000) :
  AC Tryd.prog H0.length γ 20 #[.agg #[.pointer (some ⟨b,0,none⟩)],.func (.func 44) #[] #[.pointer (some ⟨kx,0,none⟩)],.agg (frRow x pv wv bv qv).toArray] H (fun v' _=>v'=.bool ((keysS T x).2.all (fol kn))):=by
 obtain⟨C,hC⟩:∃C,C=frRow x pv wv bv qv:=⟨_,rfl⟩
 have cl:C.length=74:=by rw [hC];simp [frRow,opRow_len hw.op]
 have tC:C.take 74=C:=tkL (by omega)
 obtain⟨n,hn⟩:∃n,n=H.length:=⟨_,rfl⟩
 obtain⟨B,hB⟩:∃B:AH,B=H++[some ⟨[.pointer (some ⟨b,0,none⟩)], 27,none⟩,some ⟨C, 51,none⟩]:=⟨_,rfl⟩
 have gT:hget B n=some ⟨[.pointer (some ⟨b,0,none⟩)], 27,none⟩:=by rw [hB,hn,hget_app0];rfl
 have gF:hget B (n+1)=some ⟨C, 51,none⟩:=by rw [hB,hn,hget_app];rfl
 have lwB:Low H.length H B:=by rw [hB];exact Low.push (nlE _) _
 have hBl:B.length=n+2:=by rw [hB,hn];simp
 have hFl:=h.bound
 have tB:Tbl B b F T:=h.low (fun j hj=>lwB.1 j (hFl j hj)) lwB.2
 have f0:Fr H B F F:=low_fr F lwB
 have lw1:Low H0.length H0 B:=lowFr lw0 hnro f0
 have hky:=fkeys_ac (γ:=γ) hpw lw1 tB hnro hw hs (wv:=wv) (hp.fr f0) (hb.fr f0) (hq.fr f0) hT
 have hko:=kok_keys (T:=T) hw hs
 have ldF:xload Tryd.prog 27 (.pointer (some ⟨n,0,none⟩)) B=some (.agg #[.pointer (some ⟨b,0,none⟩)]):=by simp [xload,gT]
 rw [←hC]at hky ⊢
 refine ac_of_aw Tryd.func20 rfl Tryd.ntmps20 Tryd.results20 (by simp) ?_
 (refine aso fun K hK=>?_;simp (disch:=first|omega|simp only [lnS];try omega) [-getElem?_pos,-getElem?_neg,cl,tC];refine hK _ _ ?_;clear hK K)
 rw [←hn,←hB]
 clear hB
 have ldC:xload Tryd.prog 51 (.pointer (some ⟨n+1,0,none⟩)) B=some (.agg C.toArray):=by
  rw [hC]at gF ⊢
  exact (frB hw gF).all
 refine aw_seq (aw_seq ?_)
 (refine aoo fun K hK=>?_;simp (disch:=first|omega|simp only [lnS];try omega) [-getElem?_pos,-getElem?_neg];refine hK _ _ ?_;clear hK K)
 refine awf (by simp<;>omega) ?_
 refine aw_skip (aw_seq ?_)
 (refine aoo fun K hK=>?_;simp (disch:=first|omega|simp only [lnS];try omega) [-getElem?_pos,-getElem?_neg];refine hK _ _ ?_;clear hK K)
 refine aw_seq (aw_seq ?_)
 refine aoo fun K hK=>?_
 simp (disch:=first|omega|simp only [lnS];try omega) [-getElem?_pos,-getElem?_neg,-xload,-xlen,ldF,ldC,-notTuple]
 refine⟨by kernel_rfl,AC.mono hky ?_⟩
 rintro v1 G ⟨F1,Fo,f1,t1,o1,d1⟩
 have hk32:∀k∈(keysS T x).2,k.length=32:=fun k hk=>(hko.k k hk).1
 have hkv:KsV G v1 (keysS T x).2:=own_ksv o1.k hk32
 obtain⟨vnt,vcs,vln,vat⟩:=hkv.acc hk32
 generalize hks:(keysS T x).2=ks at *
 have hksm:=hko.m
 have hkk:=hko.k
 rw [hks]at hksm hkk
 have hx1:hget G kx=some ⟨[.slice (some ⟨kb,0,none⟩) m m], 55,none⟩:=(f1.out kx (by have:=hget_lt hx;omega) hxF).trans ((lwB.1 kx (hget_lt hx)).trans hx)
 have hg1:hget G kb=some ⟨bsC kn, 4,some 1⟩:=(f1.out kb (by have:=hget_lt hg;omega) hkF).trans ((lwB.1 kb (hget_lt hg)).trans hg)
 have hnG:H0.length≤G.length:=by have:=f1.len;have:=lw0.2;omega
 try simp (disch:=first|omega|simp only [lnS];try omega) [-getElem?_pos,-getElem?_neg,-notTuple,vnt,vcs,-xlen,vln]
 refine hK _ _ ?_;clear hK K
 refine aw_block ?_
 refine aw_loop (fun c α R=>∃i:Nat,i+c=ks.length∧α 1=.func (.func 44) #[] #[.pointer (some ⟨kx,0,none⟩)]∧α 7=.bool ((ks.take i).all (fol kn))∧α 14=v1∧α 15=.int .i64 (ks.length:Nat)∧α 16=.int .i64 (i:Nat)∧Low G.length G R) ks.length ?_ ?_
 ·exact⟨0,by omega,by (first|simp;done|rfl),by (first|simp;done|rfl),by (first|simp;done|rfl),by (first|simp;done|rfl),by (first|simp;done|rfl),Low.refl (nlE _)⟩
 rintro c α R ⟨i,hic,e1,e7,e14,e15,e16,lw⟩
 refine aw_seq ?_
 by_cases hi:i<ks.length
 ·have hi':(i:Int)<ks.length:=by omega
  obtain⟨pj,xj,q1,q2,q3,rfl,q4⟩:=vat i hi
  have q4:=q4 R lw
  have mj:=getD_mem (l:=ks) (i:=i) hi
  have hgj:ks[i]?=some (ks.getD i []):=by rw [gdD,geE hi];rfl
  obtain⟨k32,kby⟩:=hkk _ mj
  have hsn:=all_snoc (f:=fol kn) hgj
  obtain⟨k,hkd⟩:∃k,k=ks.getD i []:=⟨_,rfl⟩
  rw [←hkd]at q4 k32 kby hsn
  have tk:(iv .u8 k).take 32=iv .u8 k:=tkL (by rw [iv_length];omega)
  have sk:setR (iv .u8 (zl 32)) 0 (iv .u8 k)=iv .u8 k:=setR_all _ _ (by simp [k32])
  obtain⟨R2,hR2⟩:∃R2:AH,R2=R++[some ⟨iv .u8 k, 41,none⟩]:=⟨_,rfl⟩
  have gk:hget R2 R.length=some ⟨iv .u8 k, 41,none⟩:=by rw [hR2,hget_app0];rfl
  have lw2:Low G.length G R2:=⟨fun j hj=>by rw [hR2];exact (hget_left (by have:=lw.2;omega)).trans (lw.1 j hj),by rw [hR2];have:=lw.2;simp;omega⟩
  have ldk:=key_load k32 gk
  have hnR:H0.length≤R.length:=by have:=lw.2;omega
  have hfo:=fol1_rc (γ:=γ) ((lw2.1 kx (hget_lt hx1)).trans hx1) ((lw2.1 kb (hget_lt hg1)).trans hg1) hkl hm k32 kby
  (refine aoo fun K hK=>?_;simp (disch:=first|omega|simp only [lnS];try omega) [-getElem?_pos,-getElem?_neg,e15,e16,hi'];refine hK _ _ ?_;clear hK K)
  refine aw_seq ?_
  refine awt (by simp<;>omega) ?_
  refine aw_skip (aw_seq ?_)
  refine aw_block ?_
  (refine aso fun K hK=>?_;simp (disch:=first|omega|simp only [lnS];try omega) [-getElem?_pos,-getElem?_neg,e14,e16,-xload,q4,-xindexAddr,q2,q1,vnt,vcs,-notTuple,k32,tk,sk,hnR];refine hK _ _ ?_;clear hK K)
  rw [←hR2]
  clear hR2
  refine aso fun K hK=>?_
  simp (disch:=first|omega|simp only [lnS];try omega) [-getElem?_pos,-getElem?_neg,e1,-xload,ldk]
  refine⟨by kernel_rfl,ac_of_rc hfo (by simp [pv_iv,pv_int,pv_bool,pv_string,pv_tup2,pv_tup3,iv_plain,p2_int,p2_bool,p2_string]) ?_⟩
  cases hf:fol kn k with
  | true=>
   rw [hf,Bool.and_true]at hsn
   try simp (disch:=first|omega|simp only [lnS];try omega) [-getElem?_pos,-getElem?_neg,-notTuple]
   refine hK _ _ ?_;clear hK K
   refine awf (by simp<;>omega) ?_
   refine aw_skip ?_
   (refine aoo fun K hK=>?_;simp (disch:=first|omega|simp only [lnS];try omega) [-getElem?_pos,-getElem?_neg,e16];refine hK _ _ ?_;clear hK K)
   exact⟨c-1,by omega,i+1,by omega,by (first|simp [e1];done|rfl),by rw [hsn];(first|simp [e7];done|rfl),by (first|simp [e14];done|rfl),by (first|simp [e15];done|rfl),by (first|simp;done|rfl),lw2⟩
  | false=>
   rw [hf,Bool.and_false]at hsn
   try simp (disch:=first|omega|simp only [lnS];try omega) [-getElem?_pos,-getElem?_neg,-notTuple]
   refine hK _ _ ?_;clear hK K
   refine awt (by simp<;>omega) ?_
   (refine aoo fun K hK=>?_;simp (disch:=first|omega|simp only [lnS];try omega) [-getElem?_pos,-getElem?_neg];refine hK _ _ ?_;clear hK K)
   (refine aoo fun K hK=>?_;simp (disch:=first|omega|simp only [lnS];try omega) [-getElem?_pos,-getElem?_neg,e16];refine hK _ _ ?_;clear hK K)
   exact⟨c-1,by omega,i+1,by omega,by (first|simp [e1];done|rfl),by rw [hsn];(first|simp;done|rfl),by (first|simp [e14];done|rfl),by (first|simp [e15];done|rfl),by (first|simp;done|rfl),lw2⟩
 ·obtain rfl:i=ks.length:=by omega
  rw [tkL (nlE _)]at e7
  (refine aoo fun K hK=>?_;simp (disch:=first|omega|simp only [lnS];try omega) [-getElem?_pos,-getElem?_neg,e15,e16];refine hK _ _ ?_;clear hK K)
  refine aw_seq ?_
  refine awf (by simp<;>omega) ?_
  refine aw_exit (aw_seq ?_)
  (refine aoo fun K hK=>?_;simp (disch:=first|omega|simp only [lnS];try omega) [-getElem?_pos,-getElem?_neg,e7];refine hK _ _ ?_;clear hK K)
  (refine aw_ret ?_;simp (disch:=first|omega|simp only [lnS];try omega) [-getElem?_pos,-getElem?_neg])
end
section
theorem pl0S{H0 G:AH}(lw:Low H0.length H0 G){tb rb:Nat}{S:List Nat}{F:List Nat}(t:Tbl G tb F [])(hF:∀j∈F,H0.length≤j)(hr:hget G rb=some ⟨[.slice none 0 0,.slice none 0 0], 33,none⟩)(hr0:H0.length≤rb)(hrF:rb∉F)(hS:∀j∈S,j<G.length∧j∉F∧j≠rb):Pl H0 S G tb rb (.slice none 0 0) [] [] []:=by
 refine⟨F,[],[],[],[],.slice none 0 0,.slice none 0 0,[],lw,t,⟨hr,.inl ⟨rfl,rfl,rfl⟩,.inl ⟨rfl,rfl,rfl⟩,fun p hp=>(by cases hp),fun p hp=>(by cases hp),fun j hj=>(by cases hj),by simp,by simp,by simp,fun j hj=>(by cases hj),fun j hj=>(by cases hj),fun j hj=>(by cases hj)⟩,rfl,.inl ⟨rfl,rfl,rfl⟩,hF,fun j hj=>?_,fun j hj=>(by cases hj),fun j hj e=>?_,fun j hj=>by simp,fun j hj=>by simp,fun j hj=>?_⟩
 ·simp only [List.append_nil,mcN]at hj
  omega
 ·simp only [List.append_nil,mcN]at e
  exact hrF (e▸hj)
 ·obtain⟨hn,hnF,hnr⟩:=hS j hj
  refine⟨hn,hnF,fun e=>?_,by simp⟩
  simp only [List.append_nil,mcN]at e
  exact hnr e
theorem ksv_ksp{H G:AH}{F:List Nat}{v:Value}{ks:List (List Int)}(h:KsV H v ks)(lw:Low H.length H G)(hF:∀j∈F,H.length≤j):KsP G F v ks:=fun D hl hg=>CD.Val.low (fun j hj=>(hg j (by have:=lw.2;omega) (fun e=>by have:=hF j e;omega)).trans (lw.1 j hj)) h
theorem bxv_bxp{H G:AH}{F:List Nat}{v:Value}{l:List BoxD}(h:BxV H v l)(lw:Low H.length H G)(hF:∀j∈F,H.length≤j):BxP G F v l:=fun D hl hg=>CD.Val.low (fun j hj=>(hg j (by have:=lw.2;omega) (fun e=>by have:=hF j e;omega)).trans (lw.1 j hj)) h
theorem two_of{x:TermD}(h:x.Wf)(h4:x.kind=4):∃a b,x.keys=[a,b]∧TermD.Wf ⟨3,⟨#[]⟩,[a]⟩∧TermD.Wf ⟨3,⟨#[]⟩,[b]⟩:=by
 have h2:=h.agree h4
 obtain⟨a,b,e⟩:∃a b,x.keys=[a,b]:=by
  rcases hk:x.keys with _ | ⟨a,_ | ⟨b,_ | ⟨c,l⟩⟩⟩
  ·rw [hk]at h2;cases h2
  ·rw [hk]at h2;cases h2
  ·exact⟨a,b,rfl⟩
  ·rw [hk]at h2;simp at h2
 exact⟨a,b,e,wf_pub (h.k32 a (by simp [e])) (h.by_ a (by simp [e])),wf_pub (h.k32 b (by simp [e])) (h.by_ b (by simp [e]))⟩
theorem sT5_k0:∀y∈sT5,y.kind≠0:=fun y hy=>by
 simp only [sT5,mcN]at hy
 rcases hy with rfl | rfl | rfl | rfl | rfl <;> decide
theorem gs_mono{s:Array Bool}{i j:Nat}(h:s.getD j false=true):(s.setIfInBounds i true).getD j false=true:=by
 by_cases e:i=j
 ·subst e
  refine gs_eq ?_
  by_cases hl:i<s.size
  ·exact hl
  ·rw [agD,Array.getElem?_eq_none (by omega)]at h;cases h
 ·rw [gs_ne e];exact h
@[reducible] def LwR (E:AH) (m:Nat) (kn:List Bool) (s:Array Bool) (α:Fm) (G:AH):Prop:=
 (s.getD 8 false=false→Low E.length E G∧(s.getD 6 false=true→∃kx kb,α 79=.func (.func 44) #[] #[.pointer (some ⟨kx,0,none⟩)]∧E.length≤kx∧E.length≤kb∧hget G kx=some ⟨[.slice (some ⟨kb,0,none⟩) m m], 55,none⟩∧hget G kb=some ⟨bsC kn, 4,some 1⟩))∧(s.getD 8 false=true→s.getD 6 false=true∧s.getD 1 false=true)
theorem LwR.keep{E:AH}{m:Nat}{kn:List Bool}{s:Array Bool}{α:Fm}{G:AH}{i t:Nat}{v:Value}(hi:i∉[6,8])(ht:t≠79)(h:LwR E m kn s α G):LwR E m kn (s.setIfInBounds i true) (α.put (some t) v) G:=by
 simp only [mcN,not_or]at hi
 refine⟨fun a=>?_,fun a=>?_⟩
 ·rw [gs_ne hi.2]at a
  obtain⟨w1,w2⟩:=h.1 a
  refine⟨w1,fun b=>?_⟩
  rw [gs_ne hi.1]at b
  obtain⟨kx,kb,x1,x2⟩:=w2 b
  exact⟨kx,kb,by simpa [put_at,Ne.symm ht] using x1,x2⟩
 ·rw [gs_ne hi.2]at a
  exact⟨gs_mono (h.2 a).1,gs_mono (h.2 a).2⟩
def lwAD:List (Option Nat):=[some 73,some 74,some 75,some 76,some 77,some 78,some 79,some 80,some 81,some 82,some 83,some 84,some 4]
def lwAP:List (List Nat):=[[],[0],[1],[1],[1,3],[1],[1,4,5],[1],[1,2,6,7],[1],[1,8,9],[1,10],[0,1,2,3,4,5,6,7,8,9,10,11]]
def lwAV(n tb:Nat)(x:FramD)(pv wv bv qv mv:Value)(D:Bool)(i:Nat)(v:Value):Prop:=match i with
 | 0=>v=.bool true
 | 1=>v=.bool true
 | 2=>v=.agg #[.pointer (some ⟨tb,0,none⟩)]
 | 3=>v=.pointer (some ⟨n,0,none⟩)
 | 4=>v=.pointer (some ⟨tb,0,none⟩)
 | 5=>v=mv
 | 7=>v=.agg (frRow x pv wv bv qv).toArray
 | 8=>v=.bool D
 | 9=>v=.bool D
 | 10=>v=.bool true
 | 11=>v=.bool true
 | 12=>v=.bool true
 | _=>True
theorem lwA_nd:∀i j t:Nat,lwAD[i]?=some (some t)→lwAD[j]?=some (some t)→i=j:=by
 have h:∀i<13,∀j<13,∀t:Nat,lwAD[i]?=some (some t)→lwAD[j]?=some (some t)→i=j:=by
  intro i hi j hj t h1 h2
  have h3:lwAD[i]?=lwAD[j]?:=h1.trans h2.symm
  have h4:(lwAD[i]?.bind id).isSome=true:=by rw [h1];rfl
  revert h3 h4
  clear h1 h2
  revert i j
  decide
 intro i j t hi hj
 exact h i (gsI.1 hi).1 j (gsI.1 hj).1 t hi hj
theorem shows_law{γ:Nat→Option Nat}{H:AH}(hpw:Pw γ H){x:FramD}(hw:x.Wf){pv wv bv qv va:Value}(hp:KsV H pv x.op.parents)(hwho:InV H wv x.op.who)(hb:BxV H bv x.op.boxes)(hq:KsV H qv x.ids){L:List CookD}(hv:CkV H va L)(hL:∀x∈L,x.Wf)(hm:L.length≤maxLen):AC Tryd.prog H.length γ 4 #[.agg (frRow x pv wv bv qv).toArray,va] H (fun v' _=>v'=.bool true):=by
 have hal:=fun (G:AH) (hP:Pw γ G)=>alive_rc (γ:=γ) (H:=G) hP
 obtain⟨vnt,vcs,vln,_⟩:=hv.acc hL
 have hpl:plain1 (.slice none 0 0)=true:=rfl
 have hpp:plain1 (.pointer none)=true:=rfl
 have hOr:=opRow_len hw.op pv wv bv
 obtain⟨C,hC⟩:∃C,C=frRow x pv wv bv qv:=⟨_,rfl⟩
 have cl:C.length=74:=by rw [hC];simp [frRow,hOr]
 have tC:C.take 74=C:=tkL (by omega)
 obtain⟨W,hW⟩:∃W:AH,W=H++[some ⟨C, 51,none⟩]:=⟨_,rfl⟩
 have gF:hget W H.length=some ⟨C, 51,none⟩:=by rw [hW,hget_app0];rfl
 have lwW:Low H.length H W:=by rw [hW];exact Low.push (nlE _) _
 have hWl:W.length=H.length+1:=by rw [hW];simp
 have hvW:CkV W va L:=CD.Val.low (fun j hj=>lwW.1 j hj) hv
 have hgr:=great_rc (γ:=γ) hvW hL hm
 have hOC:OpC W (opRow x.op pv wv bv) x.op pv wv bv:=opC_row hw.op (CD.Val.low (fun j hj=>lwW.1 j hj) hp) (CD.Val.low (fun j hj=>lwW.1 j hj) hwho) (CD.Val.low (fun j hj=>lwW.1 j hj) hb)
 have hgo:=greatO_rc (γ:=γ) hOC hw.op
 have hpW:=hpw.low lwW
 have hqW:KsV W qv x.ids:=CD.Val.low (fun j hj=>lwW.1 j hj) hq
 obtain⟨qnt,qcs,qln,_⟩:=hqW.acc (fun k hk=>(hw.ids k hk).1)
 have hqm:x.ids.length≤9223372036854775807:=by have:=hw.ilen;simp only [maxLen]at this;omega
 rw [←hC]
 refine ac_of_aw Tryd.func4 rfl Tryd.ntmps4 Tryd.results4 (by simp) ?_
 (refine aso fun K hK=>?_;simp (disch:=first|omega|simp only [lnS];try omega) [-getElem?_pos,-getElem?_neg,cl,tC];refine hK _ _ ?_;clear hK K)
 rw [←hW]
 clear hW
 rw [hC]at gF
 clear hC cl tC
 have fB:=frB hw gF
 refine aw_seq (aw_seq ?_)
 refine aoo fun K hK=>?_
 simp (disch:=first|omega|simp only [lnS];try omega) [-getElem?_pos,-getElem?_neg]
 refine⟨by kernel_rfl,ac_of_rc (hal _ hpW) (by simp [pv_iv,pv_int,pv_bool,pv_string,pv_tup2,pv_tup3,iv_plain,p2_int,p2_bool,p2_string]) ?_⟩
 try simp (disch:=first|omega|simp only [lnS];try omega) [-getElem?_pos,-getElem?_neg]
 refine hK _ _ ?_;clear hK K
 refine awf (by simp<;>omega) ?_
 refine aw_skip ?_
 refine aw_seq (aw_seq ?_)
 generalize hg1:(decide (60<L.length)||L.any greatC)=g1 at *
 generalize hg2:greatO x.op=g2 at *
 refine aoo fun K hK=>?_
 simp (disch:=first|omega|simp only [lnS];try omega) [-getElem?_pos,-getElem?_neg,-notTuple,vnt,vcs]
 refine⟨by kernel_rfl,ac_of_rc hgr (by simp [pv_iv,pv_int,pv_bool,pv_string,pv_tup2,pv_tup3,iv_plain,p2_int,p2_bool,p2_string]) ?_⟩
 cases g1 with
 | true=>
  try simp (disch:=first|omega|simp only [lnS];try omega) [-getElem?_pos,-getElem?_neg,-notTuple]
  refine hK _ _ ?_;clear hK K
  refine awt (by simp<;>omega) ?_
  refine aso fun K hK=>?_
  simp (disch:=first|omega|simp only [lnS];try omega) [-getElem?_pos,-getElem?_neg]
  refine⟨by kernel_rfl,ac_of_rc (hal _ hpW) (by simp [pv_iv,pv_int,pv_bool,pv_string,pv_tup2,pv_tup3,iv_plain,p2_int,p2_bool,p2_string]) ?_⟩
  try simp (disch:=first|omega|simp only [lnS];try omega) [-getElem?_pos,-getElem?_neg]
  refine hK _ _ ?_;clear hK K
  (refine aw_ret ?_;simp (disch:=first|omega|simp only [lnS];try omega) [-getElem?_pos,-getElem?_neg])
 | false=>
 try simp (disch:=first|omega|simp only [lnS];try omega) [-getElem?_pos,-getElem?_neg,-xload,-xlen,fB.op,-notTuple]
 refine⟨by kernel_rfl,ac_of_rc hgo (by simp [pv_iv,pv_int,pv_bool,pv_string,pv_tup2,pv_tup3,iv_plain,p2_int,p2_bool,p2_string]) ?_⟩
 cases g2 with
 | true=>
  try simp (disch:=first|omega|simp only [lnS];try omega) [-getElem?_pos,-getElem?_neg,-notTuple]
  refine hK _ _ ?_;clear hK K
  refine awt (by simp<;>omega) ?_
  refine aso fun K hK=>?_
  simp (disch:=first|omega|simp only [lnS];try omega) [-getElem?_pos,-getElem?_neg]
  refine⟨by kernel_rfl,ac_of_rc (hal _ hpW) (by simp [pv_iv,pv_int,pv_bool,pv_string,pv_tup2,pv_tup3,iv_plain,p2_int,p2_bool,p2_string]) ?_⟩
  try simp (disch:=first|omega|simp only [lnS];try omega) [-getElem?_pos,-getElem?_neg]
  refine hK _ _ ?_;clear hK K
  (refine aw_ret ?_;simp (disch:=first|omega|simp only [lnS];try omega) [-getElem?_pos,-getElem?_neg])
 | false=>
 by_cases h40:40<x.ids.length
 ·have h40':(40:Int)<x.ids.length:=by omega
  try simp (disch:=first|omega|simp only [lnS];try omega) [-getElem?_pos,-getElem?_neg,-xload,-xlen,fB.ids,qln,qnt,qcs,h40',-notTuple]
  refine hK _ _ ?_;clear hK K
  refine awt (by simp<;>omega) ?_
  refine aso fun K hK=>?_
  simp (disch:=first|omega|simp only [lnS];try omega) [-getElem?_pos,-getElem?_neg]
  refine⟨by kernel_rfl,ac_of_rc (hal _ hpW) (by simp [pv_iv,pv_int,pv_bool,pv_string,pv_tup2,pv_tup3,iv_plain,p2_int,p2_bool,p2_string]) ?_⟩
  try simp (disch:=first|omega|simp only [lnS];try omega) [-getElem?_pos,-getElem?_neg]
  refine hK _ _ ?_;clear hK K
  (refine aw_ret ?_;simp (disch:=first|omega|simp only [lnS];try omega) [-getElem?_pos,-getElem?_neg])
 have h40':¬ (40:Int)<x.ids.length:=by omega
 try simp (disch:=first|omega|simp only [lnS];try omega) [-getElem?_pos,-getElem?_neg,-xload,-xlen,fB.ids,qln,qnt,qcs,h40',-notTuple]
 refine hK _ _ ?_;clear hK K
 rw [Bool.or_eq_false_iff]at hg1
 have h60:L.length≤60:=by have:=of_decide_eq_false hg1.1;omega
 have hLo:=ok_of hL hg1.2
 have hs:x.Sm:=sm_of hg2 (by omega)
 clear hgr hgo hg1 hg2 hOC hqW
 refine awf (by simp<;>omega) ?_
 refine aw_skip (aw_seq ?_)
 refine aoo fun K hK=>?_
 simp (disch:=first|omega|simp only [lnS];try omega) [-getElem?_pos,-getElem?_neg]
 refine⟨by kernel_rfl,AC.mono (newfree_ac (nro:=H.length) (H:=W) lwW.2) ?_⟩
 rintro v1 G ⟨tb,F,rfl,lw,t0,hF⟩
 have hnG:=lw.2
 have hnH:H.length≤G.length:=by omega
 try simp (disch:=first|omega|simp only [lnS];try omega) [-getElem?_pos,-getElem?_neg,hpp,hnG,hnH,-notTuple]
 refine hK _ _ ?_;clear hK K
 obtain⟨n,hn⟩:∃n,n=G.length:=⟨_,rfl⟩
 obtain⟨B,hB⟩:∃B:AH,B=G++[some ⟨[.pointer (some ⟨tb,0,none⟩)], 27,none⟩]:=⟨_,rfl⟩
 have gT:hget B n=some ⟨[.pointer (some ⟨tb,0,none⟩)], 27,none⟩:=by rw [hB,hn,hget_app0];rfl
 have lwB:Low G.length G B:=by rw [hB];exact Low.push (nlE _) _
 have tB:Tbl B tb F []:=t0.low (fun j hj=>lwB.1 j (t0.bound j hj)) lwB.2
 have lwWB:Low W.length W B:=⟨fun j hj=>(lwB.1 j (by omega)).trans (lw.1 j hj),by have:=lwB.2;omega⟩
 have lwHB:Low H.length H B:=⟨fun j hj=>(lwWB.1 j (by omega)).trans (lwW.1 j hj),by have:=lwWB.2;omega⟩
 have gF:=(lwWB.1 _ (hget_lt gF)).trans gF
 have nF:n∉F:=fun e=>by have:=t0.bound _ e;omega
 have fF:H.length∉F:=fun e=>by have:=hF _ e;omega
 have hF:∀j∈F,H.length≤j:=fun j hj=>by have:=hF j hj;omega
 have hBl:B.length=n+1:=by rw [hB,hn];simp
 have nfb:n≠H.length:=by omega
 rw [←hn,←hB]
 clear hB t0 lwB lwWB
 obtain⟨rb,hrb⟩:∃rb,rb=B.length:=⟨_,rfl⟩
 obtain⟨E,hE⟩:∃E:AH,E=B++[some ⟨[.slice none 0 0,.slice none 0 0], 33,none⟩]:=⟨_,rfl⟩
 have gR:hget E rb=some ⟨[.slice none 0 0,.slice none 0 0], 33,none⟩:=by rw [hE,hrb,hget_app0];rfl
 have lwE:Low B.length B E:=by rw [hE];exact Low.push (nlE _) _
 have lwHE:Low H.length H E:=⟨fun j hj=>(lwE.1 j (by have:=lwHB.2;omega)).trans (lwHB.1 j hj),by have:=lwE.2;have:=lwHB.2;omega⟩
 have gT:=(lwE.1 _ (hget_lt gT)).trans gT
 have gF:=(lwE.1 _ (hget_lt gF)).trans gF
 have tE:Tbl E tb F []:=tB.low (fun j hj=>lwE.1 j (tB.bound j hj)) lwE.2
 have pE:Pl H [n,H.length] E tb rb (.slice none 0 0) [] [] []:=pl0S lwHE tE hF gR (by rw [hrb];exact lwHB.2) (fun e=>by have:=tB.bound _ e;omega) (fun j hj=>by
  simp only [mcN]at hj
  rcases hj with rfl | rfl
  ·exact⟨hget_lt gT,nF,by omega⟩
  ·exact⟨hget_lt gF,fF,by omega⟩)
 have ldF:xload Tryd.prog 27 (.pointer (some ⟨n,0,none⟩)) E=some (.agg #[.pointer (some ⟨tb,0,none⟩)]):=by simp [xload,gT]
 (refine aso fun K hK=>?_;simp (disch:=first|omega|simp only [lnS];try omega) [-getElem?_pos,-getElem?_neg,hpl,-notTuple];refine hK _ _ ?_;clear hK K)
 rw [←hrb,←hE]
 refine aso fun K hK=>?_
 simp (disch:=first|omega|simp only [lnS];try omega) [-getElem?_pos,-getElem?_neg,-xload,ldF,-notTuple]
 refine⟨by kernel_rfl,AC.mono (secret_ac hpw pE) ?_⟩
 rintro v2 G2 ⟨r,rfl,gr,p2,s2⟩
 try simp (disch:=first|omega|simp only [lnS];try omega) [-getElem?_pos,-getElem?_neg,-notTuple]
 refine hK _ _ ?_;clear hK K
 have gT:=(s2 n (by simp)).trans gT
 have gF:=(s2 H.length (by simp)).trans gF
 obtain⟨F2,Ft,Fs,Fr2,Fk,tv,sv,LL,w⟩:=p2
 have t2:=w.a
 have hF2:=w.ra
 have lw2:=w.lw
 have rF2:=(w.s r (by simp)).2.1
 have nF2:=(w.s n (by simp)).2.1
 have fF2:=(w.s H.length (by simp)).2.1
 obtain⟨FR,hFR⟩:∃FR,FR=rb::(Ft++Fs++Fr2):=⟨_,rfl⟩
 have u2:RTbl G2 rb FR sT5:=⟨tv,sv,Ft,Fs,Fr2,LL,w.e.symm,w.b,hFR⟩
 have hFR2:∀j∈FR,H.length≤j:=by rw [hFR];exact w.rr
 have rFR:=(w.s r (by simp)).2.2.1
 have nFR:=(w.s n (by simp)).2.2.1
 have fFR:=(w.s H.length (by simp)).2.2.1
 have dFR:∀j∈F2,j∉FR:=by rw [hFR];exact w.ab
 rw [←hFR]at rFR nFR fFR
 clear w s2 pE tE tB lwE lwHE lwHB gR hE ldF hFR
 have ldF:xload Tryd.prog 27 (.pointer (some ⟨n,0,none⟩)) G2=some (.agg #[.pointer (some ⟨tb,0,none⟩)]):=by simp [xload,gT]
 have hln2:=hget_lt gT
 have hlf2:=hget_lt gF
 have hlr2:=hget_lt gr
 have hsv:KsP G2 (F2++FR) (.slice (some ⟨r,0,none⟩) 3 3) sSeen:=fun D hl hg=>kr_ksv (F:=[r]) (.inr ⟨r,3,rfl,(hg r hlr2 (by simp [rF2,rFR])).trans gr,rfl,rfl⟩) (fun k hk=>(sSeen_k k hk).1)
 have hlv:CkP G2 (F2++FR) va L:=hv.ckp hL lw2 (fun j hj=>by
  rcases maP.1 hj with e | e
  ·exact hF2 j e
  ·exact hFR2 j e)
 have hmk:=make_ac (γ:=γ) hpw lw2 t2 hF2 (hsv.less (fun j hj=>by simp [hj])) sSeen_k (hlv.less (fun j hj=>by simp [hj])) hLo h60 (by decide) sT5_few
 have hk0:=makeM_kind (seen:=sSeen) L (sT5,[]) sT5_k0
 refine aso fun K hK=>?_
 simp (disch:=first|omega|simp only [lnS];try omega) [-getElem?_pos,-getElem?_neg,-xload,ldF,-notTuple,vnt,vcs]
 refine⟨by kernel_rfl,AC.mono hmk ?_⟩
 rintro mv G3 ⟨⟨F3,f3,t3,k3⟩,mo⟩
 have mnt:=k3.ksp.nt
 try simp (disch:=first|omega|simp only [lnS];try omega) [-getElem?_pos,-getElem?_neg,-notTuple,mnt.1,mnt.2]
 refine hK _ _ ?_;clear hK K
 have lw3:Low H.length H G3:=lowFr lw2 hF2 f3
 have hF3:∀j∈F3,H.length≤j:=f3.lo hF2 lw2.2
 have gT:=(f3.out n hln2 nF2).trans gT
 have gF:=(f3.out H.length hlf2 fF2).trans gF
 have uR:∀j∈FR,j<G2.length:=u2.bound
 have f3R:Fr G2 G3 (F2++FR) (F3++FR):=⟨f3.len,fun j hj hn=>f3.out j hj (fun e=>hn (by simp [e])),fun j hj=>by
  rcases maP.1 hj with e | e
  ·rcases f3.new j e with e2 | e2
   ·exact .inl (by simp [e2])
   ·exact .inr e2
  ·exact .inl (by simp [e])⟩
 have u3:RTbl G3 rb FR sT5:=u2.low (fun j hj=>f3.out j (uR j hj) (fun e=>dFR j e hj)) f3.len
 have nF3:n∉F3:=fun e=>by
  rcases f3.new n e with e2 | e2
  ·exact nF2 e2
  ·omega
 have fF3:H.length∉F3:=fun e=>by
  rcases f3.new _ e with e2 | e2
  ·exact fF2 e2
  ·omega
 have dFR3:∀j∈F3,j∉FR:=fun j hj e=>by
  rcases f3.new j hj with e2 | e2
  ·exact dFR j e2 e
  ·have:=uR j e;omega
 have hsv3:=hsv.fr f3R
 have hlv3:=hlv.fr f3R
 have hrm:=rmakeAll_ac (γ:=γ) lw3 u3 hFR2 (hsv3.less (fun j hj=>by simp [hj])) sSeen_k (hlv3.less (fun j hj=>by simp [hj])) hLo h60 (by decide) sT5_few
 generalize hM:makeM sSeen L (sT5,[])=M at *
 obtain⟨T,made⟩:=M
 simp only at t3 k3 mo hrm hk0
 refine aso fun K hK=>?_
 simp (disch:=first|omega|simp only [lnS];try omega) [-getElem?_pos,-getElem?_neg,-notTuple,vnt,vcs]
 refine⟨by kernel_rfl,AC.mono hrm ?_⟩
 rintro rv G4 ⟨FR4,Fo,f4,u4,o4,d4⟩
 have rnt:=ownF_nt o4
 try simp (disch:=first|omega|simp only [lnS];try omega) [-getElem?_pos,-getElem?_neg,-notTuple,rnt.1,rnt.2]
 refine hK _ _ ?_;clear hK K
 have b3:=t3.bound
 have t4:Tbl G4 tb F3 T:=t3.low (fun j hj=>f4.out j (b3 j hj) (dFR3 j hj)) f4.len
 have hln3:=hget_lt gT
 have hlf3:=hget_lt gF
 have gT:=(f4.out n hln3 nFR).trans gT
 have gF:=(f4.out H.length hlf3 fFR).trans gF
 have lw4:Low H.length H G4:=lowFr lw3 hFR2 f4
 have hFR4:∀j∈FR4,H.length≤j:=fun j hj=>f4.lo hFR2 lw3.2 j (by simp [hj])
 have dR4:∀j∈F3,j∉FR4:=fun j hj e=>by
  rcases f4.new j (by simp [e]) with e2 | e2
  ·exact dFR3 j hj e2
  ·have:=b3 j hj;omega
 have nR4:n∉FR4:=fun e=>by
  rcases f4.new n (by simp [e]) with e2 | e2
  ·exact nFR e2
  ·omega
 have fR4:H.length∉FR4:=fun e=>by
  rcases f4.new H.length (by simp [e]) with e2 | e2
  ·exact fFR e2
  ·omega
 have f3len:=f3.len
 have f4len:=f4.len
 have hT10:T.length≤1000:=by have:=mo.t;omega
 clear hrm hmk hlv hsv3 hlv3 hsv u3 u2 f3R d4 o4 rnt
 have ldF:xload Tryd.prog 27 (.pointer (some ⟨n,0,none⟩)) G4=some (.agg #[.pointer (some ⟨tb,0,none⟩)]):=by simp [xload,gT]
 have ldC:=(frB hw gF).all
 have hky:=fkeys_ac (γ:=γ) (wv:=wv) hpw lw4 t4 hF3 hw hs (ksv_ksp hp lw4 hF3) (bxv_bxp hb lw4 hF3) (ksv_ksp hq lw4 hF3) (by omega)
 have hko:=kok_keys (T:=T) hw hs
 refine aso fun K hK=>?_
 simp (disch:=first|omega|simp only [lnS];try omega) [-getElem?_pos,-getElem?_neg,-xload,ldF,ldC,-notTuple]
 refine⟨by kernel_rfl,AC.mono hky ?_⟩
 rintro v9 G5 ⟨F5,Fo5,f5,t5,o5,d5⟩
 have nt9:=o5.k.nt
 try simp (disch:=first|omega|simp only [lnS];try omega) [-getElem?_pos,-getElem?_neg,-notTuple,nt9.1,nt9.2]
 refine hK _ _ ?_;clear hK K
 have b4:=u4.bound
 have hln4:=hget_lt gT
 have hlf4:=hget_lt gF
 have gT:=(f5.out n hln4 nF3).trans gT
 have gF:=(f5.out H.length hlf4 fF3).trans gF
 have lw5:Low H.length H G5:=lowFr lw4 hF3 f5
 have hF5:∀j∈F5++Fo5,H.length≤j:=f5.lo hF3 lw4.2
 have u5:RTbl G5 rb FR4 T:=u4.low (fun j hj=>f5.out j (b4 j hj) (fun e=>dR4 j e hj)) f5.len
 have d45:∀j∈F5++Fo5,j∉FR4:=fun j hj e=>by
  rcases f5.new j hj with e2 | e2
  ·exact dR4 j e2 e
  ·have:=b4 j e;omega
 have f5len:=f5.len
 have ldC:=(frB hw gF).all
 have hrk:=rkeys_ac (γ:=γ) (wv:=wv) lw5 u5 hFR4 hw hs (ksv_ksp hp lw5 hFR4) (bxv_bxp hb lw5 hFR4) (ksv_ksp hq lw5 hFR4) (by omega)
 refine aso fun K hK=>?_
 simp (disch:=first|omega|simp only [lnS];try omega) [-getElem?_pos,-getElem?_neg,-xload,ldC,-notTuple]
 refine⟨by kernel_rfl,AC.mono hrk ?_⟩
 rintro v10 G6 ⟨F6,Fo6,f6,u6,o6,d6⟩
 have nt10:=o6.k.nt
 try simp (disch:=first|omega|simp only [lnS];try omega) [-getElem?_pos,-getElem?_neg,-notTuple,nt10.1,nt10.2]
 refine hK _ _ ?_;clear hK K
 have hln5:=hget_lt gT
 have hlf5:=hget_lt gF
 have gT:=(f6.out n hln5 nR4).trans gT
 have gF:=(f6.out H.length hlf5 fR4).trans gF
 have lw6:Low H.length H G6:=lowFr lw5 hFR4 f6
 have f6len:=f6.len
 have b5:=t5.bound
 have t6:Tbl G6 tb F5 (keysS T x).1:=t5.low (fun j hj=>f6.out j (b5 j hj) (d45 j (by simp [hj]))) f6.len
 have o9:OwnX G6 v9 (keysS T x).2 Fo5:=o5.low (fun j hj=>f6.out j (o5.lt j hj) (d45 j (by simp [hj])))
 have hFE:∀j∈F5,H.length≤j:=fun j hj=>hF5 j (by simp [hj])
 have hmv:KsV G6 mv made:=k3 G6 (by omega) (fun j h1 h2 h3=>by
  have hj6:j∉FR4:=fun e=>by
   rcases f4.new j (maP.2 (.inl e)) with e2 | e2
   ·have:=uR j e2;omega
   ·omega
  rw [f6.out j (by omega) hj6,f5.out j (by omega) h3,f4.out j h2 (fun e=>by have:=uR j e;omega)])
 have hTK:TK (keysS T x).1:=TK.keys ⟨t3.wf,fun y hy h4=>two_of (t3.wf y hy) h4,hk0⟩ hs
 have hTl:=hko.n
 have hT':(keysS T x).1.length≤10000:=by omega
 have hTW:=hTK.tw (by omega)
 have hk32:∀k∈made,k.length=32:=fun k hk=>(mo.k k hk).1
 have hkby:∀k∈made,By k:=fun k hk=>(mo.k k hk).2
 have hkm:made.length≤1000000:=by have:=mo.m;omega
 have hs32:∀k∈(keysS T x).2,k.length=32:=fun k hk=>(hko.k k hk).1
 have hsby:∀k∈(keysS T x).2,By k:=fun k hk=>(hko.k k hk).2
 have hsl:=hko.m
 have hag:=keys_again T x
 have hsk:=sameKeys_rc (γ:=γ) (H:=G6) (own_ksv o9.k hs32) (own_ksv o6.k hs32) hs32 hs32 (by simp only [maxLen];omega)
 have hdd:decide ((keysS T x).2=(keysS T x).2)=true:=by simp
 rw [hdd]at hsk
 clear hky hrk o5 t5 t4 u4 u5 f6 f5 f4 f3 k3 hk0 hTl hko
 refine aw_seq (aw_seq ?_)
 refine aoo fun K hK=>?_
 simp (disch:=first|omega|simp only [lnS];try omega) [-getElem?_pos,-getElem?_neg,-notTuple,nt9.1,nt9.2,nt10.1,nt10.2]
 refine⟨by kernel_rfl,ac_of_rc hsk (by simp [pv_iv,pv_int,pv_bool,pv_string,pv_tup2,pv_tup3,iv_plain,p2_int,p2_bool,p2_string]) ?_⟩
 try simp (disch:=first|omega|simp only [lnS];try omega) [-getElem?_pos,-getElem?_neg,-notTuple]
 refine hK _ _ ?_;clear hK K
 refine awf (by simp<;>omega) ?_
 refine aw_skip ?_
 generalize hTd:(keysS T x).1=T' at *
 generalize hsd:(keysS T x).2=ks at *
 obtain⟨tv6,sv6,Ft6,Fs6,Fk6,L6,hL6,R6,hFR6⟩:=u6
 have hrf:=rfollow_ac (nro:=H.length) (γ:=γ) R6 lw6.2 (by rw [←hL6];exact hTW) (by rw [←hL6];exact hTK.k0) hmv hk32 hkby hkm
 rw [←hL6]at hrf
 have hL6l:L6.length=T'.length:=by rw [hL6];simp
 refine aso fun K hK=>?_
 simp (disch:=first|omega|simp only [lnS];try omega) [-getElem?_pos,-getElem?_neg,-notTuple,mnt.1,mnt.2]
 refine⟨by kernel_rfl,AC.mono hrf ?_⟩
 rintro v11 G7 ⟨rfl,lw67,g11⟩
 try simp (disch:=first|omega|simp only [lnS];try omega) [-getElem?_pos,-getElem?_neg,-notTuple]
 refine hK _ _ ?_;clear hK K
 have lw7:Low H.length H G7:=⟨fun j hj=>(lw67.1 j (by have:=lw6.2;omega)).trans (lw6.1 j hj),by have:=lw67.2;have:=lw6.2;omega⟩
 have gT:=(lw67.1 n (hget_lt gT)).trans gT
 have gF:=(lw67.1 H.length (hget_lt gF)).trans gF
 have tE:Tbl G7 tb F5 T':=t6.low (fun j hj=>lw67.1 j (t6.bound j hj)) lw67.2
 have R7:RTblF G7 rb tv6 sv6 Ft6 Fs6 Fk6 L6:=R6.low (fun j hj=>lw67.1 j (R6.bound j hj)) lw67.2
 have hmv:KsV G7 mv made:=CD.Val.low (fun j hj=>lw67.1 j hj) hmv
 have hrv:KsV G7 v10 ks:=CD.Val.low (fun j hj=>lw67.1 j hj) (own_ksv o6.k hs32)
 obtain⟨rnt,rcs,rln,rat⟩:=hrv.acc hs32
 rw [←hL6l]
 have hfl:(folL T' made).length=L6.length:=(fol_len _ _).trans hL6l.symm
 (refine aso fun K hK=>?_;simp (disch:=first|omega|simp only [lnS];try omega) [-getElem?_pos,-getElem?_neg];refine hK _ _ ?_;clear hK K)
 refine aw_seq (aw_seq ?_)
 (refine aoo fun K hK=>?_;simp (disch:=first|omega|simp only [lnS];try omega) [-getElem?_pos,-getElem?_neg];refine hK _ _ ?_;clear hK K)
 refine aw_block ?_
 refine aw_loop (fun q α G=>∃i:Nat,i+q=ks.length∧α 2=.pointer (some ⟨H.length,0,none⟩)∧α 5=.pointer (some ⟨n,0,none⟩)∧α 6=.pointer (some ⟨rb,0,none⟩)∧α 8=mv∧α 10=v10∧α 11=.slice (some ⟨G6.length,0,none⟩) L6.length L6.length∧α 12=.bool ((ks.take i).all (fol (folL T' made)))∧α 13=.int .i64 (i:Nat)∧G=G7) ks.length ?_ ?_
 ·exact⟨0,by omega,by (first|simp;done|rfl),by (first|simp;done|rfl),by (first|simp;done|rfl),by (first|simp;done|rfl),by (first|simp;done|rfl),by (first|simp;done|rfl),by (first|simp;done|rfl),by (first|simp;done|rfl),rfl⟩
 rintro q α G ⟨i,hiq,e2,e5,e6,e8,e10,e11,e12,e13,rfl⟩
 refine aw_seq (aw_seq ?_)
 by_cases hi:i<ks.length
 ·have hi':(i:Int)<ks.length:=by omega
  obtain⟨pj,xj,q1,q2,q3,rfl,q4⟩:=rat i hi
  have q4:=q4 G (Low.refl (nlE _))
  have mj:=getD_mem (l:=ks) (i:=i) hi
  have hgj:ks[i]?=some (ks.getD i []):=by rw [gdD,geE hi];rfl
  have k32:=hs32 _ mj
  have kby:=hsby _ mj
  have hsn:=all_snoc (f:=fol (folL T' made)) hgj
  obtain⟨k,hkd⟩:∃k,k=ks.getD i []:=⟨_,rfl⟩
  rw [←hkd]at q4 k32 kby hsn
  have tk:(iv .u8 k).take 32=iv .u8 k:=tkL (by rw [iv_length];omega)
  have hha:=has_rc (γ:=γ) R7 g11 hfl (by omega) k32 kby
  (refine aoo fun K hK=>?_;simp (disch:=first|omega|simp only [lnS];try omega) [-getElem?_pos,-getElem?_neg,e10,e13,-xlen,rln,rnt,rcs,hi',-notTuple];refine hK _ _ ?_;clear hK K)
  refine awt (by simp<;>omega) ?_
  refine aw_skip (aw_seq ?_)
  refine aw_block ?_
  generalize (ks.take i).all (fol (folL T' made))=ba at *
  refine aoo fun K hK=>?_
  cases ba with
  | false=>
   rw [Bool.false_and]at hsn
   simp (disch:=first|omega|simp only [lnS];try omega) [-getElem?_pos,-getElem?_neg,e12,-notTuple]
   refine hK _ _ ?_;clear hK K
   (refine aoo fun K hK=>?_;simp (disch:=first|omega|simp only [lnS];try omega) [-getElem?_pos,-getElem?_neg,e13];refine hK _ _ ?_;clear hK K)
   exact⟨q-1,by omega,i+1,by omega,by (first|simp [e2];done|rfl),by (first|simp [e5];done|rfl),by (first|simp [e6];done|rfl),by (first|simp [e8];done|rfl),by (first|simp [e10];done|rfl),by (first|simp [e11];done|rfl),by rw [hsn];(first|simp;done|rfl),by (first|simp;done|rfl),rfl⟩
  | true=>
   rw [Bool.true_and]at hsn
   simp (disch:=first|omega|simp only [lnS];try omega) [-getElem?_pos,-getElem?_neg,e6,e10,e11,e12,e13,-xload,q4,-xindexAddr,q2,q1,rnt,rcs,tk,-notTuple]
   refine⟨by kernel_rfl,ac_of_rc hha (by simp [pv_iv,pv_int,pv_bool,pv_string,pv_tup2,pv_tup3,iv_plain,p2_int,p2_bool,p2_string]) ?_⟩
   try simp (disch:=first|omega|simp only [lnS];try omega) [-getElem?_pos,-getElem?_neg,-notTuple]
   refine hK _ _ ?_;clear hK K
   (refine aoo fun K hK=>?_;simp (disch:=first|omega|simp only [lnS];try omega) [-getElem?_pos,-getElem?_neg,e13];refine hK _ _ ?_;clear hK K)
   exact⟨q-1,by omega,i+1,by omega,by (first|simp [e2];done|rfl),by (first|simp [e5];done|rfl),by (first|simp [e6];done|rfl),by (first|simp [e8];done|rfl),by (first|simp [e10];done|rfl),by (first|simp [e11];done|rfl),by rw [hsn];(first|simp;done|rfl),by (first|simp;done|rfl),rfl⟩
 obtain rfl:i=ks.length:=by omega
 rw [tkL (nlE _)]at e12
 (refine aoo fun K hK=>?_;simp (disch:=first|omega|simp only [lnS];try omega) [-getElem?_pos,-getElem?_neg,e10,e13,-xlen,rln,rnt,rcs,-notTuple];refine hK _ _ ?_;clear hK K)
 refine awf (by simp<;>omega) ?_
 refine aw_exit (aw_seq ?_)
 have lwE:=lw7
 have hd0:(keysS T' x).2=ks:=by rw [hag];exact hsd
 obtain⟨D,hD⟩:∃D,D=(keysS T' x).2.all (fol (folL T' made)):=⟨_,rfl⟩
 rw [←hd0,←hD]at e12
 refine name_aw (fun β hβ=>?_)
 have e2:β 2=.pointer (some ⟨H.length,0,none⟩):=by rw [hβ];(first|simp [e2];done|rfl)
 have e5:β 5=.pointer (some ⟨n,0,none⟩):=by rw [hβ];(first|simp [e5];done|rfl)
 have e8:β 8=mv:=by rw [hβ];(first|simp [e8];done|rfl)
 have e12:β 12=.bool D:=by rw [hβ];(first|simp [e12];done|rfl)
 clear hβ e6 e10 e11 e13
 obtain⟨E7,hE7⟩:∃E7,E7=G:=⟨_,rfl⟩
 rw [←hE7]at tE gT gF lwE hmv ⊢
 clear hE7 R7 g11 hrv rat
 refine aw_inv lwAP (JT lwAD (lwAV n tb x pv wv bv qv mv D) β (LwR E7 T'.length (folL T' made))) (by kernel_rfl) (by kernel_rfl) (by kernel_rfl) ?_ ?_ ?_
 ·exact⟨by simp;rfl,fun _ _=>rfl,fun i t' hi h=>(by rw [gs_0]at h;cases h),fun _=>⟨Low.refl (nlE _),fun h=>(by rw [gs_0]at h;cases h)⟩,fun h=>(by rw [gs_0]at h;cases h)⟩
 ·intro i s α G k hJ hi0 hsi hd hcc hcont
  have j2:=(hJ.lo 2 (by decide)).trans e2
  have j5:=(hJ.lo 5 (by decide)).trans e5
  have j8:=(hJ.lo 8 (by decide)).trans e8
  have j12:=(hJ.lo 12 (by decide)).trans e12
  have hi:i=0∨i=1∨i=2∨i=3∨i=4∨i=5∨i=6∨i=7∨i=8∨i=9∨i=10∨i=11∨i=12:=by have hi0:i<13:=hi0;omega
  rcases hi with rfl | rfl | rfl | rfl | rfl | rfl | rfl | rfl | rfl | rfl | rfl | rfl | rfl <;> (unfold XOm;simp only [gcS])
  ·have s8f:s.getD 8 false=false:=by
    cases h8:s.getD 8 false with
    | false=>rfl
    | true=>have:=(hJ.hp.2 h8).2;rw [hcc 1 (by decide)]at this;cases this
   obtain⟨lw,hfv⟩:=hJ.hp.1 s8f
   have lwG:Low H.length H G:=⟨fun j hj=>(lw.1 j (by have:=lwE.2;omega)).trans (lwE.1 j hj),by have:=lw.2;have:=lwE.2;omega⟩
   simp (disch:=first|omega|simp only [lnS];try omega) [-getElem?_pos,-getElem?_neg]
   refine⟨by kernel_rfl,ac_of_rc (alive_rc (γ:=γ) (H:=G) (hpw.low lwG)) (by simp [pv_iv,pv_int,pv_bool,pv_string,pv_tup2,pv_tup3,iv_plain,p2_int,p2_bool,p2_string]) ?_⟩
   exact hcont _ _ (hJ.put lwA_nd (t:=73) rfl rfl (LwR.keep (by decide) (by decide) hJ.hp))
  ·have f0:α 73=_:=hJ.val 0 73 rfl (hd 0 (by decide))
   simp (disch:=first|omega|simp only [lnS];try omega) [-getElem?_pos,-getElem?_neg,-notTuple,mnt.1,f0]
   exact hcont _ _ (hJ.put lwA_nd (t:=74) rfl rfl (LwR.keep (by decide) (by decide) hJ.hp))
  ·have f1:α 74=_:=hJ.val 1 74 rfl (hd 1 (by decide))
   obtain⟨lw,hfv⟩:=hJ.hp.1 (hcc 8 (by decide))
   have lwG:Low H.length H G:=⟨fun j hj=>(lw.1 j (by have:=lwE.2;omega)).trans (lwE.1 j hj),by have:=lw.2;have:=lwE.2;omega⟩
   have gTn:=(lw.1 _ (hget_lt gT)).trans gT
   have gFb:=(lw.1 _ (hget_lt gF)).trans gF
   have ldT:=ld_tb gTn
   have ldF:xload Tryd.prog 27 (.pointer (some ⟨n,0,none⟩)) G=some (.agg #[.pointer (some ⟨tb,0,none⟩)]):=by simp [xload,gTn]
   have ldC:=(frB hw gFb).all
   simp (disch:=first|omega|simp only [lnS];try omega) [-getElem?_pos,-getElem?_neg,-notTuple,mnt.1,j5,-xload,ldF,f1]
   exact hcont _ _ (hJ.put lwA_nd (t:=75) rfl rfl (LwR.keep (by decide) (by decide) hJ.hp))
  ·have f1:α 74=_:=hJ.val 1 74 rfl (hd 1 (by decide))
   simp (disch:=first|omega|simp only [lnS];try omega) [-getElem?_pos,-getElem?_neg,-notTuple,mnt.1,j5,f1]
   exact hcont _ _ (hJ.put lwA_nd (t:=76) rfl rfl (LwR.keep (by decide) (by decide) hJ.hp))
  ·have f1:α 74=_:=hJ.val 1 74 rfl (hd 1 (by decide))
   have f3:α 76=_:=hJ.val 3 76 rfl (hd 3 (by decide))
   have s8f:s.getD 8 false=false:=by
    cases h8:s.getD 8 false with
    | false=>rfl
    | true=>have:=(hJ.hp.2 h8).1;rw [hcc 6 (by decide)]at this;cases this
   obtain⟨lw,hfv⟩:=hJ.hp.1 (s8f)
   have lwG:Low H.length H G:=⟨fun j hj=>(lw.1 j (by have:=lwE.2;omega)).trans (lwE.1 j hj),by have:=lw.2;have:=lwE.2;omega⟩
   have gTn:=(lw.1 _ (hget_lt gT)).trans gT
   have gFb:=(lw.1 _ (hget_lt gF)).trans gF
   have ldT:=ld_tb gTn
   have ldF:xload Tryd.prog 27 (.pointer (some ⟨n,0,none⟩)) G=some (.agg #[.pointer (some ⟨tb,0,none⟩)]):=by simp [xload,gTn]
   have ldC:=(frB hw gFb).all
   simp (disch:=first|omega|simp only [lnS];try omega) [-getElem?_pos,-getElem?_neg,-notTuple,mnt.1,-xload,ldT,f1,f3]
   exact hcont _ _ (hJ.put lwA_nd (t:=77) rfl rfl (LwR.keep (by decide) (by decide) hJ.hp))
  ·have f1:α 74=_:=hJ.val 1 74 rfl (hd 1 (by decide))
   simp (disch:=first|omega|simp only [lnS];try omega) [-getElem?_pos,-getElem?_neg,-notTuple,mnt.1,j8,f1]
   exact hcont _ _ (hJ.put lwA_nd (t:=78) rfl rfl (LwR.keep (by decide) (by decide) hJ.hp))
  ·have f1:α 74=_:=hJ.val 1 74 rfl (hd 1 (by decide))
   have f4:α 77=_:=hJ.val 4 77 rfl (hd 4 (by decide))
   have f5:α 78=_:=hJ.val 5 78 rfl (hd 5 (by decide))
   obtain⟨lw,hfv⟩:=hJ.hp.1 (hcc 8 (by decide))
   have lwG:Low H.length H G:=⟨fun j hj=>(lw.1 j (by have:=lwE.2;omega)).trans (lwE.1 j hj),by have:=lw.2;have:=lwE.2;omega⟩
   have tG:=tE.low (fun j hj=>lw.1 j (tE.bound j hj)) lw.2
   simp (disch:=first|omega|simp only [lnS];try omega) [-getElem?_pos,-getElem?_neg,f1,f4,f5]
   refine⟨by kernel_rfl,AC.mono (follow_ac (nro:=H.length) (γ:=γ) (hpw.low lwG) tG lwG.2 hTW (CD.Val.low (fun j hj=>lw.1 j hj) hmv) hk32 hkby hkm) ?_⟩
   rintro v' G' ⟨kx,kb,rfl,lw2,g1,g2,l1,l2⟩
   have lwl:=lw.2
   exact hcont _ _ (hJ.put lwA_nd (t:=79) rfl trivial ⟨fun a=>⟨⟨fun j hj=>(lw2.1 j (by omega)).trans (lw.1 j hj),by have:=lw2.2;omega⟩,fun _=>⟨kx,kb,by (first|simp;done|rfl),by omega,by omega,g1,g2⟩⟩,fun a=>by rw [gs_ne (by decide),hcc 8 (by decide)]at a;cases a⟩)
  ·have f1:α 74=_:=hJ.val 1 74 rfl (hd 1 (by decide))
   obtain⟨lw,hfv⟩:=hJ.hp.1 (hcc 8 (by decide))
   have lwG:Low H.length H G:=⟨fun j hj=>(lw.1 j (by have:=lwE.2;omega)).trans (lwE.1 j hj),by have:=lw.2;have:=lwE.2;omega⟩
   have gTn:=(lw.1 _ (hget_lt gT)).trans gT
   have gFb:=(lw.1 _ (hget_lt gF)).trans gF
   have ldT:=ld_tb gTn
   have ldF:xload Tryd.prog 27 (.pointer (some ⟨n,0,none⟩)) G=some (.agg #[.pointer (some ⟨tb,0,none⟩)]):=by simp [xload,gTn]
   have ldC:=(frB hw gFb).all
   simp (disch:=first|omega|simp only [lnS];try omega) [-getElem?_pos,-getElem?_neg,-notTuple,mnt.1,j2,-xload,ldC,f1]
   exact hcont _ _ (hJ.put lwA_nd (t:=80) rfl rfl (LwR.keep (by decide) (by decide) hJ.hp))
  ·have f1:α 74=_:=hJ.val 1 74 rfl (hd 1 (by decide))
   have f2:α 75=_:=hJ.val 2 75 rfl (hd 2 (by decide))
   have f7:α 80=_:=hJ.val 7 80 rfl (hd 7 (by decide))
   obtain⟨lw,hfv⟩:=hJ.hp.1 hsi
   obtain⟨kx,kb,ef,l1,l2,g1,g2⟩:=hfv (hd 6 (by decide))
   have lwG:Low H.length H G:=⟨fun j hj=>(lw.1 j (by have:=lwE.2;omega)).trans (lwE.1 j hj),by have:=lw.2;have:=lwE.2;omega⟩
   have tG:=tE.low (fun j hj=>lw.1 j (tE.bound j hj)) lw.2
   simp (disch:=first|omega|simp only [lnS];try omega) [-getElem?_pos,-getElem?_neg,f1,f2,f7,ef]
   refine⟨by kernel_rfl,AC.mono (fair_ac (H0:=H) (γ:=γ) hpw lwG tG hFE hw hs (ksv_ksp hp lwG hFE) (bxv_bxp hb lwG hFE) (ksv_ksp hq lwG hFE) hT' g1 g2 (fun e=>by have:=tE.bound _ e;omega) (fun e=>by have:=tE.bound _ e;omega) (fol_len _ _) (by omega)) ?_⟩
   rintro v' G' hv
   rw [←hD]at hv
   subst hv
   exact hcont _ _ (hJ.put lwA_nd (t:=81) rfl rfl ⟨(fun a=>by rw [gs_eq (by rw [hJ.sz];decide)]at a;cases a),fun _=>⟨by rw [gs_ne (by decide)];exact hd 6 (by decide),by rw [gs_ne (by decide)];exact hd 1 (by decide)⟩⟩)
  ·have f1:α 74=_:=hJ.val 1 74 rfl (hd 1 (by decide))
   simp (disch:=first|omega|simp only [lnS];try omega) [-getElem?_pos,-getElem?_neg,-notTuple,mnt.1,j12,f1]
   exact hcont _ _ (hJ.put lwA_nd (t:=82) rfl rfl (LwR.keep (by decide) (by decide) hJ.hp))
  ·have f1:α 74=_:=hJ.val 1 74 rfl (hd 1 (by decide))
   have f8:α 81=_:=hJ.val 8 81 rfl (hd 8 (by decide))
   have f9:α 82=_:=hJ.val 9 82 rfl (hd 9 (by decide))
   simp (disch:=first|omega|simp only [lnS];try omega) [-getElem?_pos,-getElem?_neg,f1,f8,f9]
   exact hcont _ _ (hJ.put lwA_nd (t:=83) rfl rfl (LwR.keep (by decide) (by decide) hJ.hp))
  ·have f1:α 74=_:=hJ.val 1 74 rfl (hd 1 (by decide))
   have f10:α 83=_:=hJ.val 10 83 rfl (hd 10 (by decide))
   simp (disch:=first|omega|simp only [lnS];try omega) [-getElem?_pos,-getElem?_neg,-notTuple,mnt.1,f1,f10]
   exact hcont _ _ (hJ.put lwA_nd (t:=84) rfl rfl (LwR.keep (by decide) (by decide) hJ.hp))
  ·have f0:α 73=_:=hJ.val 0 73 rfl (hd 0 (by decide))
   have f1:α 74=_:=hJ.val 1 74 rfl (hd 1 (by decide))
   have f2:α 75=_:=hJ.val 2 75 rfl (hd 2 (by decide))
   have f3:α 76=_:=hJ.val 3 76 rfl (hd 3 (by decide))
   have f4:α 77=_:=hJ.val 4 77 rfl (hd 4 (by decide))
   have f5:α 78=_:=hJ.val 5 78 rfl (hd 5 (by decide))
   have f7:α 80=_:=hJ.val 7 80 rfl (hd 7 (by decide))
   have f8:α 81=_:=hJ.val 8 81 rfl (hd 8 (by decide))
   have f9:α 82=_:=hJ.val 9 82 rfl (hd 9 (by decide))
   have f10:α 83=_:=hJ.val 10 83 rfl (hd 10 (by decide))
   have f11:α 84=_:=hJ.val 11 84 rfl (hd 11 (by decide))
   simp (disch:=first|omega|simp only [lnS];try omega) [-getElem?_pos,-getElem?_neg,-notTuple,mnt.1,f0,f1,f2,f3,f4,f5,f7,f8,f9,f10,f11]
   exact hcont _ _ (hJ.put lwA_nd (t:=4) rfl rfl (LwR.keep (by decide) (by decide) hJ.hp))
 rintro s α G2 hJ hall
 have a4:α 4=.bool true:=hJ.val 12 4 rfl (by
  rw [agD,Array.getElem?_eq_getElem (by have:s.size=13:=hJ.sz;omega)]
  exact Array.all_eq_true.1 hall 12 (by have:s.size=13:=hJ.sz;omega))
 clear hall hJ
 (refine aw_ret ?_;simp (disch:=first|omega|simp only [lnS];try omega) [-getElem?_pos,-getElem?_neg,a4])
theorem shows_in{γ:Nat→Option Nat}{H:AH}(hpw:Pw γ H){df dl:List CD}{uf:List Value}{ul:Value}(okf:OkL frameK df)(vlf:ValL H df uf)(okl:OkL [CK.sl cookK] dl)(vll:ValL H dl [ul]):AC Tryd.prog H.length γ 4 #[.agg uf.toArray,ul] H (fun v' _=>v'=.bool true):=by
 obtain⟨x,rfl,hw⟩:=frame_of okf
 obtain⟨pv,wv,bv,qv,rfl,h1,h2,h3,h4⟩:=frame_c hw vlf
 obtain⟨d,r,rfl,o1,o2⟩:=okl.cons
 obtain rfl:=o2.nil
 obtain⟨L,rfl,hL,hm⟩:=cooks_of o1
 obtain⟨u0,r0,e,v0,n0'⟩:=vll.cons
 obtain rfl:=n0'.nil
 cases e
 exact shows_law hpw hw h1 h2 h3 h4 v0 hL hm
end
end
end Go.Proofs.YtlaglpnbmkoakaaDoor
