/-
  Table: Agree.
-/
import Derived.Test.YtlaglpnbmkoakaaDoorFvC
import Derived.Test.YtlaglpnbmkoakaaDoorFvB
namespace Go.Proofs.YtlaglpnbmkoakaaDoor
open Go Go.RowKit
set_option linter.unusedSimpArgs false
set_option linter.unusedVariables false
set_option maxRecDepth 100000
set_option maxHeartbeats 8000000
section
attribute [local simp] wb_bool wb_undef with_lit XL_nil XL_cons XLc_val XLc_call step1_eq stepW_t stepW_f stepC_n stepC_s stepX_s stepX_n stepN_s calleeX xrecv oneV xop_eq xopR_s xopR_n wantedA_eq wantedG_n wantedG_s plain1_int plain1_bool plain1_string bits_i64 bits_u64 bits_u32 bits_u16 bits_u8 xeqA xagg xcmp xarr allK_iv num_iv calleeOf xread xeff xbin xint xnil xun xstr xload xconv xpart xfield xfieldAddr xindexAddr xindex bnd asInt? xslice xlen xmin xmax xbuild xfill xappend xapp2 xappstr xappmk xcap xcopy xcells eval_tmp eval_const put_at put_none fr0_at cells_agg cells_int cells_bool cells_string cells_ptr cells_slice notTuple tab iv_all hget_app hget_app0 hget_cons0 hget_cons set_app set_app0 setR setR_one QL_nil QL_cons QLc_val stepQ_t stepQ_f stepQC_n stepQC_s stepQX_s SL_nil SL_cons SLc_val stepS_t stepS_f ltT ltF leT leF eqT eqF ltTn ltFn leTn leFn eqTn eqFn beqT beqF bneT bneF wi64 wu64 wu32 wu16 wu8 tmodP tdivP hgetL hgetNe hgetEq setL nums_def nums_len Nat.succ_le_of_lt List.getElem?_cons_zero List.getElem?_cons_succ Option.getD_some Int.toNat_add Int.toNat_mul agM okM agB agI agS agP agL agA okB okI okS okP okSl okA nt_strG nt_boolG nt_aggG nt_intG nt_ptrG nt_slG thenQ_ret scopeQ_ret inBlockQ_ret RQ resL resV PL_nil plainB_lit PL_cons PLc_val PLc_new stepP_t stepP_f stepPC_n stepPC_s stepPX_s stepPX_n stepPV_n stepPV_s stepPA_t stepPA_c stepPA_l stepPN_s allocOp reloc_sl reloc_ptr
section
theorem TermQ.layG{H H2 G:AH}{b:Nat}{F:List Nat}{T:List TermD}{x:TermD}{v:Value}(h:TermQ H2 b F T x v G)(lw:Low H.length H H2)(hF:∀j∈F,j<H.length){r:Nat}(hr0:H.length≤r)(hr:hget H2 r=some ⟨iv .u8 (zl 32), 41,none⟩):∃N:List Int,N=nmL (nameT x T)∧N.length=32∧(iv .u8 N).take 32=iv .u8 N∧setR (iv .u8 (zl 32)) 0 (iv .u8 N)=iv .u8 N∧v=.agg (iv .u8 N).toArray∧r<G.length∧hget G r=some ⟨iv .u8 (zl 32), 41,none⟩∧∀X:Option Blk,TermQ H b F T x (.agg (iv .u8 N).toArray) (G.set r X):=by
 obtain⟨h0,h2,h3,F',h4,h5⟩:=h
 have hl:=hget_lt hr
 have hn:r∉F:=fun e=>by have:=hF _ e;omega
 have hg:=(h3 r hl hn).trans hr
 have hle:=lw.2
 refine⟨nmL (nameT x T),rfl,rfl,rfl,?_,h0,hget_lt hg,hg,fun X=>⟨rfl,by simp;omega,fun j hj hjn=>?_,F',h4.low (fun j hj=>hget_set_ne ?_) (by simp),fun j hj=>?_⟩⟩
 ·exact setR_all _ _ (by simp [nmL_len])
 ·rw [hget_set_ne (by omega),h3 j (by omega) hjn,lw.1 j hj]
 ·rcases h5 j hj with h | h
  ·have:=hF j h;omega
  ·omega
 ·rcases h5 j hj with h | h
  ·exact .inl h
  ·exact .inr (by omega)
theorem hget_at2(G:AH)(R R2:Option Blk):hget (G++[R,R2]) (G.length+1)=R2:=by rw [hget_app];rfl
theorem wf_two{n:Nat}(hn:n=4∨n=5){k l:List Int}(hk:k.length=32)(hb:By k)(hl:l.length=32)(hbl:By l):TermD.Wf ⟨n,⟨#[]⟩,[k,l]⟩:=by
 refine⟨(by show n≤6;omega),(by show (0:Nat)≤_;omega),fun y hy=>?_,fun y hy=>?_,(by show 2≤1000000;omega),fun h=>?_,fun h=>rfl,fun h=>?_⟩
 ·rcases List.mem_cons.1 hy with rfl | hy
  ·exact hk
  ·rw [msG.1 hy];exact hl
 ·rcases List.mem_cons.1 hy with rfl | hy
  ·exact hb
  ·rw [msG.1 hy];exact hbl
 all_goals
  have h:n=_:=h
  omega
def agreeT(T:List TermD)(s p:List Int):TermD:=match findT T p with
 | some x=>if x.kind=3 then (if 0<cmpL s (x.keys.getD 0 []) then ⟨4,⟨#[]⟩,[x.keys.getD 0 [],s]⟩ else ⟨4,⟨#[]⟩,[s,x.keys.getD 0 []]⟩) else ⟨5,⟨#[]⟩,[s,p]⟩
 | none=>⟨5,⟨#[]⟩,[s,p]⟩
def AgreeQ(H:AH)(b:Nat)(F:List Nat)(T:List TermD)(s p:List Int)(v':Value)(H':AH):Prop:=
 (p=zl 32∧v'=.tuple #[.agg (iv .u8 (zl 32)).toArray,.bool false]∧Low H.length H H')∨(p≠zl 32∧∃v1,v'=.tuple #[v1,.bool true]∧TermQ H b F T (agreeT T s p) v1 H')
theorem row2{C a b:List Value}(h:C.length=64)(ha:a.length=32)(hb:b.length=32):setR (setR C 0 a) 32 b=a++b:=by
 have e:=setR_app a b C 0
 rw [Nat.zero_add,ha]at e
 rw [←e,setR_all _ _ (by rw [laP];omega)]
theorem agree0_ac{nro:Nat}{γ:Nat→Option Nat}{H:AH}{b:Nat}{F:List Nat}{T:List TermD}(hnH:nro≤H.length){s:List Int}(hs:s.length=32):AC Tryd.prog nro γ 54 #[.pointer (some ⟨b,0,none⟩),.agg (iv .u8 s).toArray,.agg (iv .u8 (zl 32)).toArray] H (AgreeQ H b F T s (zl 32)):=by
 have hts:(iv .u8 s).take 32=iv .u8 s:=tkL (by simp [hs])
 have hz:(List.take 32 (zl 32)==zl 32)=true:=by decide
 have hz2:setR (iv .u8 (zl 32)) 0 (iv .u8 (zl 32))=iv .u8 (zl 32):=rfl
 refine ac_of_aw Tryd.func54 rfl Tryd.ntmps54 Tryd.results54 (by simp) ?_
 (refine aso fun K hK=>?_;simp (disch:=first|omega|simp only [lnS];try omega) [-getElem?_pos,-getElem?_neg,hts];refine hK _ _ ?_;clear hK K)
 refine aw_seq (aw_seq ?_)
 (refine aoo fun K hK=>?_;simp (disch:=first|omega|simp only [lnS];try omega) [-getElem?_pos,-getElem?_neg,hz];refine hK _ _ ?_;clear hK K)
 refine awt (by simp<;>omega) ?_
 (refine aso fun K hK=>?_;simp (disch:=first|omega|simp only [lnS];try omega) [-getElem?_pos,-getElem?_neg,hz2];refine hK _ _ ?_;clear hK K)
 (refine aw_ret ?_;simp (disch:=first|omega|simp only [lnS];try omega) [-getElem?_pos,-getElem?_neg])
 exact .inl ⟨rfl,rfl,Low.push (nlE _) _⟩
theorem agreeN_ac{nro:Nat}{γ:Nat→Option Nat}{H:AH}(hpw:Pw γ H){b:Nat}{F:List Nat}{T:List TermD}(h:Tbl H b F T)(hnro:∀j∈F,nro≤j)(hnH:nro≤H.length){s p:List Int}(hs:s.length=32)(hbs:By s)(hp:p.length=32)(hbp:By p)(hp0:p≠zl 32)(hT:T.length≤1000000)
  (hk:∀x,findT T p=some x→x.kind≠3) :
  AC Tryd.prog nro γ 54 #[.pointer (some ⟨b,0,none⟩),.agg (iv .u8 s).toArray,.agg (iv .u8 p).toArray] H (AgreeQ H b F T s p):=by
 have hag:agreeT T s p=⟨5,⟨#[]⟩,[s,p]⟩:=by
  unfold agreeT
  cases hf:findT T p with
  | none=>rfl
  | some x=>simp only [if_neg (hk x hf)]
 have hFl:=h.bound
 have hT0:=h
 obtain⟨mb,tv,Ft,Fk,L,rfl,hL,rfl,_⟩:=h
 have hts:(iv .u8 s).take 32=iv .u8 s:=tkL (by simp [hs])
 have htp:(iv .u8 p).take 32=iv .u8 p:=tkL (by simp [hp])
 have hpb:(p==zl 32)=false:=by rw [beq_eq_false_iff_ne];exact hp0
 have p1:plain1 (.slice none 0 0)=true:=rfl
 have r3:List.range 3=[0,1,2]:=rfl
 have hf:=fun (N:AH)=>find_ac (nro:=nro) (γ:=γ) (hL.low (G:=H++N) (fun j hj=>hget_left (hFl j hj))) hp hbp
 have hcase:=findV_T L p
 have hrow:setR (setR (List.map (fun j=>(iv .u8 (zl 32))[j%32]?.getD undef) (List.range 64)) 0 (iv .u8 s)) 32 (iv .u8 p)=iv .u8 s++iv .u8 p:=row2 (by simp) (by simp [hs]) (by simp [hp])
 have hc:∀ (G:AH) (R:Option Blk),Low H.length H G→hget G (H.length+2)=some ⟨iv .u8 (zl 32), 41,none⟩→hget (G++[R,some ⟨iv .u8 s++iv .u8 p, 41,some 32⟩]) (G.length+1)=some ⟨iv .u8 s++iv .u8 p, 41,some 32⟩→AC Tryd.prog nro γ 46 #[.pointer (some ⟨b,0,none⟩),.int .i64 5,.string ⟨#[]⟩,.slice (some ⟨G.length+1,0,none⟩) 2 2] (G++[R,some ⟨iv .u8 s++iv .u8 p, 41,some 32⟩])
   (fun v' G3=>∃N:List Int,N=nmL (nameT ⟨5,⟨#[]⟩,[s,p]⟩ (L.map (·.2)))∧N.length=32∧(iv .u8 N).take 32=iv .u8 N∧setR (iv .u8 (zl 32)) 0 (iv .u8 N)=iv .u8 N∧v'=.agg (iv .u8 N).toArray∧H.length+2<G3.length∧hget G3 (H.length+2)=some ⟨iv .u8 (zl 32), 41,none⟩∧∀X:Option Blk,TermQ H b (b::mb::(Ft++Fk)) (L.map (·.2)) ⟨5,⟨#[]⟩,[s,p]⟩ (.agg (iv .u8 N).toArray) (G3.set (H.length+2) X)):=by
  intro G R lwG gz g2
  have lw2:Low H.length H (G++[R,some ⟨iv .u8 s++iv .u8 p, 41,some 32⟩]):=⟨fun j hj=>(hget_left (by have:=lwG.2;omega)).trans (lwG.1 j hj),by have:=lwG.2;simp;omega⟩
  have gz2:=(hget_left (L:=[R,some ⟨iv .u8 s++iv .u8 p, 41,some 32⟩]) (hget_lt gz)).trans gz
  have hlg:=lwG.2
  generalize G++[R,some ⟨iv .u8 s++iv .u8 p, 41,some 32⟩]=G2 at *
  refine (term_ac (nro:=nro) (γ:=γ) (hpw.low lw2) (hT0.low (fun j hj=>lw2.1 j (hFl j hj)) lw2.2) hnro (by have:=lw2.2;omega) (wf_two (.inr rfl) hs hbs hp hbp) (v:=.slice (some ⟨G.length+1,0,none⟩) 2 2) (fun D _ hj=>keys2 hs hp ((hj _ (hget_lt g2) (fun e=>by have:=hFl _ e;omega)).trans g2)) hT).mono fun v' G3 hQ=>?_
  exact hQ.layG lw2 hFl (by omega) gz2
 generalize findV L p=fv at *
 rcases hcase with ⟨⟨kv,x⟩,hm,rfl,hft⟩ | ⟨rfl,hft⟩
 ·have hkn:=hL.key_nt hm
  have hk3:x.kind≠3:=hk x hft
  have hk3b:((x.kind:Int)==3)=false:=by rw [beq_eq_false_iff_ne];omega
  have hk3i:¬ (x.kind:Int)=3:=by omega
  refine ac_of_aw Tryd.func54 rfl Tryd.ntmps54 Tryd.results54 (by simp) ?_
  (refine aso fun K hK=>?_;simp (disch:=first|omega|simp only [lnS];try omega) [-getElem?_pos,-getElem?_neg,hts,htp];refine hK _ _ ?_;clear hK K)
  refine aw_seq (aw_seq ?_)
  (refine aoo fun K hK=>?_;simp (disch:=first|omega|simp only [lnS];try omega) [-getElem?_pos,-getElem?_neg,htp,hp0,hpb];refine hK _ _ ?_;clear hK K)
  refine awf (by simp<;>omega) ?_
  refine aw_skip (aw_seq ?_)
  refine aoo fun K hK=>?_
  simp (disch:=first|omega|simp only [lnS];try omega) [-getElem?_pos,-getElem?_neg,htp]
  refine⟨by kernel_rfl,AC.mono (hf _) ?_⟩
  rintro _ G ⟨rfl,lw⟩
  have hGl:=lw.2
  rw [laP]at lw hGl
  have gs:hget G H.length=some ⟨iv .u8 s, 41,none⟩:=(lw.1 _ (by simp)).trans (by rw [hget_app0];rfl)
  have gp:hget G (H.length+1)=some ⟨iv .u8 p, 41,none⟩:=(lw.1 _ (by simp)).trans (by rw [hget_app];rfl)
  have gz:hget G (H.length+2)=some ⟨iv .u8 (zl 32), 41,none⟩:=(lw.1 _ (by simp)).trans (by rw [hget_app];rfl)
  have ls:=hget_lt gs
  have lp:=hget_lt gp
  have lz:=hget_lt gz
  have lwH:Low H.length H G:=⟨fun j hj=>(lw.1 j (by omega)).trans (hget_left hj),by omega⟩
  unfold tmRow
  try simp (disch:=first|omega|simp only [lnS];try omega) [-getElem?_pos,-getElem?_neg,-notTuple,hkn.1,hkn.2,p1,r3]
  refine hK _ _ ?_;clear hK K
  refine aw_seq (aw_seq ?_)
  refine aoo fun K hK=>?_
  simp (disch:=first|omega|simp only [lnS];try omega) [-getElem?_pos,-getElem?_neg,hk3b,hk3i]
  refine hK _ _ ?_;clear hK K
  refine awt (by simp<;>omega) ?_
  refine aso fun K hK=>?_
  simp (disch:=first|omega|simp only [lnS];try omega) [-getElem?_pos,-getElem?_neg,gs,gp,ls,lp,hts,htp,hrow]
  refine⟨by kernel_rfl,AC.mono (hc _ _ lwH gz (hget_at2 _ _ _)) ?_⟩
  intro v' G3 hQ
  obtain⟨N,_,lN,ht,hse,rfl,hlt,hg,hfin⟩:=hQ
  have hn2:nro≤H.length+2:=by omega
  try simp (disch:=first|omega|simp only [lnS];try omega) [-getElem?_pos,-getElem?_neg,hn2,lN,ht,hse,hg,hlt]
  refine hK _ _ ?_;clear hK K
  (refine aw_ret ?_;simp (disch:=first|omega|simp only [lnS];try omega) [-getElem?_pos,-getElem?_neg,lN,ht,hlt])
  exact .inr ⟨hp0,_,rfl,hag▸hfin _⟩
 ·unfold zkey at *
  refine ac_of_aw Tryd.func54 rfl Tryd.ntmps54 Tryd.results54 (by simp) ?_
  (refine aso fun K hK=>?_;simp (disch:=first|omega|simp only [lnS];try omega) [-getElem?_pos,-getElem?_neg,hts,htp];refine hK _ _ ?_;clear hK K)
  refine aw_seq (aw_seq ?_)
  (refine aoo fun K hK=>?_;simp (disch:=first|omega|simp only [lnS];try omega) [-getElem?_pos,-getElem?_neg,htp,hp0,hpb];refine hK _ _ ?_;clear hK K)
  refine awf (by simp<;>omega) ?_
  refine aw_skip (aw_seq ?_)
  refine aoo fun K hK=>?_
  simp (disch:=first|omega|simp only [lnS];try omega) [-getElem?_pos,-getElem?_neg,htp]
  refine⟨by kernel_rfl,AC.mono (hf _) ?_⟩
  rintro _ G ⟨rfl,lw⟩
  have hGl:=lw.2
  rw [laP]at lw hGl
  have gs:hget G H.length=some ⟨iv .u8 s, 41,none⟩:=(lw.1 _ (by simp)).trans (by rw [hget_app0];rfl)
  have gp:hget G (H.length+1)=some ⟨iv .u8 p, 41,none⟩:=(lw.1 _ (by simp)).trans (by rw [hget_app];rfl)
  have gz:hget G (H.length+2)=some ⟨iv .u8 (zl 32), 41,none⟩:=(lw.1 _ (by simp)).trans (by rw [hget_app];rfl)
  have ls:=hget_lt gs
  have lp:=hget_lt gp
  have lz:=hget_lt gz
  have lwH:Low H.length H G:=⟨fun j hj=>(lw.1 j (by omega)).trans (hget_left hj),by omega⟩
  try simp (disch:=first|omega|simp only [lnS];try omega) [-getElem?_pos,-getElem?_neg,p1,r3]
  refine hK _ _ ?_;clear hK K
  refine aw_seq (aw_seq ?_)
  refine aoo fun K hK=>?_
  simp (disch:=first|omega|simp only [lnS];try omega) [-getElem?_pos,-getElem?_neg]
  refine hK _ _ ?_;clear hK K
  refine awt (by simp<;>omega) ?_
  refine aso fun K hK=>?_
  simp (disch:=first|omega|simp only [lnS];try omega) [-getElem?_pos,-getElem?_neg,gs,gp,ls,lp,hts,htp,hrow]
  refine⟨by kernel_rfl,AC.mono (hc _ _ lwH gz (hget_at2 _ _ _)) ?_⟩
  intro v' G3 hQ
  obtain⟨N,_,lN,ht,hse,rfl,hlt,hg,hfin⟩:=hQ
  have hn2:nro≤H.length+2:=by omega
  try simp (disch:=first|omega|simp only [lnS];try omega) [-getElem?_pos,-getElem?_neg,hn2,lN,ht,hse,hg,hlt]
  refine hK _ _ ?_;clear hK K
  (refine aw_ret ?_;simp (disch:=first|omega|simp only [lnS];try omega) [-getElem?_pos,-getElem?_neg,lN,ht,hlt])
  exact .inr ⟨hp0,_,rfl,hag▸hfin _⟩
end
section
theorem TermQ.down{H H2 G A:AH}{b:Nat}{F:List Nat}{T:List TermD}{x:TermD}{v v2:Value}(h:TermQ H2 b F T x v G)(lw:Low H.length H H2)(hF:∀j∈F,j<H.length)(hv:v2=v)(hA:G.length≤A.length)(hk:∀j,j<G.length→hget A j=hget G j):TermQ H b F T x v2 A:=by
 subst hv
 obtain⟨h0,h2,h3,F',h4,h5⟩:=h
 have hle:=lw.2
 refine⟨h0,by omega,fun j hj hn=>(hk j (by omega)).trans ((h3 j (by omega) hn).trans (lw.1 j hj)),F',h4.low (fun j hj=>hk j (h4.bound j hj)) hA,fun j hj=>?_⟩
 rcases h5 j hj with h | h
 ·exact .inl h
 ·exact .inr (by omega)
def SealQ(H:AH)(b:Nat)(F:List Nat)(T:List TermD)(x:TermD)(v':Value)(H':AH):Prop:=
 v'=.string (strOfNums (nmL (nameT x T)))∧TermQ H b F T x (.agg (iv .u8 (nmL (nameT x T))).toArray) H'
theorem wf_seal{s:ByteArray}(hs:s.size≤100000000){k y:List Int}{ks:List (List Int)}(hk:k.length=32)(hbk:By k)(hy:y.length=32)(hby:By y)(hks:∀z∈ks,z.length=32∧By z)(hm:ks.length≤999998):TermD.Wf ⟨6,s,k::y::ks⟩:=by
 refine⟨(by show 6≤6;omega),hs,fun z hz=>?_,fun z hz=>?_,(by show ks.length+2≤1000000;omega),fun h=>(by cases h),fun h=>(by cases h),fun _=>(by show 2≤ks.length+2;omega)⟩
 ·simp only [List.mem_cons]at hz
  rcases hz with rfl | rfl | hz
  ·exact hk
  ·exact hy
  ·exact (hks z hz).1
 ·simp only [List.mem_cons]at hz
  rcases hz with rfl | rfl | hz
  ·exact hbk
  ·exact hby
  ·exact (hks z hz).2
theorem seal_ac{nro:Nat}{γ:Nat→Option Nat}{H:AH}(hpw:Pw γ H){b:Nat}{F:List Nat}{T:List TermD}(h:Tbl H b F T)(hnro:∀j∈F,nro≤j)(hnH:nro≤H.length){k y:List Int}(hk:k.length=32)(hy:y.length=32){s:ByteArray}{ks:List (List Int)}(hx:TermD.Wf ⟨6,s,k::y::ks⟩){v:Value}(hK:KsV H v ks)(hT:T.length≤1000000) :
  AC Tryd.prog nro γ 27 #[.pointer (some ⟨b,0,none⟩),.agg (iv .u8 k).toArray,.agg (iv .u8 y).toArray,.string s,v] H (SealQ H b F T ⟨6,s,k::y::ks⟩):=by
 unfold SealQ
 have hFl:=h.bound
 have hv:=val_nt hK
 have k32:K32 ks:=fun z hz=>hx.k32 z (by simp [hz])
 have hkm:ks.length≤1000000:=by have:=hx.many;simp at this;omega
 have htk:(iv .u8 k).take 32=iv .u8 k:=tkL (by simp [hk])
 have hty:(iv .u8 y).take 32=iv .u8 y:=tkL (by simp [hy])
 have hrow:setR (setR (List.map (fun j=>(iv .u8 (zl 32))[j%32]?.getD undef) (List.range 64)) 0 (iv .u8 k)) 32 (iv .u8 y)=iv .u8 k++iv .u8 y:=row2 (by simp) (by simp [hk]) (by simp [hy])
 obtain⟨N4,hN4⟩:∃N4:AH,N4=[some ⟨iv .u8 k, 41,none⟩,some ⟨iv .u8 y, 41,none⟩,some ⟨iv .u8 k++iv .u8 y, 41,some 32⟩,some ⟨[.slice (some ⟨H.length+2,0,none⟩) 2 2,v], 34,some 1⟩]:=⟨_,rfl⟩
 have g2:hget (H++N4) (H.length+2)=some ⟨iv .u8 k++iv .u8 y, 41,some 32⟩:=by rw [hget_app,hN4];rfl
 have g3:hget (H++N4) (H.length+3)=some ⟨[.slice (some ⟨H.length+2,0,none⟩) 2 2,v], 34,some 1⟩:=by rw [hget_app,hN4];rfl
 have hlN:(H++N4).length=H.length+4:=by rw [hN4];simp
 have hcc:=concatK_ac (nro:=nro) (γ:=γ) (H:=H++N4) (v:=undef) (j:=H.length+3) (xs:=[.slice (some ⟨H.length+2,0,none⟩) 2 2,v]) (L:=[[k,y],ks]) (fun l hl=>by
   simp only [mcN]at hl
   rcases hl with rfl | rfl
   ·intro z hz
    simp only [mcN]at hz
    rcases hz with rfl | rfl
    ·exact hk
    ·exact hy
   ·exact k32) g3 rfl (fun i x c hx1 hc1=>by
   match i,hx1,hc1 with
   | 0,hx1,hc1=>
    cases hx1
    cases hc1
    exact (keys2 hk hy g2).part (fun z hz=>by
     simp only [mcN]at hz
     rcases hz with rfl | rfl
     ·exact hk
     ·exact hy)
   | 1,hx1,hc1=>
    cases hx1
    cases hc1
    have hK2:KsV (H++N4) v ks:=CD.Val.low (fun j hj=>hget_left hj) hK
    exact hK2.part k32
   | i+2,hx1,hc1=>simp at hx1) (by simp [sumK];omega) (by simp) (by omega)
 have hfl:[[k,y],ks].flatten=k::y::ks:=by simp
 rw [hfl]at hcc
 rw [hN4]at hcc
 have r2:List.range 2=[0,1]:=rfl
 have p1:plain1 (.slice none 0 0)=true:=rfl
 refine ac_of_aw Tryd.func27 rfl Tryd.ntmps27 Tryd.results27 (by simp) ?_
 (refine aso fun K hK=>?_;simp (disch:=first|omega|simp only [lnS];try omega) [-getElem?_pos,-getElem?_neg,htk,hty];refine hK _ _ ?_;clear hK K)
 refine aso fun K hK=>?_
 simp (disch:=first|omega|simp only [lnS];try omega) [-getElem?_pos,-getElem?_neg,htk,hty,hrow,r2,p1,-notTuple,hv.1,hv.2]
 refine⟨by kernel_rfl,AC.mono hcc ?_⟩
 rintro v1 G ⟨ho,hlG,hkG⟩
 rw [←hN4]at ho hlG hkG
 have lwG:Low H.length H G:=⟨fun j hj=>(hkG j (by omega)).trans (hget_left hj),by omega⟩
 have hvn:=ho.nt
 have htm:=term_ac (nro:=nro) (γ:=γ) (hpw.low lwG) (h.low (fun j hj=>lwG.1 j (hFl j hj)) lwG.2) hnro (by omega) hx (v:=v1) (fun D hD hj=>by
  have:OwnK (H++N4).length D v1 (k::y::ks):=ho.low (fun j h1 h2=>hj j h2 (fun e=>by have:=hFl j e;omega))
  exact own_ksv this hx.k32) hT
 try simp (disch:=first|omega|simp only [lnS];try omega) [-getElem?_pos,-getElem?_neg,-notTuple,hvn.1,hvn.2]
 refine⟨by kernel_rfl,AC.mono htm ?_⟩
 intro v2 G3 hQ
 have hl3:H.length≤G3.length:=by have:=hQ.2.1;omega
 have hn3:nro≤G3.length:=by omega
 have hdn:=fun (A:AH)=>hQ.down (A:=A) lwG hFl rfl
 obtain rfl:=hQ.1
 have lN:(nmL (nameT ⟨6,s,k::y::ks⟩ T)).length=32:=rfl
 generalize nmL (nameT ⟨6,s,k::y::ks⟩ T)=N at *
 have ht:(iv .u8 N).take 32=iv .u8 N:=tkL (by simp [lN])
 have hs:setR (iv .u8 (zl 32)) 0 (iv .u8 N)=iv .u8 N:=setR_all _ _ (by simp [lN])
 try simp (disch:=first|omega|simp only [lnS];try omega) [-getElem?_pos,-getElem?_neg,hn3,lN,ht,hs]
 refine hK _ _ ?_;clear hK K
 refine aw_seq ?_
 have hbl:=byteList_iv N
 (refine aoo fun K hK=>?_;simp (disch:=first|omega|simp only [lnS];try omega) [-getElem?_pos,-getElem?_neg,lN,ht,hbl];refine hK _ _ ?_;clear hK K)
 (refine aw_ret ?_;simp (disch:=first|omega|simp only [lnS];try omega) [-getElem?_pos,-getElem?_neg])
 exact hdn _ (by simp) (fun j hj=>hget_left hj)
end
section
theorem two_ac{nro:Nat}{γ:Nat→Option Nat}{H G2:AH}(hpw:Pw γ H){b:Nat}{F:List Nat}{T:List TermD}(h:Tbl H b F T)(hnro:∀j∈F,nro≤j)(hnH:nro≤H.length){n:Nat}(hn:n=4∨n=5){s p:List Int}(hs:s.length=32)(hbs:By s)(hp:p.length=32)(hbp:By p)(hT:T.length≤1000000)
  (lw2:Low H.length H G2) {z q:Nat} (hz:H.length≤z) (gz:hget G2 z=some ⟨iv .u8 (zl 32), 41,none⟩) (hq:H.length≤q) (g2:hget G2 q=some ⟨iv .u8 s++iv .u8 p, 41,some 32⟩) :
  AC Tryd.prog nro γ 46 #[.pointer (some ⟨b,0,none⟩),.int .i64 (n:Nat),.string ⟨#[]⟩,.slice (some ⟨q,0,none⟩) 2 2] G2
   (fun v' G3=>∃N:List Int,N=nmL (nameT ⟨n,⟨#[]⟩,[s,p]⟩ T)∧N.length=32∧(iv .u8 N).take 32=iv .u8 N∧setR (iv .u8 (zl 32)) 0 (iv .u8 N)=iv .u8 N∧v'=.agg (iv .u8 N).toArray∧z<G3.length∧hget G3 z=some ⟨iv .u8 (zl 32), 41,none⟩∧∀X:Option Blk,TermQ H b F T ⟨n,⟨#[]⟩,[s,p]⟩ (.agg (iv .u8 N).toArray) (G3.set z X)):=by
 have hFl:=h.bound
 refine (term_ac (nro:=nro) (γ:=γ) (hpw.low lw2) (h.low (fun j hj=>lw2.1 j (hFl j hj)) lw2.2) hnro (by have:=lw2.2;omega) (wf_two hn hs hbs hp hbp) (v:=.slice (some ⟨q,0,none⟩) 2 2) (fun D _ hj=>keys2 hs hp ((hj _ (hget_lt g2) (fun e=>by have:=hFl _ e;omega)).trans g2)) hT).mono fun v' G3 hQ=>?_
 exact hQ.layG lw2 hFl hz gz
theorem agreeP_ac{nro:Nat}{γ:Nat→Option Nat}{H:AH}(hpw:Pw γ H){b:Nat}{F:List Nat}{T:List TermD}(h:Tbl H b F T)(hnro:∀j∈F,nro≤j)(hnH:nro≤H.length){s p:List Int}(hs:s.length=32)(hbs:By s)(hp:p.length=32)(hbp:By p)(hp0:p≠zl 32)(hT:T.length≤1000000)
  {y:TermD} (hy:findT T p=some y) (hy3:y.kind=3) :
  AC Tryd.prog nro γ 54 #[.pointer (some ⟨b,0,none⟩),.agg (iv .u8 s).toArray,.agg (iv .u8 p).toArray] H (AgreeQ H b F T s p):=by
 have hag:agreeT T s p=if 0<cmpL s (y.keys.getD 0 []) then ⟨4,⟨#[]⟩,[y.keys.getD 0 [],s]⟩ else ⟨4,⟨#[]⟩,[s,y.keys.getD 0 []]⟩:=by
  unfold agreeT
  rw [hy]
  simp only [if_pos hy3]
 have hFl:=h.bound
 have hT0:=h
 obtain⟨mb,tv,Ft,Fk,L,rfl,hL,rfl,_⟩:=h
 have hts:(iv .u8 s).take 32=iv .u8 s:=tkL (by simp [hs])
 have htp:(iv .u8 p).take 32=iv .u8 p:=tkL (by simp [hp])
 have hss:setR (iv .u8 (zl 32)) 0 (iv .u8 s)=iv .u8 s:=setR_all _ _ (by simp [hs])
 have hpb:(p==zl 32)=false:=by rw [beq_eq_false_iff_ne];exact hp0
 have p1:plain1 (.slice none 0 0)=true:=rfl
 have r3:List.range 3=[0,1,2]:=rfl
 have hf:=fun (N:AH)=>find_ac (nro:=nro) (γ:=γ) (hL.low (G:=H++N) (fun j hj=>hget_left (hFl j hj))) hp hbp
 have hcase:=findV_T L p
 rw [hy]at hcase
 generalize findV L p=fv at *
 obtain⟨kv,hm,rfl⟩:∃kv,(kv,y)∈L∧fv=.tuple #[.agg (tmRow kv y).toArray,.bool true]:=by
  rcases hcase with ⟨⟨kv,x⟩,hm,e,hft⟩ | ⟨_,hft⟩
  ·cases hft
   exact⟨kv,hm,e⟩
  ·cases hft
 have hw:y.Wf:=hL.wf _ hm
 have hk1:=hw.pub hy3
 obtain⟨c,hc⟩:∃c,y.keys=[c]:=by
  match hh:y.keys,hk1 with
  | [c],_=>exact⟨c,rfl⟩
 have lc:c.length=32:=hw.k32 c (by rw [hc];simp)
 have bc:By c:=hw.by_ c (by rw [hc];simp)
 have htc:(iv .u8 c).take 32=iv .u8 c:=tkL (by simp [lc])
 have hsc:setR (iv .u8 (zl 32)) 0 (iv .u8 c)=iv .u8 c:=setR_all _ _ (by simp [lc])
 obtain⟨jk,rfl,hjk⟩:∃j,kv=.slice (some ⟨j,0,none⟩) 1 1∧hget H j=some ⟨iv .u8 c, 41,some 32⟩:=by
  obtain⟨F0,ho,_⟩:=hL.keys _ hm
  have ho:OwnF H kv 41 32 (kr y.keys) F0:=ho
  rw [hc,kr_one]at ho
  rcases ho with ⟨_,e,_⟩ | ⟨j,len,e,hg,hl,_⟩
  ·have:=congrArg List.length e
   simp [lc]at this
  ·rw [iv_length,lc]at hl
   have:len=1:=by omega
   subst this
   exact⟨j,e,hg⟩
 rw [hc]at hag
 have hg0:([c]:List (List Int)).getD 0 []=c:=rfl
 rw [hg0]at hag
 have hk3b:((y.kind:Int)==3)=true:=by rw [hy3];rfl
 have hk3i:(y.kind:Int)=3:=by rw [hy3];rfl
 have hkn:notTuple (.slice (some ⟨jk,0,none⟩) 1 1)=true∧(Value.slice (some ⟨jk,0,none⟩) 1 1).cells=#[.slice (some ⟨jk,0,none⟩) 1 1]:=⟨rfl,rfl⟩
 refine ac_of_aw Tryd.func54 rfl Tryd.ntmps54 Tryd.results54 (by simp) ?_
 (refine aso fun K hK=>?_;simp (disch:=first|omega|simp only [lnS];try omega) [-getElem?_pos,-getElem?_neg,hts,htp];refine hK _ _ ?_;clear hK K)
 refine aw_seq (aw_seq ?_)
 (refine aoo fun K hK=>?_;simp (disch:=first|omega|simp only [lnS];try omega) [-getElem?_pos,-getElem?_neg,htp,hp0,hpb];refine hK _ _ ?_;clear hK K)
 refine awf (by simp<;>omega) ?_
 refine aw_skip (aw_seq ?_)
 refine aoo fun K hK=>?_
 simp (disch:=first|omega|simp only [lnS];try omega) [-getElem?_pos,-getElem?_neg,htp]
 refine⟨by kernel_rfl,AC.mono (hf _) ?_⟩
 rintro _ G ⟨rfl,lw⟩
 have hGl:=lw.2
 rw [laP]at lw hGl
 have gs:hget G H.length=some ⟨iv .u8 s, 41,none⟩:=(lw.1 _ (by simp)).trans (by rw [hget_app0];rfl)
 have gp:hget G (H.length+1)=some ⟨iv .u8 p, 41,none⟩:=(lw.1 _ (by simp)).trans (by rw [hget_app];rfl)
 have gz:hget G (H.length+2)=some ⟨iv .u8 (zl 32), 41,none⟩:=(lw.1 _ (by simp)).trans (by rw [hget_app];rfl)
 have ls:=hget_lt gs
 have lp:=hget_lt gp
 have lz:=hget_lt gz
 have lwH:Low H.length H G:=⟨fun j hj=>(lw.1 j (by omega)).trans (hget_left hj),by omega⟩
 have gj:hget G jk=some ⟨iv .u8 c, 41,some 32⟩:=(lwH.1 _ (hget_lt hjk)).trans hjk
 have lj:=hget_lt gj
 unfold tmRow
 try simp (disch:=first|omega|simp only [lnS];try omega) [-getElem?_pos,-getElem?_neg,-notTuple,hkn.1,hkn.2,p1,r3]
 refine hK _ _ ?_;clear hK K
 refine aw_seq (aw_seq ?_)
 refine aoo fun K hK=>?_
 simp (disch:=first|omega|simp only [lnS];try omega) [-getElem?_pos,-getElem?_neg,hk3b,hk3i]
 refine hK _ _ ?_;clear hK K
 refine awf (by simp<;>omega) ?_
 refine aw_skip (aw_seq ?_)
 (refine aw_plan [] [] [0,1,2,3,4,5,6] 7 2 (by kernel_rfl) (by kernel_rfl) (by kernel_rfl) (fun K hK=>?_));simp only [sel,gcS,gdZ];simp (disch:=first|omega|simp only [lnS];try omega) [-getElem?_pos,-getElem?_neg,gs,ls,gj,lj,hts,htc,hss,hsc,-notTuple,Nat.add_assoc]
 refine hK _ _ ?_;clear hK K
 obtain⟨G4,hG4⟩:∃G4:AH,G4=G++[some ⟨[.int .i64 3,.string y.text,.slice (some ⟨jk,0,none⟩) 1 1], 92,none⟩,some ⟨iv .u8 s, 41,none⟩,some ⟨iv .u8 c, 41,none⟩]:=⟨_,rfl⟩
 have g41:hget G4 (G.length+1)=some ⟨iv .u8 s, 41,none⟩:=by rw [hG4,hget_app];rfl
 have g42:hget G4 (G.length+2)=some ⟨iv .u8 c, 41,none⟩:=by rw [hG4,hget_app];rfl
 have g4l:G4.length=G.length+3:=by rw [hG4];simp
 have g4j:∀j,j<G.length→hget G4 j=hget G j:=fun j hj=>by rw [hG4,hget_left hj]
 have g4z:=(g4j _ lz).trans gz
 have g4lw:∀j,j<H.length→hget G4 j=hget H j:=fun j hj=>(g4j j (by omega)).trans (lwH.1 j hj)
 have l41:=hget_lt g41
 have l42:=hget_lt g42
 rw [←hG4]
 clear hG4 lw
 refine aw_seq (aw_seq ?_)
 by_cases hgt:0<cmpL s c
 ·rw [if_pos hgt]at hag
  (refine aw_plan [] [] [0,1,2,3] 4 0 (by kernel_rfl) (by kernel_rfl) (by kernel_rfl) (fun K hK=>?_));simp only [sel,gcS,gdZ];simp (disch:=first|omega|simp only [lnS];try omega) [-getElem?_pos,-getElem?_neg,g41,g42,l41,l42,hs,lc,Nat.add_assoc]
  refine PLc_call (v:=.int .i64 (cmpL s c)) (by kernel_rfl) (fun N hN=>?_) (by simp [pv_iv,pv_int,pv_bool,pv_string,pv_tup2,pv_tup3,iv_plain,p2_int,p2_bool,p2_string]) ?_
  ·exact (compare_ac (hget_left' g41) (hget_left' g42) hs lc).mono fun v' H' h=>h.1
  try simp (disch:=first|omega|simp only [lnS];try omega) [-getElem?_pos,-getElem?_neg,hgt,Nat.add_assoc]
  refine hK _ _ ?_;clear hK K
  refine awt (by simp<;>omega) ?_
  have hn1:nro≤G.length+1:=by omega
  have hn22:nro≤G.length+2:=by omega
  have hcs2:setR (iv .u8 c) 0 (iv .u8 s)=iv .u8 s:=setR_all _ _ (by simp [hs,lc])
  have hsc2:setR (iv .u8 s) 0 (iv .u8 c)=iv .u8 c:=setR_all _ _ (by simp [hs,lc])
  (refine aoo fun K hK=>?_;simp (disch:=first|omega|simp only [lnS];try omega) [-getElem?_pos,-getElem?_neg,g41,g42,l41,l42,hts,htc,hn1,hn22,hcs2,hsc2];refine hK _ _ ?_;clear hK K)
  obtain⟨G5,hG5⟩:∃G5:AH,G5=(G4.set (G.length+1) (some ⟨iv .u8 c, 41,none⟩)).set (G.length+2) (some ⟨iv .u8 s, 41,none⟩):=⟨_,rfl⟩
  have g51:hget G5 (G.length+1)=some ⟨iv .u8 c, 41,none⟩:=by rw [hG5,hget_set_ne (by omega),hget_set_eq l41]
  have g52:hget G5 (G.length+2)=some ⟨iv .u8 s, 41,none⟩:=by rw [hG5,hget_set_eq (by simp;omega)]
  have g5j:∀j,j<G.length→hget G5 j=hget G4 j:=fun j hj=>by rw [hG5,hget_set_ne (by omega),hget_set_ne (by omega)]
  have g5l:G5.length=G.length+3:=by rw [hG5];simp;omega
  have g5z:=(g5j _ lz).trans g4z
  have g5lw:∀j,j<H.length→hget G5 j=hget H j:=fun j hj=>(g5j j (by omega)).trans (g4lw j hj)
  have l51:=hget_lt g51
  have l52:=hget_lt g52
  rw [←hG5]
  clear hG5
  have hrow:setR (setR (List.map (fun j=>(iv .u8 (zl 32))[j%32]?.getD undef) (List.range 64)) 0 (iv .u8 c)) 32 (iv .u8 s)=iv .u8 c++iv .u8 s:=row2 (by simp) (by simp [lc]) (by simp [hs])
  have htw:=two_ac (nro:=nro) (γ:=γ) (G2:=G5++[some ⟨iv .u8 c++iv .u8 s, 41,some 32⟩]) hpw hT0 hnro hnH (n:=4) (.inl rfl) lc bc hs hbs hT ⟨fun j hj=>(hget_left (by omega)).trans (g5lw j hj),by simp;omega⟩ (z:=H.length+2) (q:=G5.length) (by omega) ((hget_left (by omega)).trans g5z) (by omega) (by rw [hget_app0];rfl)
  refine aso fun K hK=>?_
  simp (disch:=first|omega|simp only [lnS];try omega) [-getElem?_pos,-getElem?_neg,g51,g52,l51,l52,hts,htc,hrow]
  refine⟨by kernel_rfl,AC.mono htw ?_⟩
  intro v' G3 hQ
  obtain⟨N,_,lN,ht,hse,rfl,hlt,hg,hfin⟩:=hQ
  have hn2:nro≤H.length+2:=by omega
  try simp (disch:=first|omega|simp only [lnS];try omega) [-getElem?_pos,-getElem?_neg,hn2,lN,ht,hse,hg,hlt]
  refine hK _ _ ?_;clear hK K
  (refine aw_ret ?_;simp (disch:=first|omega|simp only [lnS];try omega) [-getElem?_pos,-getElem?_neg,lN,ht,hlt])
  exact .inr ⟨hp0,_,rfl,hag▸hfin _⟩
 ·rw [if_neg hgt]at hag
  (refine aw_plan [] [] [0,1,2,3] 4 0 (by kernel_rfl) (by kernel_rfl) (by kernel_rfl) (fun K hK=>?_));simp only [sel,gcS,gdZ];simp (disch:=first|omega|simp only [lnS];try omega) [-getElem?_pos,-getElem?_neg,g41,g42,l41,l42,hs,lc,Nat.add_assoc]
  refine PLc_call (v:=.int .i64 (cmpL s c)) (by kernel_rfl) (fun N hN=>?_) (by simp [pv_iv,pv_int,pv_bool,pv_string,pv_tup2,pv_tup3,iv_plain,p2_int,p2_bool,p2_string]) ?_
  ·exact (compare_ac (hget_left' g41) (hget_left' g42) hs lc).mono fun v' H' h=>h.1
  try simp (disch:=first|omega|simp only [lnS];try omega) [-getElem?_pos,-getElem?_neg,hgt,Nat.add_assoc]
  refine hK _ _ ?_;clear hK K
  refine awf (by simp<;>omega) ?_
  refine aw_skip ?_
  have hrow:setR (setR (List.map (fun j=>(iv .u8 (zl 32))[j%32]?.getD undef) (List.range 64)) 0 (iv .u8 s)) 32 (iv .u8 c)=iv .u8 s++iv .u8 c:=row2 (by simp) (by simp [hs]) (by simp [lc])
  have htw:=two_ac (nro:=nro) (γ:=γ) (G2:=G4++[some ⟨iv .u8 s++iv .u8 c, 41,some 32⟩]) hpw hT0 hnro hnH (n:=4) (.inl rfl) hs hbs lc bc hT ⟨fun j hj=>(hget_left (by omega)).trans (g4lw j hj),by simp;omega⟩ (z:=H.length+2) (q:=G4.length) (by omega) ((hget_left (by omega)).trans g4z) (by omega) (by rw [hget_app0];rfl)
  refine aso fun K hK=>?_
  simp (disch:=first|omega|simp only [lnS];try omega) [-getElem?_pos,-getElem?_neg,g41,g42,l41,l42,hts,htc,hrow]
  refine⟨by kernel_rfl,AC.mono htw ?_⟩
  intro v' G3 hQ
  obtain⟨N,_,lN,ht,hse,rfl,hlt,hg,hfin⟩:=hQ
  have hn2:nro≤H.length+2:=by omega
  try simp (disch:=first|omega|simp only [lnS];try omega) [-getElem?_pos,-getElem?_neg,hn2,lN,ht,hse,hg,hlt]
  refine hK _ _ ?_;clear hK K
  (refine aw_ret ?_;simp (disch:=first|omega|simp only [lnS];try omega) [-getElem?_pos,-getElem?_neg,lN,ht,hlt])
  exact .inr ⟨hp0,_,rfl,hag▸hfin _⟩
theorem agree_ac{nro:Nat}{γ:Nat→Option Nat}{H:AH}(hpw:Pw γ H){b:Nat}{F:List Nat}{T:List TermD}(h:Tbl H b F T)(hnro:∀j∈F,nro≤j)(hnH:nro≤H.length){s p:List Int}(hs:s.length=32)(hbs:By s)(hp:p.length=32)(hbp:By p)(hT:T.length≤1000000) :
  AC Tryd.prog nro γ 54 #[.pointer (some ⟨b,0,none⟩),.agg (iv .u8 s).toArray,.agg (iv .u8 p).toArray] H (AgreeQ H b F T s p):=by
 by_cases hp0:p=zl 32
 ·subst hp0
  exact agree0_ac hnH hs
 ·cases hy:findT T p with
  | none=>exact agreeN_ac hpw h hnro hnH hs hbs hp hbp hp0 hT (fun x hx=>by rw [hy]at hx;cases hx)
  | some y=>
   by_cases hy3:y.kind=3
   ·exact agreeP_ac hpw h hnro hnH hs hbs hp hbp hp0 hT hy hy3
   ·exact agreeN_ac hpw h hnro hnH hs hbs hp hbp hp0 hT (fun x hx=>by rw [hy]at hx;cases hx;exact hy3)
end
section
theorem lay32{X:List Int}(h:X.length=32):List.take 32 (setR (iv .u8 (zl 32)) 0 (iv .u8 X))=iv .u8 X:=by
 rw [setR_all _ _ (by simp [h]),tkL (by simp [h])]
theorem zl24:(zl 24).length=24:=by simp [zl]
theorem rname_rc{γ:Nat→Option Nat}{H:AH}{n:Int}(hn:0≤n∧n<4611686018427387904):AC Tryd.prog H.length γ 49 #[.int .i64 n] H (fun v' _=>v'=.agg (iv .u8 (nmL n)).toArray):=by
 have t0:n.tdiv 16777216=n/16777216:=Int.tdiv_eq_ediv_of_nonneg hn.1
 have t1:n.tdiv 65536=n/65536:=Int.tdiv_eq_ediv_of_nonneg hn.1
 have t2:n.tdiv 256=n/256:=Int.tdiv_eq_ediv_of_nonneg hn.1
 have m1:(n/65536).tmod 256=n/65536%256:=Int.tmod_eq_emod_of_nonneg (by omega)
 have m2:(n/256).tmod 256=n/256%256:=Int.tmod_eq_emod_of_nonneg (by omega)
 have m3:n.tmod 256=n%256:=Int.tmod_eq_emod_of_nonneg hn.1
 have w0:IntKind.u8.wrap (n/16777216)=n/16777216%256:=u8w _
 have w1:IntKind.u8.wrap (n/65536%256)=n/65536%256:=by rw [u8w];omega
 have w2:IntKind.u8.wrap (n/256%256)=n/256%256:=by rw [u8w];omega
 have w3:IntKind.u8.wrap (n%256)=n%256:=by rw [u8w];omega
 have v0:IntKind.i64.wrap (n/16777216)=n/16777216:=w64 (by omega)
 have v1:IntKind.i64.wrap (n/65536)=n/65536:=w64 (by omega)
 have v2:IntKind.i64.wrap (n/256)=n/256:=w64 (by omega)
 have e:∀a b c d:Int,((((((((iv .u8 (zl 32)).set 0 (.int .u8 116)).set 1 (.int .u8 101)).set 2 (.int .u8 114)).set 3 (.int .u8 109)).set 4 (.int .u8 a)).set 5 (.int .u8 b)).set 6 (.int .u8 c)).set 7 (.int .u8 d)=iv .u8 (116::101::114::109::a::b::c::d::zl 24):=fun _ _ _ _=>rfl
 have e2:nmL n=116::101::114::109::n/16777216%256::n/65536%256::n/256%256::n%256::zl 24:=rfl
 rw [e2]
 refine ac_of_aw Tryd.func49 rfl Tryd.ntmps49 Tryd.results49 (by simp) ?_
 (refine aso fun K hK=>?_;simp (disch:=first|omega|simp only [lnS];try omega);refine hK _ _ ?_;clear hK K)
 (refine aso fun K hK=>?_;simp (disch:=first|omega|simp only [lnS];try omega) [t0,t1,t2,m1,m2,m3,w0,w1,w2,w3,v0,v1,v2,e];refine hK _ _ ?_;clear hK K)
 (refine aw_ret ?_;simp (disch:=first|omega|simp only [lnS];try omega))
 exact lay32 (by simp only [List.length_cons,zl24])
end
section
def numR(n:Nat)(k:List Int):Int:=if (decide (plN k<n)&&decide (nmL (plN k)=k))=true then plN k else -1
theorem rnum_rc{γ:Nat→Option Nat}{H:AH}{b n:Nat}{tv sv:Value}(hgb:hget H b=some ⟨[tv,sv], 33,none⟩)(hl:xlen Tryd.prog 30 tv=some (.int .i64 (n:Nat)))(hnt:notTuple tv=true)(hcs:tv.cells=#[tv]){k:List Int}(hk:k.length=32)(hb:By k) :
  AC Tryd.prog H.length γ 36 #[.pointer (some ⟨b,0,none⟩),.agg (iv .u8 k).toArray] H (fun v' _=>v'=.int .i64 (numR n k)):=by
 have b4:=hb.get 4
 have b5:=hb.get 5
 have b6:=hb.get 6
 have b7:=hb.get 7
 have hbl:=hget_lt hgb
 have htk:(iv .u8 k).take 32=iv .u8 k:=tkL (by simp [hk])
 have g4:(iv .u8 k)[4]?=some (.int .u8 (k.getD 4 0)):=iv_getN _ _ _ (by omega)
 have g5:(iv .u8 k)[5]?=some (.int .u8 (k.getD 5 0)):=iv_getN _ _ _ (by omega)
 have g6:(iv .u8 k)[6]?=some (.int .u8 (k.getD 6 0)):=iv_getN _ _ _ (by omega)
 have g7:(iv .u8 k)[7]?=some (.int .u8 (k.getD 7 0)):=iv_getN _ _ _ (by omega)
 have hpl:plN k=k.getD 4 0*16777216+k.getD 5 0*65536+k.getD 6 0*256+k.getD 7 0:=rfl
 have hc:=fun (G:AH)=>rname_rc (γ:=γ) (H:=G) (n:=plN k) (by omega)
 have hkN:(k==nmL (plN k))=decide (nmL (plN k)=k):=by rw [Bool.eq_iff_iff,beq_iff_eq,decide_eq_true_iff];exact eq_comm
 have lN:(nmL (plN k)).length=32:=rfl
 unfold numR
 generalize nmL (plN k)=N at *
 generalize plN k=p at *
 generalize k.getD 4 0=x4 at *
 generalize k.getD 5 0=x5 at *
 generalize k.getD 6 0=x6 at *
 generalize k.getD 7 0=x7 at *
 have w4:IntKind.i64.wrap x4=x4:=w64 (by omega)
 have w5:IntKind.i64.wrap x5=x5:=w64 (by omega)
 have w6:IntKind.i64.wrap x6=x6:=w64 (by omega)
 have w7:IntKind.i64.wrap x7=x7:=w64 (by omega)
 have v4:IntKind.i64.wrap (x4*16777216)=x4*16777216:=w64 (by omega)
 have v5:IntKind.i64.wrap (x5*65536)=x5*65536:=w64 (by omega)
 have v6:IntKind.i64.wrap (x6*256)=x6*256:=w64 (by omega)
 have o1:IntKind.i64.wrap (x4*16777216+x5*65536)=x4*16777216+x5*65536:=w64 (by omega)
 have o2:IntKind.i64.wrap (x4*16777216+x5*65536+x6*256)=x4*16777216+x5*65536+x6*256:=w64 (by omega)
 have o3:IntKind.i64.wrap (x4*16777216+x5*65536+x6*256+x7)=p:=by rw [←hpl];exact w64 (by omega)
 have htN:(iv .u8 N).take 32=iv .u8 N:=tkL (by simp [lN])
 refine ac_of_aw Tryd.func36 rfl Tryd.ntmps36 Tryd.results36 (by simp) ?_
 (refine aso fun K hK=>?_;simp (disch:=first|omega|simp only [lnS];try omega) [-getElem?_pos,-getElem?_neg,htk];refine hK _ _ ?_;clear hK K)
 (refine aso fun K hK=>?_;simp (disch:=first|omega|simp only [lnS];try omega) [-getElem?_pos,-getElem?_neg,g4,g5,g6,g7,w4,w5,w6,w7,v4,v5,v6,o1,o2,o3];refine hK _ _ ?_;clear hK K)
 refine aw_seq (aw_seq ?_)
 have hgl:=fun (N:AH)=>(hget_left (L:=N) hbl).trans hgb
 generalize decide (N=k)=ok at *
 by_cases hlt:p<n
 ·(refine aw_plan [] [] [0,1,2,3,4,5,6,7,8,9,10,11,12] 13 0 (by kernel_rfl) (by kernel_rfl) (by kernel_rfl) (fun K hK=>?_));simp only [sel,gcS,gdZ];simp (disch:=first|omega|simp only [lnS];try omega) [-getElem?_pos,-getElem?_neg,hgb,hbl,htk,-notTuple,hnt,-xlen,hl,hlt,Nat.add_assoc]
  refine PLc_call (by kernel_rfl) (fun L hL=>hc _) (by simp [pv_iv,pv_int,pv_bool,pv_string,pv_tup2,pv_tup3,iv_plain,p2_int,p2_bool,p2_string]) ?_
  try simp (disch:=first|omega|simp only [lnS];try omega) [-getElem?_pos,-getElem?_neg,htk,htN,lN,hlt,hkN,Nat.add_assoc]
  refine hK _ _ ?_;clear hK K
  cases ok with
  | true=>
   refine awt (by simp [hkN]<;>omega) ?_
   (refine aso fun K hK=>?_;simp (disch:=first|omega|simp only [lnS];try omega) [-getElem?_pos,-getElem?_neg];refine hK _ _ ?_;clear hK K)
   (refine aw_ret ?_;simp (disch:=first|omega|simp only [lnS];try omega) [-getElem?_pos,-getElem?_neg,hlt])
  | false=>
   refine awf (by simp [hkN]<;>omega) ?_
   refine aw_skip (aw_seq ?_)
   (refine aoo fun K hK=>?_;simp (disch:=first|omega|simp only [lnS];try omega) [-getElem?_pos,-getElem?_neg];refine hK _ _ ?_;clear hK K)
   (refine aw_ret ?_;simp (disch:=first|omega|simp only [lnS];try omega) [-getElem?_pos,-getElem?_neg,hlt])
 ·(refine aw_plan [] [] [0,1,2,3,4,5,6,7,8,9,10,11,12] 13 0 (by kernel_rfl) (by kernel_rfl) (by kernel_rfl) (fun K hK=>?_));simp only [sel,gcS,gdZ];simp (disch:=first|omega|simp only [lnS];try omega) [-getElem?_pos,-getElem?_neg,hgb,hbl,htk,-notTuple,hnt,-xlen,hl,hlt,Nat.add_assoc]
  refine hK _ _ ?_;clear hK K
  refine awf (by simp<;>omega) ?_
  refine aw_skip (aw_seq ?_)
  (refine aoo fun K hK=>?_;simp (disch:=first|omega|simp only [lnS];try omega) [-getElem?_pos,-getElem?_neg];refine hK _ _ ?_;clear hK K)
  (refine aw_ret ?_;simp (disch:=first|omega|simp only [lnS];try omega) [-getElem?_pos,-getElem?_neg,hlt])
end
section
def sameT(x y:TermD):Bool:=decide (x.kind=y.kind)&&(decide (x.text=y.text)&&decide (x.keys=y.keys))
theorem sameT_iff{x y:TermD}:sameT x y=true↔x=y:=by
 obtain⟨a,b,c⟩:=x
 obtain⟨a',b',c'⟩:=y
 simp [sameT]
theorem tl_beq(a b:ByteArray):(a.toList==b.toList)=decide (a=b):=by
 rw [Bool.eq_iff_iff,beq_iff_eq,decide_eq_true_iff,ByteArray.toList_eq,ByteArray.toList_eq]
 exact⟨fun h=>ByteArray.ext (Array.ext' h),fun h=>by rw [h]⟩
end
section
theorem rless_vc(a b:List Int)(ha:a.length=32)(hb:b.length=32)(hab:By a)(hbb:By b):VC Tryd.prog 65 #[.agg (iv .u8 a).toArray,.agg (iv .u8 b).toArray] (.bool (decide (0<cmpL b a))):=by
 have hla:(iv .u8 a).length=32:=by rw [iv_length,ha]
 have hlb:(iv .u8 b).length=32:=by rw [iv_length,hb]
 refine vc_of_ac (by simp [pv_iv,pv_int,pv_bool,pv_string,pv_tup2,pv_tup3,iv_plain,p2_int,p2_bool,p2_string]) (by simp [pv_iv,pv_int,pv_bool,pv_string,pv_tup2,pv_tup3,iv_plain,p2_int,p2_bool,p2_string]) ?_
 refine ac_of_aw Tryd.func65 rfl Tryd.ntmps65 Tryd.results65 (by simp) ?_
 (refine aso fun K hK=>?_;simp (disch:=first|omega|simp only [lnS];try omega) [-getElem?_pos,-getElem?_neg,hla,hlb];refine hK _ _ ?_;clear hK K)
 refine aw_seq (aw_seq ?_)
 (refine aoo fun K hK=>?_;simp (disch:=first|omega|simp only [lnS];try omega) [-getElem?_pos,-getElem?_neg];refine hK _ _ ?_;clear hK K)
 refine aw_block ?_
 refine aw_loop (fun q α G=>G=[some ⟨iv .u8 a, 41,none⟩,some ⟨iv .u8 b, 41,none⟩]∧∃i:Nat,i+q=32∧α 5=.int .i64 (i:Nat)∧α 2=.pointer (some ⟨0,0,none⟩)∧α 3=.pointer (some ⟨1,0,none⟩)∧a.take i=b.take i) 32 ?_ ?_
 ·exact⟨by simp,0,by omega,by (first|simp;done|rfl),by (first|simp;done|rfl),by (first|simp;done|rfl),by simp⟩
 rintro q α G ⟨rfl,i,hiq,h5,h2,h3,hpre⟩
 refine aw_seq (aw_seq ?_)
 (refine aoo fun K hK=>?_;simp (disch:=first|omega|simp only [lnS];try omega) [-getElem?_pos,-getElem?_neg,h5];refine hK _ _ ?_;clear hK K)
 by_cases hi:i<32
 case neg=>
  refine awf (by simp [hi]<;>omega) ?_
  refine aw_exit ?_
  obtain rfl:i=32:=by omega
  rw [tkL (by omega),tkL (by omega)]at hpre
  subst hpre
  have:=cmpL_eq (a:=a)
  (refine aso fun K hK=>?_;simp (disch:=first|omega|simp only [lnS];try omega) [-getElem?_pos,-getElem?_neg];refine hK _ _ ?_;clear hK K)
  (refine aw_ret ?_;simp (disch:=first|omega|simp only [lnS];try omega) [-getElem?_pos,-getElem?_neg,this])
 refine awt (by simp [hi]<;>omega) ?_
 refine aw_skip (aw_seq ?_)
 refine aw_block ?_
 obtain⟨x,hx⟩:∃x,a[i]?=some x:=⟨_,geE (by omega)⟩
 obtain⟨y,hy⟩:∃y,b[i]?=some y:=⟨_,geE (by omega)⟩
 have hxi:(iv .u8 a)[i]?=some (.int .u8 x):=by simp [iv,hx]
 have hyi:(iv .u8 b)[i]?=some (.int .u8 y):=by simp [iv,hy]
 refine aw_seq ?_
 (refine aw_quiet (by kernel_rfl) (by kernel_rfl) (by kernel_rfl) (fun K hK=>?_);simp (disch:=first|omega|simp only [lnS];try omega) [-getElem?_pos,-getElem?_neg,h5,h2,h3,hla,hlb,hxi,hyi];refine hK _ ?_;clear hK K)
 by_cases hxy:x=y
 case neg=>
  have hc:=cmpL_at hbb hab (by omega) hy hx (fun e=>hxy e.symm) hpre.symm
  refine awt (by simp [hxy]<;>omega) ?_
  refine aw_seq ?_
  (refine aw_quiet (by kernel_rfl) (by kernel_rfl) (by kernel_rfl) (fun K hK=>?_);simp (disch:=first|omega|simp only [lnS];try omega) [-getElem?_pos,-getElem?_neg,h5,h2,h3,hla,hlb,hxi,hyi];refine hK _ ?_;clear hK K)
  by_cases hlt:x<y
  ·rw [if_neg (by omega)]at hc
   (refine aw_ret ?_;simp (disch:=first|omega|simp only [lnS];try omega) [-getElem?_pos,-getElem?_neg,hc,hlt])
  ·rw [if_pos (by omega)]at hc
   (refine aw_ret ?_;simp (disch:=first|omega|simp only [lnS];try omega) [-getElem?_pos,-getElem?_neg,hc,hlt])
 refine awf (by simp [hxy]<;>omega) ?_
 refine aw_skip ?_
 (refine aoo fun K hK=>?_;simp (disch:=first|omega|simp only [lnS];try omega) [-getElem?_pos,-getElem?_neg,h5];refine hK _ _ ?_;clear hK K)
 exact⟨q-1,by omega,rfl,i+1,by omega,by (first|simp;done|rfl),by (first|simp [h2];done|rfl),by (first|simp [h3];done|rfl),by rw [List.take_add_one,List.take_add_one,hpre,hx,hy,hxy]⟩
end
section
theorem shaped_rc{γ:Nat→Option Nat}{H:AH}{k:List Int}(hk:k.length=32)(hb:By k):AC Tryd.prog H.length γ 39 #[.agg (iv .u8 k).toArray] H (fun v' _=>v'=.bool (decide (nmL (plN k)=k))):=by
 have b4:=hb.get 4
 have b5:=hb.get 5
 have b6:=hb.get 6
 have b7:=hb.get 7
 have htk:(iv .u8 k).take 32=iv .u8 k:=tkL (by simp [hk])
 have g4:(iv .u8 k)[4]?=some (.int .u8 (k.getD 4 0)):=iv_getN _ _ _ (by omega)
 have g5:(iv .u8 k)[5]?=some (.int .u8 (k.getD 5 0)):=iv_getN _ _ _ (by omega)
 have g6:(iv .u8 k)[6]?=some (.int .u8 (k.getD 6 0)):=iv_getN _ _ _ (by omega)
 have g7:(iv .u8 k)[7]?=some (.int .u8 (k.getD 7 0)):=iv_getN _ _ _ (by omega)
 have hpl:plN k=k.getD 4 0*16777216+k.getD 5 0*65536+k.getD 6 0*256+k.getD 7 0:=rfl
 have hc:=fun (G:AH)=>rname_rc (γ:=γ) (H:=G) (n:=plN k) (by omega)
 have hkN:(k==nmL (plN k))=decide (nmL (plN k)=k):=by rw [Bool.eq_iff_iff,beq_iff_eq,decide_eq_true_iff];exact eq_comm
 have lN:(nmL (plN k)).length=32:=rfl
 generalize nmL (plN k)=N at *
 generalize plN k=p at *
 generalize k.getD 4 0=x4 at *
 generalize k.getD 5 0=x5 at *
 generalize k.getD 6 0=x6 at *
 generalize k.getD 7 0=x7 at *
 have w4:IntKind.i64.wrap x4=x4:=w64 (by omega)
 have w5:IntKind.i64.wrap x5=x5:=w64 (by omega)
 have w6:IntKind.i64.wrap x6=x6:=w64 (by omega)
 have w7:IntKind.i64.wrap x7=x7:=w64 (by omega)
 have v4:IntKind.i64.wrap (x4*16777216)=x4*16777216:=w64 (by omega)
 have v5:IntKind.i64.wrap (x5*65536)=x5*65536:=w64 (by omega)
 have v6:IntKind.i64.wrap (x6*256)=x6*256:=w64 (by omega)
 have o1:IntKind.i64.wrap (x4*16777216+x5*65536)=x4*16777216+x5*65536:=w64 (by omega)
 have o2:IntKind.i64.wrap (x4*16777216+x5*65536+x6*256)=x4*16777216+x5*65536+x6*256:=w64 (by omega)
 have o3:IntKind.i64.wrap (x4*16777216+x5*65536+x6*256+x7)=p:=by rw [←hpl];exact w64 (by omega)
 have htN:(iv .u8 N).take 32=iv .u8 N:=tkL (by simp [lN])
 generalize decide (N=k)=ok at *
 refine ac_of_aw Tryd.func39 rfl Tryd.ntmps39 Tryd.results39 (by simp) ?_
 (refine aso fun K hK=>?_;simp (disch:=first|omega|simp only [lnS];try omega) [-getElem?_pos,-getElem?_neg,htk];refine hK _ _ ?_;clear hK K)
 refine aw_seq ?_
 (refine aw_plan [] [] [0,1,2,3,4,5,6,7,8,9,10,11,12,13,14,15,16,17,18,19,20,21] 22 0 (by kernel_rfl) (by kernel_rfl) (by kernel_rfl) (fun K hK=>?_));simp only [sel,gcS,gdZ];simp (disch:=first|omega|simp only [lnS];try omega) [-getElem?_pos,-getElem?_neg,htk,g4,g5,g6,g7,w4,w5,w6,w7,v4,v5,v6,o1,o2,o3,Nat.add_assoc]
 refine PLc_call (by kernel_rfl) (fun L hL=>hc _) (by simp [pv_iv,pv_int,pv_bool,pv_string,pv_tup2,pv_tup3,iv_plain,p2_int,p2_bool,p2_string]) ?_
 try simp (disch:=first|omega|simp only [lnS];try omega) [-getElem?_pos,-getElem?_neg,htk,htN,lN,hkN,Nat.add_assoc]
 refine hK _ _ ?_;clear hK K
 (refine aw_ret ?_;simp (disch:=first|omega|simp only [lnS];try omega) [-getElem?_pos,-getElem?_neg,hkN])
end
end
section
def uE(U:List (List Int×Value)):List (Value×Value):=U.map fun p=>(kyv p.1,p.2)
def ul(k:List Int):List (List Int×Value)→Value
 | []=>.slice none 0 0
 | p::U=>if k=p.1 then p.2 else ul k U
def uput(k:List Int)(v:Value):List (List Int×Value)→List (List Int×Value)
 | []=>[(k,v)]
 | p::U=>if k=p.1 then (k,v)::U else p::uput k v U
theorem ul_uput(k0:List Int)(v:Value)(k:List Int):∀U,ul k (uput k0 v U)=if k=k0 then v else ul k U
 | []=>rfl
 | p::U=>by
  unfold uput
  by_cases e:k0=p.1
  ·rw [if_pos e]
   unfold ul
   by_cases e2:k=k0
   ·rw [if_pos e2,if_pos e2]
   ·rw [if_neg e2,if_neg e2,if_neg (fun c=>e2 (c.trans e.symm))]
  ·rw [if_neg e]
   unfold ul
   rw [ul_uput k0 v k U]
   by_cases e2:k=p.1
   ·rw [if_pos e2,if_pos e2,if_neg (fun c=>e (c.symm.trans e2))]
   ·rw [if_neg e2,if_neg e2]
theorem uput_len{k:List Int}{v:Value}(hk:k.length=32):∀ {U:List (List Int×Value)},(∀p∈U,p.1.length=32)→∀p∈uput k v U,p.1.length=32
 | [],_,p,hp=>by
  rw [msG.1 hp]
  exact hk
 | q::U,h,p,hp=>by
  unfold uput at hp
  split at hp
  ·rcases List.mem_cons.1 hp with rfl | hp
   ·exact hk
   ·exact h p (by simp [hp])
  ·rcases List.mem_cons.1 hp with rfl | hp
   ·exact h p (by simp)
   ·exact uput_len hk (fun p hp=>h p (by simp [hp])) p hp
theorem uE_find(k:List Int):∀U,(∃j,mfind (kyv k) (uE U)=some j∧(uE U)[j]?=some (kyv k,ul k U)∧∀v,(uE U).set j (kyv k,v)=uE (uput k v U))∨(mfind (kyv k) (uE U)=none∧ul k U=.slice none 0 0∧∀v,uE U++[(kyv k,v)]=uE (uput k v U))
 | []=>.inr ⟨rfl,rfl,fun v=>rfl⟩
 | p::U=>by
  have hm:mfind (kyv k) (uE (p::U))=if keyEq (kyv k) (kyv p.1)=true then some 0 else (mfind (kyv k) (uE U)).map (·+1):=rfl
  rw [hm,keyEq_kyv]
  by_cases e:k=p.1
  ·refine .inl ⟨0,by rw [if_pos (by simp [e])],?_,fun v=>?_⟩
   ·unfold ul
    rw [if_pos e]
    show some (kyv p.1,p.2)=_
    rw [e]
   ·unfold uput
    rw [if_pos e]
    rfl
  ·have hb:(k==p.1)=false:=by simpa using e
   rw [hb]
   have hul:ul k (p::U)=ul k U:=if_neg e
   have hup:∀v,uput k v (p::U)=p::uput k v U:=fun v=>if_neg e
   rcases uE_find k U with ⟨j,h1,h2,h3⟩ | ⟨h1,h2,h3⟩
   ·refine .inl ⟨j+1,by rw [h1];rfl,by rw [hul];exact h2,fun v=>?_⟩
    rw [hup]
    show (kyv p.1,p.2)::(uE U).set j (kyv k,v)=_
    rw [h3];rfl
   ·refine .inr ⟨by rw [h1];rfl,by rw [hul];exact h2,fun v=>?_⟩
    rw [hup]
    show (kyv p.1,p.2)::(uE U++[(kyv k,v)])=_
    rw [h3];rfl
theorem uE_ok{U:List (List Int×Value)}(h:∀p∈U,p.1.length=32):mapOk Tryd.prog 41 (uE U)=true:=by
 refine alT.2 fun q hq=>?_
 obtain⟨p,hp,rfl⟩:=List.mem_map.1 hq
 exact kyv_ok (h p hp)
theorem us_look{H:AH}{ub:Nat}{U:List (List Int×Value)}(hu:hget H ub=some (mblk 86 (uE U)))(hU:∀p∈U,p.1.length=32){k:List Int}(hk:k.length=32):xlookup Tryd.prog 86 (.map (some ub)) (.agg (iv .u8 k).toArray) false H=some (ul k U):=by
 have h1:und Tryd.prog 86 = .map 41 39 := by kernel_rfl
 have h4:zer Tryd.prog 39 = some (.slice none 0 0):=by kernel_rfl
 have h5:plain2 (.slice none 0 0)=true:=rfl
 have hk2:keyOk Tryd.prog 41 (.agg (iv .u8 k).toArray)=true:=kyv_ok hk
 unfold xlookup mget
 simp only [h1,hu,Option.bind_some,ents_mblk,hk2,uE_ok hU]
 have hky:(Value.agg (iv .u8 k).toArray)=kyv k:=rfl
 rw [hky]
 rcases uE_find k U with ⟨j,g1,g2,g3⟩ | ⟨g1,g2,g3⟩
 ·simp [g1,g2]
 ·simp [g1,g2,h4,h5]
theorem us_entry{nro:Nat}{H:AH}{ub:Nat}{U:List (List Int×Value)}(hu:hget H ub=some (mblk 86 (uE U)))(hn:nro≤ub)(hU:∀p∈U,p.1.length=32){k:List Int}(hk:k.length=32) :
  ∃ (idx:Nat) (E1:List (Value×Value)),xmapEnt Tryd.prog nro 86 (.map (some ub)) (.agg (iv .u8 k).toArray) H=some (.tuple #[ul k U,.int .i64 (idx:Nat)],H.set ub (some (mblk 86 E1))) ∧
   ∀ (G:AH) (v:Value),hget G ub=some (mblk 86 E1)→notTuple v=true→xentSt nro (.map (some ub)) (.int .i64 (idx:Nat)) v G=some (undef,G.set ub (some (mblk 86 (uE (uput k v U))))):=by
 have h1:und Tryd.prog 86 = .map 41 39 := by kernel_rfl
 have h4:zer Tryd.prog 39 = some (.slice none 0 0):=by kernel_rfl
 have h5:plain2 (.slice none 0 0)=true:=rfl
 have hk2:keyOk Tryd.prog 41 (kyv k)=true:=kyv_ok hk
 have hky:(Value.agg (iv .u8 k).toArray)=kyv k:=rfl
 rw [hky]
 rcases uE_find k U with ⟨j,g1,g2,g3⟩ | ⟨g1,g2,g3⟩
 ·have hgd:(uE U).getD j (undef,undef)=(kyv k,ul k U):=by rw [gdD,g2];rfl
  have hjl:=(gsI.1 g2).1
  refine⟨j,(uE U).set j (kyv k,ul k U),?_,fun G v hG hv=>?_⟩
  ·unfold xmapEnt
   simp only [h1,hu,ents_mblk,hk2,uE_ok hU,g1,hgd,mblk_ty]
   rw [if_pos ⟨hn,trivial,trivial⟩]
  ·unfold xentSt
   simp only [hG,ents_mblk,mblk_ty]
   have e1:((uE U).set j (kyv k,ul k U)).getD j (undef,undef)=(kyv k,ul k U):=by rw [gdD,List.getElem?_set_self hjl];rfl
   have e2:((j:Nat):Int).toNat=j:=Int.toNat_natCast j
   rw [e2,if_pos ⟨hn,by omega,by simpa using hjl,hv⟩,e1,List.set_set,g3]
 ·refine⟨(uE U).length,uE U++[(kyv k,.slice none 0 0)],?_,fun G v hG hv=>?_⟩
  ·unfold xmapEnt
   simp only [h1,hu,ents_mblk,hk2,uE_ok hU,g1,g2,h4,mblk_ty]
   rw [if_pos ⟨hn,trivial,trivial⟩,if_pos h5]
  ·unfold xentSt
   simp only [hG,ents_mblk,mblk_ty]
   have e1:(uE U++[(kyv k,Value.slice none 0 0)]).getD (uE U).length (undef,undef)=(kyv k,.slice none 0 0):=by simp
   have e2:(((uE U).length:Nat):Int).toNat=(uE U).length:=Int.toNat_natCast _
   rw [e2,if_pos ⟨hn,by omega,by simp,hv⟩,e1,←g3 v]
   simp
structure SrC where
 sb:Nat
 kb:Nat
 mb:Nat
 ub:Nat
 b:Nat
 tv:Value
 S:List Nat
 Ft:List Nat
 Fk:List Nat
 L:List (Value×TermD)
 U:List (List Int×Value)
def SrC.T(c:SrC):List TermD:=c.L.map (·.2)
structure SrS (H:AH) (c:SrC):Prop where
 tb:TblF H c.b c.mb c.tv c.Ft c.Fk c.L
 tS:∀j∈c.b::c.mb::(c.Ft++c.Fk),j∈c.S
 uS:c.ub∈c.S
 hu:hget H c.ub=some (mblk 86 (uE c.U))
 hU:∀p∈c.U,p.1.length=32
 us:∀k:List Int,k.length=32→∃Fu,Tdo H (ul k c.U) (usersF k 0 c.T) Fu∧∀j∈Fu,j∈c.S
theorem SrS.low{H G:AH}{c:SrC}(h:SrS H c)(hl:∀j∈c.S,hget G j=hget H j):SrS G c:=
 ⟨h.tb.low (fun j hj=>hl j (h.tS j hj)),h.tS,h.uS,(hl _ h.uS).trans h.hu,h.hU,fun k hk=>by
  obtain⟨Fu,h1,h2⟩:=h.us k hk
  exact⟨Fu,h1.low (fun j hj=>hl j (h2 j hj)),h2⟩⟩
structure SR (γ:Nat→Option Nat) (nro:Nat) (H:AH) (c:SrC) (F:List Nat) (s:FSt):Prop where
 pw:∀G:AH,(∀j∈c.S,hget G j=hget H j)→Pw γ G
 st:SrS H c
 dy:SrD H c.L.length c.sb c.kb c.mb c.ub c.tv F s
 ap:∀j∈c.S,j∉F∧j<H.length
 nr:∀j∈F,nro≤j
 nH:nro≤H.length
 n:c.L.length≤1000000
def SRQ(γ:Nat→Option Nat)(nro:Nat)(H:AH)(c:SrC)(F:List Nat)(s:FSt)(v':Value)(H':AH):Prop:=
 v'=.tuple #[]∧H.length≤H'.length∧(∀j,j<H.length→j∉F→hget H' j=hget H j)∧∃F',SR γ nro H' c F' s∧∀j∈F',j∈F∨H.length≤j
section
variable {γ:Nat→Option Nat} {nro:Nat} {H:AH} {c:SrC} {F:List Nat} {s t:FSt}
theorem SR.step{v:Value}{G:AH}(h:SR γ nro H c F s)(q:SrQ H c.L.length c.sb c.kb c.mb c.ub c.tv F t v G):SRQ γ nro H c F t v G:=by
 obtain⟨h0,h1,h2,F',h3,h4⟩:=q
 have hS:∀j∈c.S,hget G j=hget H j:=fun j hj=>h2 j (h.ap j hj).2 (h.ap j hj).1
 refine⟨h0,h1,h2,F',⟨fun A hA=>h.pw A (fun j hj=>(hA j hj).trans (hS j hj)),h.st.low hS,h3,fun j hj=>⟨fun hm=>?_,by have:=(h.ap j hj).2;omega⟩,fun j hj=>?_,by have:=h.nH;omega,h.n⟩,h4⟩
 ·rcases h4 j hm with e | e
  ·exact (h.ap j hj).1 e
  ·have:=(h.ap j hj).2;omega
 ·rcases h4 j hj with e | e
  ·exact h.nr j e
  ·have:=h.nH;omega
theorem SR.lay{G:AH}(h:SR γ nro H c F s)(lw:Low H.length H G):SR γ nro G c F s:=by
 have hb:=h.dy.bound
 exact⟨fun A hA=>h.pw A (fun j hj=>(hA j hj).trans (lw.1 j (h.ap j hj).2)),h.st.low (fun j hj=>lw.1 j (h.ap j hj).2),h.dy.low (fun j hj=>lw.1 j (hb j hj)),fun j hj=>⟨(h.ap j hj).1,by have:=(h.ap j hj).2;have:=lw.2;omega⟩,h.nr,by have:=h.nH;have:=lw.2;omega,h.n⟩
theorem SR.push(h:SR γ nro H c F s)(N:AH):SR γ nro (H++N) c F s:=h.lay ⟨fun j hj=>hget_left hj,by simp⟩
theorem SR.same{G:AH}(h:SR γ nro H c F s)(lw:Low H.length H G):SRQ γ nro H c F s (.tuple #[]) G:=⟨rfl,lw.2,fun j hj _=>lw.1 j hj,F,h.lay lw,fun j hj=>.inl hj⟩
theorem SR.bound(h:SR γ nro H c F s):∀j∈F,j<H.length:=h.dy.bound
theorem SRQ.up{H2 G:AH}{v:Value}(q:SRQ γ nro H2 c F t v G)(lw:Low H.length H H2)(hF:∀j∈F,j<H.length):SRQ γ nro H c F t v G:=by
 obtain⟨h0,h1,h2,F',h3,h4⟩:=q
 have hl:=lw.2
 exact⟨h0,by omega,fun j hj hn=>(h2 j (by omega) hn).trans (lw.1 j hj),F',h3,fun j hj=>(h4 j hj).imp id (fun e=>by omega)⟩
theorem SRQ.then_{F1:List Nat}{G A:AH}{v:Value}{u:FSt}(hl:H.length≤G.length)(hk:∀j,j<H.length→j∉F→hget G j=hget H j)(hF:∀j∈F1,j∈F∨H.length≤j)(q:SRQ γ nro G c F1 u v A):SRQ γ nro H c F u v A:=by
 obtain⟨h0,h1,h2,F',h3,h4⟩:=q
 refine⟨h0,by omega,fun j hj hn=>(h2 j (by omega) (fun e=>?_)).trans (hk j hj hn),F',h3,fun j hj=>?_⟩
 ·rcases hF j e with e | e
  ·exact hn e
  ·omega
 ·rcases h4 j hj with e | e
  ·exact hF j e
  ·exact .inr (by omega)
theorem learnS_ac(h:SR γ nro H c F s){k:List Int}(hk:k.length=32)(hb:By k):AC Tryd.prog nro γ 41 #[.pointer (some ⟨c.sb,0,none⟩),.agg (iv .u8 k).toArray] H (SRQ γ nro H c F (lrn s k)):=
 (learn_ac h.dy h.nr h.nH h.n h.st.tb.tvlen.2 hk hb).mono fun _ _ q=>h.step q
end
end
section
attribute [local simp] wb_bool wb_undef with_lit XL_nil XL_cons XLc_val XLc_call step1_eq stepW_t stepW_f stepC_n stepC_s stepX_s stepX_n stepN_s calleeX xrecv oneV xop_eq xopR_s xopR_n wantedA_eq wantedG_n wantedG_s plain1_int plain1_bool plain1_string bits_i64 bits_u64 bits_u32 bits_u16 bits_u8 xeqA xagg xcmp xarr allK_iv num_iv calleeOf xread xeff xbin xint xnil xun xstr xload xconv xpart xfield xfieldAddr xindexAddr xindex bnd asInt? xslice xlen xmin xmax xbuild xfill xappend xapp2 xappstr xappmk xcap xcopy xcells eval_tmp eval_const put_at put_none fr0_at cells_agg cells_int cells_bool cells_string cells_ptr cells_slice notTuple tab iv_all hget_app hget_app0 hget_cons0 hget_cons set_app set_app0 setR setR_one QL_nil QL_cons QLc_val stepQ_t stepQ_f stepQC_n stepQC_s stepQX_s SL_nil SL_cons SLc_val stepS_t stepS_f ltT ltF leT leF eqT eqF ltTn ltFn leTn leFn eqTn eqFn beqT beqF bneT bneF wi64 wu64 wu32 wu16 wu8 tmodP tdivP hgetL hgetNe hgetEq setL nums_def nums_len Nat.succ_le_of_lt List.getElem?_cons_zero List.getElem?_cons_succ Option.getD_some Int.toNat_add Int.toNat_mul agM okM agB agI agS agP agL agA okB okI okS okP okSl okA nt_strG nt_boolG nt_aggG nt_intG nt_ptrG nt_slG PL_nil plainB_lit PL_cons PLc_val PLc_new stepP_t stepP_f stepPC_n stepPC_s stepPX_s stepPX_n stepPV_n stepPV_s stepPA_t stepPA_c stepPA_l stepPN_s allocOp reloc_sl reloc_ptr thenQ_ret scopeQ_ret inBlockQ_ret RQ resL resV
section
theorem nt_mapG(x:Option Nat):notTuple (.map x)=true:=rfl
theorem shown_getV(l:Nat){H L:AH}{N:List Blk}{i j:Nat}{b:Blk}(h:Shown H.length N L (.slice (some ⟨i,0,none⟩) l l))(hi:i=H.length+j)(hb:N[j]?=some b):hget (H++L) i=some b:=by
 have:=h j b hi hb
 rw [hi,hget_app]
 exact this
theorem empty_rec{k:List Int}:tmRec ((3:Nat):Int) ⟨#[]⟩ [k]=(TermD.mk 3 ⟨#[]⟩ [k]).rec_:=rfl
theorem SR.blocks{γ:Nat→Option Nat}{nro:Nat}{H:AH}{c:SrC}{F:List Nat}{s:FSt}(h:SR γ nro H c F s):∃tdv,hget H c.sb=some ⟨[c.tv,.map (some c.mb),.map (some c.ub),.slice (some ⟨c.kb,0,none⟩) c.L.length c.L.length,tdv], 88,none⟩∧notTuple tdv=true∧hget H c.kb=some ⟨bsC s.1, 4,some 1⟩∧s.1.length=c.L.length∧(bsC s.1).length=c.L.length∧notTuple c.tv=true∧c.tv.cells=#[c.tv]:=by
 obtain⟨tdv,Fd,rfl,h1,h2,h3,h4,_⟩:=h.dy
 exact⟨tdv,h1,h4.nt.1,h2,h3,by simp [bsC,h3],h.st.tb.tvlen.2⟩
theorem agrees_rc{γ:Nat→Option Nat}{nro:Nat}{H:AH}{c:SrC}{F:List Nat}{s:FSt}(h:SR γ nro H c F s){a b:List Int}(ha:a.length=32)(hba:By a)(hb:b.length=32)(hbb:By b) :
  AC Tryd.prog H.length γ 68 #[.pointer (some ⟨c.sb,0,none⟩),.agg (iv .u8 a).toArray,.agg (iv .u8 b).toArray] H (fun v' _=>v'=.bool (agrS c.T s.1 a b)):=by
 obtain⟨tdv,hsb,hnd,hkb,hsl,hbl,hnt,hcs⟩:=h.blocks
 have hn:=h.n
 have hta:(iv .u8 a).take 32=iv .u8 a:=tkL (by simp [ha])
 have htb:(iv .u8 b).take 32=iv .u8 b:=tkL (by simp [hb])
 have lsb:=hget_lt hsb
 have lkb:=hget_lt hkb
 have hfa:=fun (G:AH) (e:hget G c.kb=hget H c.kb)=>follows_rc (γ:=γ) (H:=G) (n:=c.L.length) (e.trans hkb) hsl hn ha hba
 have hfb:=fun (G:AH) (e:hget G c.kb=hget H c.kb)=>follows_rc (γ:=γ) (H:=G) (n:=c.L.length) (e.trans hkb) hsl hn hb hbb
 have hpw:Pw γ H:=h.pw H (fun _ _=>rfl)
 have hm:=h.st.tb.hm
 have hlk:=fun (G:AH) (e:hget G c.mb=hget H c.mb)=>tm_look (e.trans hm) (TermD.mk 3 ⟨#[]⟩ [b]).rec_
 have hrb:=fun (G:AH) (hP:Pw γ G) (v:Value) (hK:KsV G v [b])=>recipe_rc (γ:=γ) (H:=G) hP (kind:=((3:Nat):Int)) (by omega) (by omega) (s:=⟨#[]⟩) (by show (0:Nat)≤_;omega) hK (fun y hy=>by rw [msG.1 hy];exact hb) (fun y hy=>by rw [msG.1 hy];exact hbb) (by simp)
 rw [empty_rec]at hrb
 have hpT:placeT ⟨3,⟨#[]⟩,[b]⟩ c.T=idxS (TermD.mk 3 ⟨#[]⟩ [b]).rec_ ((c.L.map (·.2)).map TermD.rec_):=rfl
 have hpk:∀p,idxS (TermD.mk 3 ⟨#[]⟩ [b]).rec_ ((c.L.map (·.2)).map TermD.rec_)=some p→p<c.L.length:=fun p hp=>by
  have:=(gsI.1 (idxS_some hp)).1
  simpa using this
 unfold agrS pubK
 rw [hpT]
 generalize (TermD.mk 3 ⟨#[]⟩ [b]).rec_=r at *
 generalize idxS r ((c.L.map (·.2)).map TermD.rec_)=pl at *
 generalize fol s.1 a=fa at *
 generalize fol s.1 b=fb at *
 have hsrb:setR (List.map (fun j=>(iv .u8 (zl 32))[j%32]?.getD undef) (List.range 32)) 0 (iv .u8 b)=iv .u8 b:=setR_all _ _ (by simp [hb])
 obtain⟨H1,hH1⟩:∃H1:AH,H1=H++[some ⟨iv .u8 a, 41,none⟩,some ⟨iv .u8 b, 41,none⟩]:=⟨_,rfl⟩
 have k1:∀j,j<H.length→hget H1 j=hget H j:=fun j hj=>by rw [hH1];exact hget_left hj
 have g4:hget H1 H.length=some ⟨iv .u8 a, 41,none⟩:=by rw [hH1,hget_app0];rfl
 have g5:hget H1 (H.length+1)=some ⟨iv .u8 b, 41,none⟩:=by rw [hH1,hget_app];rfl
 have l1:H1.length=H.length+2:=by rw [hH1];simp
 have s1:=(k1 _ lsb).trans hsb
 have m1:hget H1 c.mb=hget H c.mb:=k1 _ (hget_lt hm)
 have b1:hget H1 c.kb=hget H c.kb:=k1 _ lkb
 have lm:c.mb<H.length:=hget_lt hm
 refine ac_of_aw Tryd.func68 rfl Tryd.ntmps68 Tryd.results68 (by simp) ?_
 (refine aso fun K hK=>?_;simp (disch:=first|omega|simp only [lnS];try omega) [-getElem?_pos,-getElem?_neg,hta,htb];refine hK _ _ ?_;clear hK K)
 rw [←hH1]
 refine aw_seq (aw_seq ?_)
 (refine aw_plan [] [] [0,1,2,3,4,5,6] 7 0 (by kernel_rfl) (by kernel_rfl) (by kernel_rfl) (fun K hK=>?_));simp only [sel,gcS,gdZ];simp (disch:=first|omega|simp only [lnS];try omega) [-getElem?_pos,-getElem?_neg,s1,g4,ha,hta,-notTuple,hnt,hnd,nt_mapG,Nat.add_assoc]
 refine PLc_call (v:=.bool fa) (by kernel_rfl) (fun L hL=>hfa (H1++L) ((hget_left (by omega)).trans b1)) (by simp [pv_iv,pv_int,pv_bool,pv_string,pv_tup2,pv_tup3,iv_plain,p2_int,p2_bool,p2_string]) ?_
 simp (disch:=first|omega|simp only [lnS];try omega) [-getElem?_pos,-getElem?_neg,Nat.add_assoc]
 refine hK _ _ ?_;clear hK K
 cases fa with
 | false=>
  refine awt (by simp<;>omega) ?_
  (refine aso fun K hK=>?_;simp (disch:=first|omega|simp only [lnS];try omega) [-getElem?_pos,-getElem?_neg];refine hK _ _ ?_;clear hK K)
  (refine aw_ret ?_;simp (disch:=first|omega|simp only [lnS];try omega) [-getElem?_pos,-getElem?_neg])
 | true=>
  refine awf (by simp<;>omega) ?_
  refine aw_skip (aw_seq ?_)
  (refine aw_plan [] [] [0,1,2,3,4,5,6,7,8,9,10,11,12] 13 0 (by kernel_rfl) (by kernel_rfl) (by kernel_rfl) (fun K hK=>?_));simp only [sel,gcS,gdZ];simp (disch:=first|omega|simp only [lnS];try omega) [-getElem?_pos,-getElem?_neg,s1,g5,hb,htb,hsrb,-notTuple,hnt,hnd,nt_mapG,Nat.add_assoc]
  refine PLc_call (v:=.string r) (by kernel_rfl) (fun L hL=>hrb (H1++L) (hpw.low ⟨fun j hj=>(hget_left (by omega)).trans (k1 j hj),by simp;omega⟩) _ ?_) (by simp [pv_iv,pv_int,pv_bool,pv_string,pv_tup2,pv_tup3,iv_plain,p2_int,p2_bool,p2_string]) ?_
  ·exact keys1 hb (shown_getV 1 (j:=0) (hL _ (by simp)) (by simp) rfl)
  cases pl with
  | none=>
   simp (disch:=first|omega|simp only [lnS];try omega) [-getElem?_pos,-getElem?_neg,hlk H1 m1,Nat.add_assoc]
   refine hK _ _ ?_;clear hK K
   refine aw_seq ?_
   (refine aw_plan [] [] [0,1,2,3,4,5,6,7,8,9,10,11,12,13,14,15,16,17,18] 19 0 (by kernel_rfl) (by kernel_rfl) (by kernel_rfl) (fun K hK=>?_));simp only [sel,gcS,gdZ];simp (disch:=first|omega|simp only [lnS];try omega) [-getElem?_pos,-getElem?_neg,s1,g5,hb,htb,hsrb,-notTuple,hnt,hnd,nt_mapG,Nat.add_assoc]
   refine PLc_call (v:=.bool fb) (by kernel_rfl) (fun L hL=>hfb _ ?_) (by simp [pv_iv,pv_int,pv_bool,pv_string,pv_tup2,pv_tup3,iv_plain,p2_int,p2_bool,p2_string]) ?_
   ·rw [hget_left (by simp;omega),hget_left (by omega)]
    exact b1
   cases fb with
   | true=>
    simp (disch:=first|omega|simp only [lnS];try omega) [-getElem?_pos,-getElem?_neg,Nat.add_assoc]
    refine hK _ _ ?_;clear hK K
    (refine aw_ret ?_;simp (disch:=first|omega|simp only [lnS];try omega) [-getElem?_pos,-getElem?_neg])
   | false=>
    simp (disch:=first|omega|simp only [lnS];try omega) [-getElem?_pos,-getElem?_neg,Nat.add_assoc]
    refine hK _ _ ?_;clear hK K
    (refine aw_ret ?_;simp (disch:=first|omega|simp only [lnS];try omega) [-getElem?_pos,-getElem?_neg])
  | some p=>
   have hpl:=hpk p rfl
   have hcell:(bsC s.1)[p]?=some (.bool (kw s.1 p)):=bsC_get (kw_get (by omega))
   have kb1:=b1.trans hkb
   simp (disch:=first|omega|simp only [lnS];try omega) [-getElem?_pos,-getElem?_neg,hlk H1 m1,Nat.add_assoc]
   refine hK _ _ ?_;clear hK K
   refine aw_seq ?_
   (refine aw_plan [] [] [0,1,2,3,4,5,6,7,8,9,10,11,12,13,14,15,16,17,18] 19 0 (by kernel_rfl) (by kernel_rfl) (by kernel_rfl) (fun K hK=>?_));simp only [sel,gcS,gdZ];simp (disch:=first|omega|simp only [lnS];try omega) [-getElem?_pos,-getElem?_neg,s1,g5,hb,htb,hsrb,-notTuple,hnt,hnd,nt_mapG,Nat.add_assoc]
   refine PLc_call (v:=.bool fb) (by kernel_rfl) (fun L hL=>hfb _ ?_) (by simp [pv_iv,pv_int,pv_bool,pv_string,pv_tup2,pv_tup3,iv_plain,p2_int,p2_bool,p2_string]) ?_
   ·rw [hget_left (by simp;omega),hget_left (by omega)]
    exact b1
   cases fb with
   | true=>
    simp (disch:=first|omega|simp only [lnS];try omega) [-getElem?_pos,-getElem?_neg,Nat.add_assoc]
    refine hK _ _ ?_;clear hK K
    (refine aw_ret ?_;simp (disch:=first|omega|simp only [lnS];try omega) [-getElem?_pos,-getElem?_neg])
   | false=>
    simp (disch:=first|omega|simp only [lnS];try omega) [-getElem?_pos,-getElem?_neg,hpl,kb1,hbl,hcell,s1,Nat.add_assoc]
    refine hK _ _ ?_;clear hK K
    (refine aw_ret ?_;simp (disch:=first|omega|simp only [lnS];try omega) [-getElem?_pos,-getElem?_neg])
end
section
theorem all_take_snoc{l:List (List Int)}{P:List Int→Bool}{i:Nat}(hi:i<l.length)(h:(l.take i).all P=true)(h2:P (l.getD i [])=true):(l.take (i+1)).all P=true:=by
 rw [List.take_add_one,List.all_append,h,geE hi]
 rw [gdD,geE hi]at h2
 simpa using h2
theorem all_out{l:List (List Int)}{P:List Int→Bool}{i:Nat}(hi:i<l.length)(h2:P (l.getD i [])=false):l.all P=false:=by
 rw [gdD,geE hi]at h2
 rw [List.all_eq_false]
 exact⟨l[i],List.getElem_mem hi,by simpa using h2⟩
theorem makes_rc{γ:Nat→Option Nat}{nro:Nat}{H:AH}{c:SrC}{F:List Nat}{s:FSt}(h:SR γ nro H c F s){kv:Value}{x:TermD}(hx:(kv,x)∈c.L) :
  AC Tryd.prog H.length γ 59 #[.pointer (some ⟨c.sb,0,none⟩),.agg (tmRow kv x).toArray] H (fun v' _=>v'=.bool (mks c.T s.1 x)):=by
 obtain⟨tdv,hsb,hnd,hkb,hsl,hbl,hnt,hcs⟩:=h.blocks
 have hn:=h.n
 have lsb:=hget_lt hsb
 have lkb:=hget_lt hkb
 have hw:x.Wf:=h.st.tb.wf _ hx
 have hkn:=h.st.tb.key_nt hx
 obtain⟨Fx,hox,_⟩:=h.st.tb.keys _ hx
 have hKs:KsV H kv x.keys:=kr_ksv hox hw.k32
 have hacc:=hKs.acc hw.k32
 have hmk:=hw.many
 have hkd:=hw.kind
 have hlen:=hacc.len
 have p1:plain1 (.slice none 0 0)=true:=rfl
 have r3:List.range 3=[0,1,2]:=rfl
 have hf:=fun (G:AH) (e:hget G c.kb=hget H c.kb) (k:List Int) (hk:k.length=32) (hb:By k)=>follows_rc (γ:=γ) (H:=G) (n:=c.L.length) (e.trans hkb) hsl hn hk hb
 obtain⟨H1,hH1⟩:∃H1:AH,H1=H++[some ⟨[.int .i64 (x.kind:Nat),.string x.text,kv], 92,none⟩]:=⟨_,rfl⟩
 have kj:∀j,j<H.length→hget H1 j=hget H j:=fun j hj=>by rw [hH1];exact hget_left hj
 have g3:hget H1 H.length=some ⟨[.int .i64 (x.kind:Nat),.string x.text,kv], 92,none⟩:=by rw [hH1,hget_app0];rfl
 have l1:H1.length=H.length+1:=by rw [hH1];simp
 have s1:=(kj _ lsb).trans hsb
 have lw1:Low H.length H H1:=⟨kj,by omega⟩
 have lg3:=hget_lt g3
 have hkey:∀i,i<x.keys.length→(x.keys.getD i []).length=32∧By (x.keys.getD i []):=fun i hi=>by
  rw [gdD,geE hi]
  exact⟨hw.k32 _ (List.getElem_mem hi),hw.by_ _ (List.getElem_mem hi)⟩
 have htm:tmRow kv x=[.int .i64 (x.kind:Nat),.string x.text,kv]:=rfl
 rw [htm]
 have hag:=hw.agree
 have hacg:=fun (N:AH) (a b:List Int) (ha:a.length=32) (hba:By a) (hb:b.length=32) (hbb:By b)=>agrees_rc ((h.lay lw1).push N) ha hba hb hbb
 unfold mks k0 k1
 obtain⟨kd,hkdd⟩:∃kd,kd=x.kind:=⟨_,rfl⟩
 rw [←hkdd]at g3 hH1 hkd hag ⊢
 refine ac_of_aw Tryd.func59 rfl Tryd.ntmps59 Tryd.results59 (by simp) ?_
 (refine aso fun K hK=>?_;simp (disch:=first|omega|simp only [lnS];try omega) [-notTuple,hkn.1,hkn.2];refine hK _ _ ?_;clear hK K)
 rw [←hH1]
 refine aw_seq (aw_seq ?_)
 (refine aoo fun K hK=>?_;simp (disch:=first|omega|simp only [lnS];try omega) [g3,lg3,-notTuple,hkn.1];refine hK _ _ ?_;clear hK K)
 refine aw_block ?_
 refine aw_seq ?_
 refine aw_cut (fun α G=>G=H1∧α 0=.pointer (some ⟨c.sb,0,none⟩)∧α 3=.pointer (some ⟨H.length,0,none⟩)∧α 8=.int .i64 (kd:Nat)∧α 9=.bool (decide (kd=2∨kd=3∨kd=5∨kd=6))) ?_ ?_
 ·refine aw_seq ?_
  by_cases e2:kd=2
  ·have b2:((kd:Int)==2)=true:=by rw [e2];rfl
   have i2:(kd:Int)=2:=by omega
   (refine aoo fun K hK=>?_;simp (disch:=first|omega|simp only [lnS];try omega) [b2,i2];refine hK _ _ ?_;clear hK K)
   refine awt (by simp<;>omega) ?_
   refine aw_skip ?_
   exact⟨rfl,by (first|simp;done|rfl),by (first|simp;done|rfl),by (first|simp [i2];done|rfl),by simp [put_at,e2]⟩
  ·have b2:((kd:Int)==2)=false:=by rw [beq_eq_false_iff_ne];omega
   have i2:¬ (kd:Int)=2:=by omega
   (refine aoo fun K hK=>?_;simp (disch:=first|omega|simp only [lnS];try omega) [b2,i2];refine hK _ _ ?_;clear hK K)
   refine awf (by simp<;>omega) ?_
   refine aw_seq ?_
   by_cases e5:kd=5
   ·have b5:((kd:Int)==5)=true:=by rw [e5];rfl
    have i5:(kd:Int)=5:=by omega
    (refine aoo fun K hK=>?_;simp (disch:=first|omega|simp only [lnS];try omega) [b5,i5];refine hK _ _ ?_;clear hK K)
    refine awt (by simp<;>omega) ?_
    refine aw_skip ?_
    exact⟨rfl,by (first|simp;done|rfl),by (first|simp;done|rfl),by (first|simp [i5];done|rfl),by simp [put_at,e5]⟩
   ·have b5:((kd:Int)==5)=false:=by rw [beq_eq_false_iff_ne];omega
    have i5:¬ (kd:Int)=5:=by omega
    (refine aoo fun K hK=>?_;simp (disch:=first|omega|simp only [lnS];try omega) [b5,i5];refine hK _ _ ?_;clear hK K)
    refine awf (by simp<;>omega) ?_
    refine aw_seq ?_
    by_cases e6:kd=6
    ·have b6:((kd:Int)==6)=true:=by rw [e6];rfl
     have i6:(kd:Int)=6:=by omega
     (refine aoo fun K hK=>?_;simp (disch:=first|omega|simp only [lnS];try omega) [b6,i6];refine hK _ _ ?_;clear hK K)
     refine awt (by simp<;>omega) ?_
     refine aw_skip ?_
     exact⟨rfl,by (first|simp;done|rfl),by (first|simp;done|rfl),by (first|simp [i6];done|rfl),by simp [put_at,e6]⟩
    ·have b6:((kd:Int)==6)=false:=by rw [beq_eq_false_iff_ne];omega
     have i6:¬ (kd:Int)=6:=by omega
     (refine aoo fun K hK=>?_;simp (disch:=first|omega|simp only [lnS];try omega) [b6,i6];refine hK _ _ ?_;clear hK K)
     refine awf (by simp<;>omega) ?_
     by_cases e3:kd=3
     ·have b3:((kd:Int)==3)=true:=by rw [e3];rfl
      have i3:(kd:Int)=3:=by omega
      (refine aoo fun K hK=>?_;simp (disch:=first|omega|simp only [lnS];try omega) [b3,i3];refine hK _ _ ?_;clear hK K)
      exact⟨rfl,by (first|simp;done|rfl),by (first|simp;done|rfl),by (first|simp [i3];done|rfl),by simp [put_at,e3]⟩
     ·have b3:((kd:Int)==3)=false:=by rw [beq_eq_false_iff_ne];omega
      have i3:¬ (kd:Int)=3:=by omega
      (refine aoo fun K hK=>?_;simp (disch:=first|omega|simp only [lnS];try omega) [b3,i3];refine hK _ _ ?_;clear hK K)
      exact⟨rfl,by (first|simp;done|rfl),by (first|simp;done|rfl),by (first|simp;done|rfl),by simp [put_at,e2,e3,e5,e6]⟩
 rintro α G ⟨rfl,h0,h3,h8,h9⟩
 clear hH1
 by_cases hk:kd=2∨kd=3∨kd=5∨kd=6
 ·rw [if_pos hk]
  rw [decide_eq_true hk]at h9
  refine awt (by simp [h9]<;>omega) ?_
  refine aw_seq (aw_seq ?_)
  (refine aoo fun K hK=>?_;simp (disch:=first|omega|simp only [lnS];try omega) [h3,g3,lg3,-notTuple,hkn.1,hkn.2,-xlen,hlen];refine hK _ _ ?_;clear hK K)
  refine aw_block ?_
  refine aw_loop (fun q α G1=>∃i:Nat,i+q=x.keys.length∧Low G.length G G1∧α 0=.pointer (some ⟨c.sb,0,none⟩)∧α 15=kv∧α 16=.int .i64 (x.keys.length:Nat)∧α 17=.int .i64 (i:Nat)∧(x.keys.take i).all (fol s.1)=true) x.keys.length ?_ ?_
  ·exact⟨0,by omega,Low.refl (nlE _),by (first|simp [h0];done|rfl),by (first|simp;done|rfl),by (first|simp;done|rfl),by (first|simp;done|rfl),rfl⟩
  clear h0 h3 h8 h9
  rintro q α G1 ⟨i,hiq,lwG,h0,h15,h16,h17,hall⟩
  refine aw_seq ?_
  by_cases hi:i<x.keys.length
  case neg=>
   (refine aoo fun K hK=>?_;simp (disch:=first|omega|simp only [lnS];try omega) [h16,h17,hi];refine hK _ _ ?_;clear hK K)
   refine aw_seq ?_
   refine awf (by simp [hi]<;>omega) ?_
   refine aw_exit (aw_seq ?_)
   (refine aoo fun K hK=>?_;simp (disch:=first|omega|simp only [lnS];try omega);refine hK _ _ ?_;clear hK K)
   (refine aw_ret ?_;simp (disch:=first|omega|simp only [lnS];try omega))
   obtain rfl:i=x.keys.length:=by omega
   rw [List.take_length]at hall
   exact alT.1 hall
  obtain⟨q1,y,r1,r2,r3',r4,r5⟩:=hacc.at_ i hi
  have lwA:Low H.length H G1:=⟨fun j hj=>(lwG.1 j (by omega)).trans (lw1.1 j hj),by have:=lwG.2;omega⟩
  have r5:=r5 G1 lwA
  obtain⟨k32,kby⟩:=hkey i hi
  have hfk:=fun (A:AH) (e:hget A c.kb=hget H c.kb)=>hf A e _ k32 kby
  have hfd:fol s.1 (x.keys.getD i [])=true→(x.keys.take (i+1)).all (fol s.1)=true:=all_take_snoc hi hall
  have hff:fol s.1 (x.keys.getD i [])=false→x.keys.all (fol s.1)=false:=all_out hi
  subst r4
  have l3:=lwG.2
  have s2:=(lwA.1 _ lsb).trans hsb
  have b2:=lwA.1 _ lkb
  generalize x.keys.getD i []=k at *
  generalize fol s.1 k=fk at *
  have htk:(iv .u8 k).take 32=iv .u8 k:=tkL (by simp [k32])
  have hsr:setR (iv .u8 (zl 32)) 0 (iv .u8 k)=iv .u8 k:=setR_all _ _ (by simp [k32])
  (refine aoo fun K hK=>?_;simp (disch:=first|omega|simp only [lnS];try omega) [h16,h17,hi];refine hK _ _ ?_;clear hK K)
  refine aw_seq ?_
  refine awt (by simp [hi]<;>omega) ?_
  refine aw_skip (aw_seq ?_)
  refine aw_block ?_
  refine aw_seq ?_
  have hng:H.length≤G1.length:=by omega
  (refine aoo fun K hK=>?_;simp (disch:=first|omega|simp only [lnS];try omega) [h15,h17,-xindexAddr,r1,r2,-xload,r5,-notTuple,hkn.1,htk,hsr,k32,hng];refine hK _ _ ?_;clear hK K)
  refine aw_seq ?_
  (refine aw_plan [] [] [0,1,2,3,4,5,6] 7 0 (by kernel_rfl) (by kernel_rfl) (by kernel_rfl) (fun K hK=>?_));simp only [sel,gcS,gdZ];simp (disch:=first|omega|simp only [lnS];try omega) [h0,s2,htk,k32,-notTuple,hnt,hnd,nt_mapG,Nat.add_assoc]
  refine PLc_call (v:=.bool fk) (by kernel_rfl) (fun L hL=>hfk _ ?_) (by simp [pv_iv,pv_int,pv_bool,pv_string,pv_tup2,pv_tup3,iv_plain,p2_int,p2_bool,p2_string]) ?_
  ·rw [hget_left (by simp;omega),hget_left (by omega)]
   exact b2
  cases fk with
  | false=>
   simp (disch:=first|omega|simp only [lnS];try omega) [Nat.add_assoc]
   refine hK _ _ ?_;clear hK K
   refine awt (by simp<;>omega) ?_
   (refine aso fun K hK=>?_;simp (disch:=first|omega|simp only [lnS];try omega);refine hK _ _ ?_;clear hK K)
   (refine aw_ret ?_;simp (disch:=first|omega|simp only [lnS];try omega))
   have:=hff rfl
   rw [List.all_eq_false]at this
   obtain⟨y,hy1,hy2⟩:=this
   exact⟨y,hy1,by simpa using hy2⟩
  | true=>
   simp (disch:=first|omega|simp only [lnS];try omega) [Nat.add_assoc]
   refine hK _ _ ?_;clear hK K
   refine awf (by simp<;>omega) ?_
   refine aw_skip ?_
   (refine aoo fun K hK=>?_;simp (disch:=first|omega|simp only [lnS];try omega) [h17];refine hK _ _ ?_;clear hK K)
   exact⟨q-1,by omega,i+1,by omega,⟨fun j hj=>(hget_left (by omega)).trans (lwG.1 j hj),by simp;omega⟩,by (first|simp [h0];done|rfl),by (first|simp [h15];done|rfl),by (first|simp [h16];done|rfl),by (first|simp;done|rfl),hfd rfl⟩
 ·rw [if_neg hk]
  rw [decide_eq_false hk]at h9
  refine awf (by simp [h9]<;>omega) ?_
  refine aw_seq ?_
  by_cases h4:kd=4
  ·rw [if_pos h4]
   have b4:((kd:Int)==4)=true:=by rw [h4];rfl
   have i4:(kd:Int)=4:=by omega
   have h2:=hag h4
   obtain⟨a32,aby⟩:=hkey 0 (by omega)
   obtain⟨b32,bby⟩:=hkey 1 (by omega)
   obtain⟨q0,y0,t1,t2,t3,t4,t5⟩:=hacc.at_ 0 (by omega)
   obtain⟨q1,y1,u1,u2,u3,u4,u5⟩:=hacc.at_ 1 (by omega)
   have t2:xindexAddr Tryd.prog 34 kv (.int .i64 0)=some q0:=t2
   have u2:xindexAddr Tryd.prog 34 kv (.int .i64 1)=some q1:=u2
   have t5:=t5 G lw1
   have u5:=u5 G lw1
   subst t4 u4
   generalize x.keys.getD 0 []=a at *
   generalize x.keys.getD 1 []=b at *
   have c1:=fun (N:AH)=>hacg N a b a32 aby b32 bby
   have c2:=fun (N:AH)=>hacg N b a b32 bby a32 aby
   generalize agrS c.T s.1 a b=f1 at *
   generalize agrS c.T s.1 b a=f2 at *
   have ld:xload Tryd.prog 34 (.pointer (some ⟨H.length,2,none⟩)) G=some kv:=by simp [xload,g3]
   (refine aoo fun K hK=>?_;simp (disch:=first|omega|simp only [lnS];try omega) [h8,b4,i4];refine hK _ _ ?_;clear hK K)
   refine awt (by simp<;>omega) ?_
   refine aw_seq ?_
   (refine aw_plan [] [] [0,1,2,3,4,5,6,7,8,9,10,11,12,13,14,15,16,17,18,19,20,21,22] 23 0 (by kernel_rfl) (by kernel_rfl) (by kernel_rfl) (fun K hK=>?_));simp only [sel,gcS,gdZ];simp (disch:=first|omega|simp only [lnS];try omega) [h0,h3,g3,lg3,-notTuple,hkn.1,hkn.2,-xindexAddr,t1,u1,t2,u2,-xload,ld,t5,u5,Nat.add_assoc]
   refine PLc_call (v:=.bool f1) (by kernel_rfl) (fun L hL=>c1 L) (by simp [pv_iv,pv_int,pv_bool,pv_string,pv_tup2,pv_tup3,iv_plain,p2_int,p2_bool,p2_string]) ?_
   cases f1 with
   | true=>
    simp (disch:=first|omega|simp only [lnS];try omega) [Nat.add_assoc]
    refine hK _ _ ?_;clear hK K
    (refine aw_ret ?_;simp (disch:=first|omega|simp only [lnS];try omega))
   | false=>
    simp (disch:=first|omega|simp only [lnS];try omega) [h0,h3,g3,lg3,-notTuple,hkn.1,hkn.2,-xindexAddr,t1,u1,t2,u2,-xload,ld,t5,u5,Nat.add_assoc]
    refine PLc_call (v:=.bool f2) (by kernel_rfl) (fun L hL=>c2 L) (by simp [pv_iv,pv_int,pv_bool,pv_string,pv_tup2,pv_tup3,iv_plain,p2_int,p2_bool,p2_string]) ?_
    simp (disch:=first|omega|simp only [lnS];try omega) [Nat.add_assoc]
    refine hK _ _ ?_;clear hK K
    (refine aw_ret ?_;simp (disch:=first|omega|simp only [lnS];try omega))
  ·rw [if_neg h4]
   have b4:((kd:Int)==4)=false:=by rw [beq_eq_false_iff_ne];omega
   have i4:¬ (kd:Int)=4:=by omega
   (refine aoo fun K hK=>?_;simp (disch:=first|omega|simp only [lnS];try omega) [h8,b4,i4];refine hK _ _ ?_;clear hK K)
   refine awf (by simp<;>omega) ?_
   refine aw_skip (aw_seq ?_)
   (refine aoo fun K hK=>?_;simp (disch:=first|omega|simp only [lnS];try omega);refine hK _ _ ?_;clear hK K)
   (refine aw_ret ?_;simp (disch:=first|omega|simp only [lnS];try omega))
end
section
theorem kr_dropV{S:List (List Int)}(h:K32 S){k:Nat}(hk:k≤S.length):(kr S).drop (k*32)=kr (S.drop k):=by
 have e:kr S=kr (S.take k)++kr (S.drop k):=by rw [←kr_app,List.take_append_drop]
 have hl:(kr (S.take k)).length=k*32:=by rw [kr_len (fun y hy=>h y (List.mem_of_mem_take hy)),List.length_take,Nat.min_eq_left hk]
 rw [e,←hl,List.drop_left]
theorem suf_keys{H:AH}{kv:Value}{ks:List (List Int)}{Fx:List Nat}(h:OwnF H kv 41 32 (kr ks) Fx)(hk:K32 ks)(h2:2≤ks.length) :
  ∃sv,(∀G:AH,xslice Tryd.prog 34 kv (some (.int .i64 2)) none G=some sv)∧notTuple sv=true∧sv.cells=#[sv]∧xlen Tryd.prog 34 sv=some (.int .i64 ((ks.length-2:Nat):Int))∧PartK H H.length sv (ks.drop 2) ∧
   ∀i,i<ks.length-2→∃q,xindexAddr Tryd.prog 34 sv (.int .i64 (i:Nat))=some q∧notTuple q=true∧∀G:AH,(∀j∈Fx,hget G j=hget H j)→xload Tryd.prog 41 q G=some (.agg (iv .u8 ((ks.drop 2).getD i [])).toArray):=by
 have hu:und Tryd.prog 34 = .slice 41 := by kernel_rfl
 have hs:szt Tryd.prog 41 = 32:=by kernel_rfl
 have hkl:=kr_len hk
 rcases h with ⟨_,h3,_⟩ | ⟨j,len,rfl,h3,h4,rfl⟩
 ·rw [h3]at hkl
  simp at hkl
  omega
 ·have hln:len=ks.length:=by omega
  subst hln
  have hj:=hget_lt h3
  by_cases e:ks.length=2
  ·refine⟨.slice (some ⟨j,0,some 0⟩) 0 0,fun G=>?_,rfl,rfl,?_,⟨⟨some ⟨j,0,some 0⟩,0,?_⟩,fun G hG=>?_⟩,fun i hi=>by omega⟩
   ·unfold xslice
    simp only [hu,bnd,hs]
    rw [show asInt? (Value.int .i64 2)=some 2 from rfl]
    dsimp only
    rw [if_pos ⟨by omega,by omega,by omega,by omega⟩,if_pos ⟨by omega,by omega⟩]
   ·unfold xlen
    simp only [hu]
    rw [e]
   ·rw [List.length_drop,e]
   ·have:ks.drop 2=[]:=List.eq_nil_of_length_eq_zero (by rw [List.length_drop];omega)
    rw [this];rfl
  ·refine⟨.slice (some ⟨j,64,none⟩) (ks.length-2) (ks.length-2),fun G=>?_,rfl,rfl,?_,⟨⟨some ⟨j,64,none⟩,_,by rw [List.length_drop]⟩,fun G hG=>?_⟩,fun i hi=>⟨.pointer (some ⟨j,64+i*32,none⟩),?_,rfl,fun G hG=>?_⟩⟩
   ·unfold xslice
    simp only [hu,bnd,hs]
    rw [show asInt? (Value.int .i64 2)=some 2 from rfl]
    dsimp only
    rw [if_pos ⟨by omega,by omega,by omega,by omega⟩,if_neg (by omega),if_pos trivial]
    simp
   ·unfold xlen
    simp only [hu]
   ·have hg:=(hG j hj).trans h3
    unfold xcells
    simp only [hg]
    rw [if_pos (by rw [hkl];omega),show (64:Nat)=2*32 by rfl,kr_dropV hk h2]
    rw [tkL]
    rw [kr_len (fun k hm=>hk k (List.mem_of_mem_drop hm)),List.length_drop]
    exact nlE _
   ·unfold xindexAddr
    simp only [hu,hs]
    rw [if_pos ⟨by omega,by omega,by omega⟩]
    simp
   ·have hg:=(hG j (by simp)).trans h3
    have hgk:ks[2+i]?=some ((ks.drop 2).getD i []):=by
     rw [gdD,List.getElem?_drop,geE (by omega)]
     rfl
    have:=kr_load hk hgk hg
    rwa [show (2+i)*32=64+i*32 by omega]at this
theorem try_ac{γ:Nat→Option Nat}{nro:Nat}{H:AH}{c:SrC}{F:List Nat}{s:FSt}(h:SR γ nro H c F s){i:Nat}(hi:i<c.L.length) :
  AC Tryd.prog nro γ 42 #[.pointer (some ⟨c.sb,0,none⟩),.int .i64 (i:Nat)] H (SRQ γ nro H c F (tryS c.T s i)):=by
 obtain⟨tdv,hsb,hnd,hkb,hsl,hbl,hnt,hcs⟩:=h.blocks
 have hn:=h.n
 obtain⟨⟨kv,x⟩,hp⟩:∃p,c.L[i]?=some p:=⟨_,geE hi⟩
 have hmem:=moG hp
 have hkn:=h.st.tb.key_nt hmem
 obtain⟨q,a1,a2,a3⟩:=h.st.tb.at_ hp
 have a3:xload Tryd.prog 92 q H=some (.agg (tmRow kv x).toArray):=by simpa using a3 []
 have hx:trm c.T i=x:=trm_of (by unfold SrC.T;rw [gmP,hp];rfl)
 have hmk:=makes_rc h hmem
 have hcell:(bsC s.1)[i]?=some (.bool (kw s.1 i)):=bsC_get (kw_get (by omega))
 have ld0:xload Tryd.prog 30 (.pointer (some ⟨c.sb,0,none⟩)) H=some c.tv:=by simp [xload,hsb]
 have ld3:xload Tryd.prog 55 (.pointer (some ⟨c.sb,3,none⟩)) H=some (.slice (some ⟨c.kb,0,none⟩) c.L.length c.L.length):=by simp [xload,hsb]
 have ldk:xload Tryd.prog 4 (.pointer (some ⟨c.kb,i,none⟩)) H=some (.bool (kw s.1 i)):=by
  have:i+1≤(bsC s.1).length:=by omega
  simp [xload,hkb,hcell,this]
 have ia:xindexAddr Tryd.prog 55 (.slice (some ⟨c.kb,0,none⟩) c.L.length c.L.length) (.int .i64 (i:Nat))=some (.pointer (some ⟨c.kb,i,none⟩)):=by
  have:(i:Int)<c.L.length:=by omega
  simp [xindexAddr,hi,this]
 have hsame:=fun (G:AH) (lw:Low H.length H G)=>h.same lw
 have hlr:=learnS_ac h (nmL_len i) (nmL_by i)
 have hnm:=name_rc (γ:=γ) (H:=H) (n:=(i:Nat)) ⟨by omega,by omega⟩
 unfold tryS
 rw [hx]
 unfold tmRow at *
 generalize kw s.1 i=b at *
 generalize mks c.T s.1 x=m at *
 have lN:(nmL (i:Nat)).length=32:=rfl
 generalize nmL (i:Nat)=N at *
 have ht:(iv .u8 N).take 32=iv .u8 N:=tkL (by simp [lN])
 cases b with
 | true=>
  rw [if_neg (fun e=>by cases e.1)]
  refine ac_of_aw Tryd.func42 rfl Tryd.ntmps42 Tryd.results42 (by simp) ?_
  (refine aso fun K hK=>?_;simp (disch:=first|omega|simp only [lnS];try omega) [hi,-xload,ld0,ld3,ldk,-notTuple,hnt];refine hK _ _ ?_;clear hK K)
  refine awf (by simp<;>omega) ?_
  refine aw_skip ?_
  exact⟨[],_,rfl,rfl,hsame _ (Low.refl (nlE _))⟩
 | false=>
  refine ac_of_aw Tryd.func42 rfl Tryd.ntmps42 Tryd.results42 (by simp) ?_
  refine aso fun K hK=>?_
  simp (disch:=first|omega|simp only [lnS];try omega) [hi,-xload,ld0,ld3,ldk,a3,-xindexAddr,ia,a1,a2,-notTuple,hnt,hkn.1]
  refine⟨by kernel_rfl,ac_of_rc hmk (by simp [pv_iv,pv_int,pv_bool,pv_string,pv_tup2,pv_tup3,iv_plain,p2_int,p2_bool,p2_string]) ?_⟩
  cases m with
  | false=>
   rw [if_neg (fun e=>by cases e.2)]at *
   try simp (disch:=first|omega|simp only [lnS];try omega)
   refine hK _ _ ?_;clear hK K
   refine awf (by simp<;>omega) ?_
   refine aw_skip ?_
   exact⟨[],_,rfl,rfl,hsame _ (Low.refl (nlE _))⟩
  | true=>
   rw [if_pos ⟨rfl,rfl⟩]at *
   try simp (disch:=first|omega|simp only [lnS];try omega)
   refine hK _ _ ?_;clear hK K
   refine awt (by simp<;>omega) ?_
   refine aoo fun K hK=>?_
   simp (disch:=first|omega|simp only [lnS];try omega)
   refine⟨by kernel_rfl,ac_of_rc hnm (by simp [pv_iv]) ?_⟩
   try simp (disch:=first|omega|simp only [lnS];try omega) [lN,ht]
   refine⟨by kernel_rfl,AC.mono hlr ?_⟩
   intro v' G hq
   obtain rfl:=hq.1
   try simp (disch:=first|omega|simp only [lnS];try omega)
   refine hK _ _ ?_;clear hK K
   exact⟨[],_,rfl,rfl,hq⟩
end
section
theorem fold_take{α β:Type}{f:β→α→β}{l:List α}{i:Nat}{b:β}{d:α}(hi:i<l.length):(l.take (i+1)).foldl f b=f ((l.take i).foldl f b) (l.getD i d):=by
 rw [List.take_add_one,List.foldl_append,geE hi,gdD,geE hi]
 rfl
theorem opn_ac{γ:Nat→Option Nat}{nro:Nat}{H:AH}{c:SrC}{F:List Nat}{s:FSt}(h:SR γ nro H c F s){i:Nat}(hi:i<c.L.length) :
  AC Tryd.prog nro γ 61 #[.pointer (some ⟨c.sb,0,none⟩),.int .i64 (i:Nat)] H (SRQ γ nro H c F (opnS c.T s i)):=by
 obtain⟨tdv,hsb,hnd,hkb,hsl,hbl,hnt,hcs⟩:=h.blocks
 have hn:=h.n
 have hnH:=h.nH
 obtain⟨⟨kv,x⟩,hp⟩:∃p,c.L[i]?=some p:=⟨_,geE hi⟩
 have hmem:=moG hp
 have hkn:=h.st.tb.key_nt hmem
 have hw:x.Wf:=h.st.tb.wf _ hmem
 obtain⟨Fx,hox,hFx⟩:=h.st.tb.keys _ hmem
 have hxS:∀j∈Fx,j∉F∧j<H.length:=fun j hj=>h.ap j (h.st.tS j (by simp [hFx j hj]))
 have hKs:KsV H kv x.keys:=kr_ksv hox hw.k32
 have hacc:=hKs.acc hw.k32
 have hmk:=hw.many
 have h6k:=hw.seal_
 obtain⟨q,a1,a2,a3⟩:=h.st.tb.at_ hp
 have a3:xload Tryd.prog 92 q H=some (.agg (tmRow kv x).toArray):=by simpa using a3 []
 have hx:trm c.T i=x:=trm_of (by unfold SrC.T;rw [gmP,hp];rfl)
 have hcell:(bsC s.1)[i]?=some (.bool (kw s.1 i)):=bsC_get (kw_get (by omega))
 have lsb:=hget_lt hsb
 have lkb:=hget_lt hkb
 have p1:plain1 (.slice none 0 0)=true:=rfl
 have r3:List.range 3=[0,1,2]:=rfl
 have hsame:=fun (G:AH) (lw:Low H.length H G)=>h.same lw
 have ia:xindexAddr Tryd.prog 55 (.slice (some ⟨c.kb,0,none⟩) c.L.length c.L.length) (.int .i64 (i:Nat))=some (.pointer (some ⟨c.kb,i,none⟩)):=by
  have:(i:Int)<c.L.length:=by omega
  simp [xindexAddr,hi,this]
 have ld0:xload Tryd.prog 30 (.pointer (some ⟨c.sb,0,none⟩)) H=some c.tv:=by simp [xload,hsb]
 obtain⟨H1,hH1⟩:∃H1:AH,H1=H++[some ⟨[.int .i64 (x.kind:Nat),.string x.text,kv], 92,none⟩]:=⟨_,rfl⟩
 have kj:∀j,j<H.length→hget H1 j=hget H j:=fun j hj=>by rw [hH1];exact hget_left hj
 have g3:hget H1 H.length=some ⟨[.int .i64 (x.kind:Nat),.string x.text,kv], 92,none⟩:=by rw [hH1,hget_app0];rfl
 have l1:H1.length=H.length+1:=by rw [hH1];simp
 have lw1:Low H.length H H1:=⟨kj,by omega⟩
 have s1:=(kj _ lsb).trans hsb
 have b1:=kj _ lkb
 have kb1:=b1.trans hkb
 have lg3:=hget_lt g3
 have ld3:xload Tryd.prog 55 (.pointer (some ⟨c.sb,3,none⟩)) H1=some (.slice (some ⟨c.kb,0,none⟩) c.L.length c.L.length):=by simp [xload,s1]
 have ldb:xload Tryd.prog 4 (.pointer (some ⟨c.kb,i,none⟩)) H1=some (.bool (kw s.1 i)):=by
  have:i+1≤(bsC s.1).length:=by omega
  simp [xload,kb1,hcell,this]
 have ldt:xload Tryd.prog 3 (.pointer (some ⟨H.length,0,none⟩)) H1=some (.int .i64 (x.kind:Nat)):=by simp [xload,g3]
 have ldk:xload Tryd.prog 34 (.pointer (some ⟨H.length,2,none⟩)) H1=some kv:=by simp [xload,g3]
 unfold opnS k0
 rw [hx]
 unfold tmRow at *
 generalize hkw:kw s.1 i=b at *
 by_cases h6:x.kind=6
 case neg=>
  have b6:((x.kind:Int)==6)=false:=by rw [beq_eq_false_iff_ne];omega
  have i6:¬ (x.kind:Int)=6:=by omega
  rw [if_neg (fun e=>h6 e.1)]
  generalize x.kind=kd at *
  refine ac_of_aw Tryd.func61 rfl Tryd.ntmps61 Tryd.results61 (by simp) ?_
  (refine aso fun K hK=>?_;simp (disch:=first|omega|simp only [lnS];try omega) [hi,-xload,ld0,a3,-xindexAddr,a1,a2,p1,r3,-notTuple,hnt,hkn.1,hkn.2];refine hK _ _ ?_;clear hK K)
  rw [←hH1]
  refine aw_seq (aw_seq ?_)
  (refine aw_plan [] [] [0,1,2,3,4,5,6,7,8,9,10,11,12,13,14,15,16,17,18,19,20,21,22,23,24] 25 0 (by kernel_rfl) (by kernel_rfl) (by kernel_rfl) (fun K hK=>?_));simp only [sel,gcS,gdZ];simp (disch:=first|omega|simp only [lnS];try omega) [-xload,ldt,b6,i6,-notTuple,Nat.add_assoc]
  refine hK _ _ ?_;clear hK K
  refine awt (by simp<;>omega) ?_
  refine aw_ret ?_
  exact⟨[],_,rfl,rfl,hsame _ lw1⟩
 have h2:=h6k h6
 have b6:((x.kind:Int)==6)=true:=by rw [h6];rfl
 have i6:(x.kind:Int)=6:=by omega
 obtain⟨k32,kby⟩:(x.keys.getD 0 []).length=32∧By (x.keys.getD 0 []):=by
  rw [gdD,geE (by omega)]
  exact⟨hw.k32 _ (List.getElem_mem _),hw.by_ _ (List.getElem_mem _)⟩
 obtain⟨q0,y0,t1,t2,t3,t4,t5⟩:=hacc.at_ 0 (by omega)
 have t2:xindexAddr Tryd.prog 34 kv (.int .i64 0)=some q0:=t2
 have t5:=t5 H1 lw1
 subst t4
 have hfk:=fun (G:AH) (e:hget G c.kb=hget H c.kb)=>follows_rc (γ:=γ) (H:=G) (n:=c.L.length) (e.trans hkb) hsl hn k32 kby
 generalize x.keys.getD 0 []=k at *
 generalize fol s.1 k=fk at *
 cases b with
 | false=>
  rw [if_neg (fun e=>by cases e.2.1)]
  generalize x.kind=kd at *
  refine ac_of_aw Tryd.func61 rfl Tryd.ntmps61 Tryd.results61 (by simp) ?_
  (refine aso fun K hK=>?_;simp (disch:=first|omega|simp only [lnS];try omega) [hi,-xload,ld0,a3,-xindexAddr,a1,a2,p1,r3,-notTuple,hnt,hkn.1,hkn.2];refine hK _ _ ?_;clear hK K)
  rw [←hH1]
  refine aw_seq (aw_seq ?_)
  (refine aw_plan [] [] [0,1,2,3,4,5,6,7,8,9,10,11,12,13,14,15,16,17,18,19,20,21,22,23,24] 25 0 (by kernel_rfl) (by kernel_rfl) (by kernel_rfl) (fun K hK=>?_));simp only [sel,gcS,gdZ];simp (disch:=first|omega|simp only [lnS];try omega) [-xload,ldt,ld3,ldb,b6,i6,-xindexAddr,ia,-notTuple,Nat.add_assoc]
  refine hK _ _ ?_;clear hK K
  refine awt (by simp<;>omega) ?_
  refine aw_ret ?_
  exact⟨[],_,rfl,rfl,hsame _ lw1⟩
 | true=>
  cases fk with
  | false=>
   rw [if_neg (fun e=>by cases e.2.2)]
   generalize x.kind=kd at *
   refine ac_of_aw Tryd.func61 rfl Tryd.ntmps61 Tryd.results61 (by simp) ?_
   (refine aso fun K hK=>?_;simp (disch:=first|omega|simp only [lnS];try omega) [hi,-xload,ld0,a3,-xindexAddr,a1,a2,p1,r3,-notTuple,hnt,hkn.1,hkn.2];refine hK _ _ ?_;clear hK K)
   rw [←hH1]
   refine aw_seq (aw_seq ?_)
   (refine aw_plan [] [] [0,1,2,3,4,5,6,7,8,9,10,11,12,13,14,15,16,17,18,19,20,21,22,23,24] 25 0 (by kernel_rfl) (by kernel_rfl) (by kernel_rfl) (fun K hK=>?_));simp only [sel,gcS,gdZ];simp (disch:=first|omega|simp only [lnS];try omega) [-xload,ldt,ld3,ldb,ldk,t5,b6,i6,-xindexAddr,ia,t1,t2,-notTuple,hkn.1,Nat.add_assoc]
   refine PLc_call (v:=.bool false) (by kernel_rfl) (fun L hL=>hfk _ ?_) (by simp [pv_iv,pv_int,pv_bool,pv_string,pv_tup2,pv_tup3,iv_plain,p2_int,p2_bool,p2_string]) ?_
   ·rw [hget_left (by omega)]
    exact b1
   simp (disch:=first|omega|simp only [lnS];try omega) [Nat.add_assoc]
   refine hK _ _ ?_;clear hK K
   refine awt (by simp<;>omega) ?_
   refine aw_ret ?_
   exact⟨[],_,rfl,rfl,hsame _ lw1⟩
  | true=>
   rw [if_pos ⟨h6,rfl,rfl⟩]
   obtain⟨sv,v1,v2,v3,v4,v5,v6⟩:=suf_keys hox hw.k32 h2
   have hkey:∀j,j<x.keys.length-2→((x.keys.drop 2).getD j []).length=32∧By ((x.keys.drop 2).getD j []):=fun j hj=>by
    rw [gdD,List.getElem?_drop,geE (by omega)]
    exact⟨hw.k32 _ (List.getElem_mem _),hw.by_ _ (List.getElem_mem _)⟩
   have hdl:(x.keys.drop 2).length=x.keys.length-2:=List.length_drop
   have hsl2:=v1 H1
   have h0:SRQ γ nro H1 c F s (.tuple #[]) H1:=(h.lay lw1).same (Low.refl (nlE _))
   have hup:=fun (t:FSt) (G:AH) (q:SRQ γ nro H1 c F t (.tuple #[]) G)=>q.up lw1 h.bound
   generalize x.keys.drop 2=ks at *
   have hm9:x.keys.length-2≤1000000:=by omega
   generalize x.keys.length-2=m at *
   generalize x.kind=kd at *
   refine ac_of_aw Tryd.func61 rfl Tryd.ntmps61 Tryd.results61 (by simp) ?_
   (refine aso fun K hK=>?_;simp (disch:=first|omega|simp only [lnS];try omega) [hi,-xload,ld0,a3,-xindexAddr,a1,a2,p1,r3,-notTuple,hnt,hkn.1,hkn.2];refine hK _ _ ?_;clear hK K)
   rw [←hH1]
   refine aw_seq (aw_seq ?_)
   (refine aw_plan [] [] [0,1,2,3,4,5,6,7,8,9,10,11,12,13,14,15,16,17,18,19,20,21,22,23,24] 25 0 (by kernel_rfl) (by kernel_rfl) (by kernel_rfl) (fun K hK=>?_));simp only [sel,gcS,gdZ];simp (disch:=first|omega|simp only [lnS];try omega) [-xload,ldt,ld3,ldb,ldk,t5,b6,i6,-xindexAddr,ia,t1,t2,-notTuple,hkn.1,Nat.add_assoc]
   refine PLc_call (v:=.bool true) (by kernel_rfl) (fun L hL=>hfk _ ?_) (by simp [pv_iv,pv_int,pv_bool,pv_string,pv_tup2,pv_tup3,iv_plain,p2_int,p2_bool,p2_string]) ?_
   ·rw [hget_left (by omega)]
    exact b1
   simp (disch:=first|omega|simp only [lnS];try omega) [Nat.add_assoc]
   refine hK _ _ ?_;clear hK K
   refine awf (by simp<;>omega) ?_
   refine aw_skip (aw_seq ?_)
   (refine aoo fun K hK=>?_;simp (disch:=first|omega|simp only [lnS];try omega) [-xload,ldk,-xslice,hsl2,-xlen,v4,-notTuple,hkn.1,v2];refine hK _ _ ?_;clear hK K)
   refine aw_block ?_
   refine aw_loop (fun q α G=>∃i:Nat,i+q=m∧α 0=.pointer (some ⟨c.sb,0,none⟩)∧α 41=sv∧α 42=.int .i64 (m:Nat)∧α 43=.int .i64 (i:Nat)∧SRQ γ nro H1 c F ((ks.take i).foldl lrn s) (.tuple #[]) G) m ?_ ?_
   ·exact⟨0,by omega,by (first|simp;done|rfl),by (first|simp;done|rfl),by (first|simp;done|rfl),by (first|simp;done|rfl),h0⟩
   rintro q α G ⟨j,hjq,e0,e41,e42,e43,hq⟩
   refine aw_seq ?_
   by_cases hj:j<m
   case neg=>
    (refine aoo fun K hK=>?_;simp (disch:=first|omega|simp only [lnS];try omega) [e42,e43,hj];refine hK _ _ ?_;clear hK K)
    refine aw_seq ?_
    refine awf (by simp [hj]<;>omega) ?_
    refine aw_exit ?_
    obtain rfl:j=m:=by omega
    rw [←hdl,List.take_length]at hq
    exact⟨[],_,rfl,rfl,hup _ _ hq⟩
   obtain⟨_,hGl,hGk,F',hS,hF'⟩:=hq
   obtain⟨q1,w1,w2,w3⟩:=v6 j hj
   have w3:=w3 G (fun j hj=>(hGk j (by have:=(hxS j hj).2;omega) (hxS j hj).1).trans (kj j (hxS j hj).2))
   obtain⟨kk32,kkb⟩:=hkey j hj
   have hfd:=fold_take (f:=lrn) (b:=s) (d:=[]) (show j<ks.length by omega)
   generalize ks.getD j []=z at *
   have htz:(iv .u8 z).take 32=iv .u8 z:=tkL (by simp [kk32])
   have hsz:setR (iv .u8 (zl 32)) 0 (iv .u8 z)=iv .u8 z:=setR_all _ _ (by simp [kk32])
   have hng:nro≤G.length:=by omega
   (refine aoo fun K hK=>?_;simp (disch:=first|omega|simp only [lnS];try omega) [e42,e43,hj];refine hK _ _ ?_;clear hK K)
   refine aw_seq ?_
   refine awt (by simp [hj]<;>omega) ?_
   refine aw_skip (aw_seq ?_)
   refine aw_block ?_
   (refine aso fun K hK=>?_;simp (disch:=first|omega|simp only [lnS];try omega) [e41,e43,-xindexAddr,w1,w2,-xload,w3,-notTuple,v2,htz,hsz,kk32,hng];refine hK _ _ ?_;clear hK K)
   have hz:=learnS_ac (hS.push [some ⟨iv .u8 z, 41,none⟩]) kk32 kkb
   refine aoo fun K hK=>?_
   simp (disch:=first|omega|simp only [lnS];try omega) [e0,htz,kk32]
   refine⟨by kernel_rfl,AC.mono hz ?_⟩
   intro v' A q2
   obtain rfl:=q2.1
   try simp (disch:=first|omega|simp only [lnS];try omega)
   refine hK _ _ ?_;clear hK K
   (refine aoo fun K hK=>?_;simp (disch:=first|omega|simp only [lnS];try omega) [e43];refine hK _ _ ?_;clear hK K)
   refine⟨q-1,by omega,j+1,by omega,by (first|simp [e0];done|rfl),by (first|simp [e41];done|rfl),by (first|simp [e42];done|rfl),by (first|simp;done|rfl),?_⟩
   rw [hfd]
   exact (q2.up ⟨fun j hj=>hget_left hj,by simp⟩ hS.bound).then_ hGl hGk hF'
end
section
theorem users_len{k:List Int}{M:Nat}:∀ {T:List TermD} {n:Nat},(∀x∈T,x.keys.length≤M)→(usersF k n T).length≤T.length*M
 | [],n,_=>by simp [usersF]
 | x::T,n,h=>by
  have h1:=users_len (k:=k) (M:=M) (T:=T) (n:=n+1) (fun y hy=>h y (by simp [hy]))
  have h2:=h x (by simp)
  have h3:(x.keys.filter (·=k)).length≤x.keys.length:=List.length_filter_le _ _
  unfold usersF
  rw [laP,List.length_map,List.length_cons,Nat.succ_mul]
  omega
theorem SR.users_le{γ:Nat→Option Nat}{nro:Nat}{H:AH}{c:SrC}{F:List Nat}{s:FSt}(h:SR γ nro H c F s)(k:List Int):(usersF k 0 c.T).length≤1000000000000:=by
 have h1:=users_len (k:=k) (n:=0) (M:=1000000) (T:=c.T) (fun x hx=>by
  obtain⟨p,hp,rfl⟩:=List.mem_map.1 hx
  exact (h.st.tb.wf p hp).many)
 have h2:c.T.length=c.L.length:=by simp [SrC.T]
 have h3:=h.n
 have h4:c.T.length*1000000≤1000000*1000000:=Nat.mul_le_mul_right _ (by omega)
 omega
def okAll(okI:List Nat→Nat→Bool):List Nat→List Nat→Bool
 | _,[]=>true
 | D,i::r=>okI D i&&okAll okI (i::D) r
theorem tab_run{TB:List (List Nat×List Tmp×List (List Nat))}{C:List Nat→List Tmp→List Nat→Bool}{R:(List Nat×List Tmp×List (List Nat))→List Nat→Prop}(hok:(TB.all fun p=>p.2.2.all fun o=>C p.1 p.2.1 o)=true)(h:∀p∈TB,∀o∈p.2.2,C p.1 p.2.1 o=true→R p o):∀p∈TB,∀o∈p.2.2,R p o:=
 fun p hp o ho=>h p hp o ho (alT.1 (alT.1 hok p hp) o ho)
theorem ord_run{P:Program}{nro n:Nat}{γ:Nat→Option Nat}{ops:Array Oper}{K:Fm→AH→Prop}{l:List Oper}{okI:List Nat→Nat→Bool}{J:List Nat→Fm→AH→Prop}(hl:∀D i,okI D i=true→(l[i]?).isSome=true)
  (hs:∀ (i:Nat) (D:List Nat) (α:Fm) (G:AH) (rest:List Oper),J D α G→okI D i=true→(∀α' G',J (i::D) α' G'→XL P nro n γ ops K rest α' G')→XL P nro n γ ops K (sel l [i]++rest) α G)
  : ∀ (o D:List Nat) (α:Fm) (G:AH),okAll okI D o=true→J D α G→(∀ (E:List Nat) (α':Fm) (G':AH),J E α' G'→(∀k∈o,k∈E)→(∀k∈D,k∈E)→K α' G')→XL P nro n γ ops K (sel l o) α G
 | [],D,α,G,_,h,hK=>hK D α G h (by simp) (by simp)
 | i::r,D,α,G,hok,h,hK=>by
  simp only [okAll,Bool.and_eq_true]at hok
  have e:sel l (i::r)=sel l [i]++sel l r:=by
   have hsome:=hl D i hok.1
   cases hi:l[i]? with
   | none=>rw [hi]at hsome;cases hsome
   | some o=>simp [sel,hi]
  rw [e]
  refine hs i D α G _ h hok.1 fun α' G' h'=>ord_run hl hs r (i::D) α' G' hok.2 h' fun E α2 G2 h2 h3 h4=>hK E α2 G2 h2 (fun k hk=>?_) (fun k hk=>h4 k (by simp [hk]))
  rcases List.mem_cons.1 hk with rfl | hk
  ·exact h4 _ (by simp)
  ·exact h3 k hk
def okU(D:List Nat)(i:Nat):Bool:=match i with
 | 2=>true
 | 3=>D.contains 2
 | 4=>D.contains 3
 | 5=>D.contains 4
 | 6=>true
 | 7=>D.contains 5&&D.contains 6
 | 8=>D.contains 7
 | 11=>!(D.contains 11)
 | 12=>D.contains 8&&!(D.contains 12)
 | _=>false
def dU(u:List Nat):List Nat:=[0,1,2,3,4,5,6,7,8,9,10].filter fun k=>!(u.contains k)
structure JU (H:AH) (c:SrC) (i:Nat) (N:List Int) (q kv:Value) (x:TermD) (D:List Nat) (α:Fm) (G:AH):Prop where
 h0:α 0=.pointer (some ⟨c.sb,0,none⟩)
 h1:α 1=.int .i64 (i:Nat)
 h4:α 4=.pointer (some ⟨H.length,0,none⟩)
 h5:α 5=.pointer (some ⟨H.length+1,0,none⟩)
 h11:α 11=.agg (iv .u8 N).toArray
 h12:2∈D→α 12=.pointer (some ⟨c.sb,0,none⟩)
 h13:3∈D→α 13=.pointer (some ⟨c.sb,0,none⟩)
 h14:4∈D→α 14=.pointer (some ⟨c.sb,0,none⟩)
 h15:5∈D→α 15=c.tv
 h16:6∈D→α 16=.int .i64 (i:Nat)
 h17:7∈D→α 17=q
 h18:8∈D→α 18=.agg #[.int .i64 (x.kind:Nat),.string x.text,kv]
 hG:∃A B:Option Blk,G=H++[A,B]∧(A=some ⟨iv .u8 (if 11∈D then N else zl 32), 41,none⟩)∧(B=some ⟨if 12∈D then [.int .i64 (x.kind:Nat),.string x.text,kv] else [.int .i64 0,.string ByteArray.empty,.slice none 0 0], 92,none⟩)
theorem PL_hide{P:Program}{nro n:Nat}{γ:Nat→Option Nat}{nd:List Tmp}{ops:Array Oper}{H:AH}{rest:List Oper}{α:Fm}{N:List Blk}{K0:Fm→List Blk→Prop}(h:∀KK:Fm→List Blk→Prop,(∀α' N,K0 α' N→KK α' N)→PL P nro n γ nd ops KK H rest α N):PL P nro n γ nd ops K0 H rest α N:=h K0 (fun _ _ h=>h)
theorem Tdo.at_{H:AH}{v:Value}{td Fd:List Nat}(h:Tdo H v td Fd){i:Nat}(hi:i<td.length):∃q,xindexAddr Tryd.prog 39 v (.int .i64 (i:Nat))=some q∧notTuple q=true∧∀G:AH,(∀j∈Fd,hget G j=hget H j)→xload Tryd.prog 3 q G=some (.int .i64 ((td.getD i 0:Nat):Int)):=by
 have hu:und Tryd.prog 39 = .slice 3 := by kernel_rfl
 have hs:szt Tryd.prog 3 = 1:=by kernel_rfl
 rcases h with ⟨_,rfl,_⟩ | ⟨j,cs,rfl,rfl,h3,h4⟩
 ·simp at hi
 ·refine⟨.pointer (some ⟨j,i,none⟩),?_,rfl,fun G hG=>?_⟩
  ·unfold xindexAddr
   simp only [hu,hs]
   rw [if_pos ⟨by omega,by omega,by omega⟩]
   simp
  ·have hg:=(hG j (by simp)).trans h3
   have hc:cs[i]?=some (.int .i64 ((td.getD i 0:Nat):Int)):=by
    obtain⟨r,rfl⟩:=h4
    rw [gaL (by rw [tdC_len];exact hi)]
    unfold tdC
    rw [gmP,gdD,geE hi]
    rfl
   have hl:=(gsI.1 hc).1
   have hl:i+1≤cs.length:=hl
   simp [xload,hg,hc,hl]
theorem use_ac{γ:Nat→Option Nat}{nro:Nat}{H:AH}{c:SrC}{F:List Nat}{s:FSt}(h:SR γ nro H c F s){i:Nat}(hi:i<c.L.length) :
  AC Tryd.prog nro γ 43 #[.pointer (some ⟨c.sb,0,none⟩),.int .i64 (i:Nat)] H (SRQ γ nro H c F (useS c.T s i)):=by
 obtain⟨tdv,hsb,hnd,hkb,hsl,hbl,hnt,hcs⟩:=h.blocks
 have hn:=h.n
 have hnH:=h.nH
 obtain⟨⟨kv,x⟩,hp⟩:∃p,c.L[i]?=some p:=⟨_,geE hi⟩
 have hmem:=moG hp
 have hkn:=h.st.tb.key_nt hmem
 have hw:x.Wf:=h.st.tb.wf _ hmem
 obtain⟨Fx,hox,hFx⟩:=h.st.tb.keys _ hmem
 have hxS:∀j∈Fx,j∉F∧j<H.length:=fun j hj=>h.ap j (h.st.tS j (by simp [hFx j hj]))
 have hmk:=hw.many
 obtain⟨q,a1,a2,a3⟩:=h.st.tb.at_ hp
 have a3N:∀N:AH,xload Tryd.prog 92 q (H++N)=some (.agg (tmRow kv x).toArray):=fun N=>a3 N
 have a3:xload Tryd.prog 92 q H=some (.agg (tmRow kv x).toArray):=by simpa using a3N []
 have hx:trm c.T i=x:=trm_of (by unfold SrC.T;rw [gmP,hp];rfl)
 have lsb:=hget_lt hsb
 have lkb:=hget_lt hkb
 have p1:plain1 (.slice none 0 0)=true:=rfl
 have r3:List.range 3=[0,1,2]:=rfl
 have ld0:xload Tryd.prog 30 (.pointer (some ⟨c.sb,0,none⟩)) H=some c.tv:=by simp [xload,hsb]
 have ld0N:∀N:AH,xload Tryd.prog 30 (.pointer (some ⟨c.sb,0,none⟩)) (H++N)=some c.tv:=fun N=>by
  have:=(hget_left (L:=N) lsb).trans hsb
  simp [xload,this]
 have hnm:=fun (G:AH)=>name_rc (γ:=γ) (H:=G) (n:=(i:Nat)) ⟨by omega,by omega⟩
 have lN:(nmL (i:Nat)).length=32:=rfl
 have bN:=nmL_by (i:Nat)
 have tN:(iv .u8 (nmL (i:Nat))).take 32=iv .u8 (nmL (i:Nat)):=tkL (by simp [lN])
 have sN:setR (iv .u8 (zl 32)) 0 (iv .u8 (nmL (i:Nat)))=iv .u8 (nmL (i:Nat)):=setR_all _ _ (by simp [lN])
 unfold useS k0
 rw [hx]
 dsimp only
 unfold tmRow at *
 generalize nmL (i:Nat)=N at *
 obtain⟨H1,hH1⟩:∃H1:AH,H1=H++[some ⟨iv .u8 N, 41,none⟩,some ⟨[.int .i64 (x.kind:Nat),.string x.text,kv], 92,none⟩]:=⟨_,rfl⟩
 refine ac_of_aw Tryd.func43 rfl Tryd.ntmps43 Tryd.results43 (by simp) ?_
 refine aw_seq ?_
 refine aw_cut (fun α G=>G=H1∧α 0=.pointer (some ⟨c.sb,0,none⟩)∧α 1=.int .i64 (i:Nat)∧α 4=.pointer (some ⟨H.length,0,none⟩)∧α 5=.pointer (some ⟨H.length+1,0,none⟩)) ?_ ?_
 ·(refine aw_planL [] [0,1,2,3,4,5,6,7,8,9,10] [2,3,4,5,6,7,8] 2 [([],[],[[11,12]]),([8],[18],[[8,11,12],[11,8,12]]),([7,8],[17,18],[[7,8,11,12],[7,11,8,12],[11,7,8,12]]),([5,7,8],[15,17,18],[[5,7,8,11,12],[5,7,11,8,12],[5,11,7,8,12],[11,5,7,8,12]]),([6,7,8],[16,17,18],[[6,7,8,11,12],[6,7,11,8,12],[6,11,7,8,12],[11,6,7,8,12]]),([4,5,7,8],[14,15,17,18],[[4,5,7,8,11,12],[4,5,7,11,8,12],[4,5,11,7,8,12],[4,11,5,7,8,12],[11,4,5,7,8,12]]),([5,6,7,8],[15,16,17,18],[[5,6,7,8,11,12],[5,6,7,11,8,12],[5,6,11,7,8,12],[5,11,6,7,8,12],[6,5,7,8,11,12],[6,5,7,11,8,12],[6,5,11,7,8,12],[6,11,5,7,8,12],[11,5,6,7,8,12],[11,6,5,7,8,12]]),([3,4,5,7,8],[13,14,15,17,18],[[3,4,5,7,8,11,12],[3,4,5,7,11,8,12],[3,4,5,11,7,8,12],[3,4,11,5,7,8,12],[3,11,4,5,7,8,12],[11,3,4,5,7,8,12]]),([4,5,6,7,8],[14,15,16,17,18],[[4,5,6,7,8,11,12],[4,5,6,7,11,8,12],[4,5,6,11,7,8,12],[4,5,11,6,7,8,12],[4,6,5,7,8,11,12],[4,6,5,7,11,8,12],[4,6,5,11,7,8,12],[4,6,11,5,7,8,12],[4,11,5,6,7,8,12],[4,11,6,5,7,8,12],[6,4,5,7,8,11,12],[6,4,5,7,11,8,12],[6,4,5,11,7,8,12],[6,4,11,5,7,8,12],[6,11,4,5,7,8,12],[11,4,5,6,7,8,12],[11,4,6,5,7,8,12],[11,6,4,5,7,8,12]]),([2,3,4,5,7,8],[12,13,14,15,17,18],[[2,3,4,5,7,8,11,12],[2,3,4,5,7,11,8,12],[2,3,4,5,11,7,8,12],[2,3,4,11,5,7,8,12],[2,3,11,4,5,7,8,12],[2,11,3,4,5,7,8,12],[11,2,3,4,5,7,8,12]]),([3,4,5,6,7,8],[13,14,15,16,17,18],[[3,4,5,6,7,8,11,12],[3,4,5,6,7,11,8,12],[3,4,5,6,11,7,8,12],[3,4,5,11,6,7,8,12],[3,4,6,5,7,8,11,12],[3,4,6,5,7,11,8,12],[3,4,6,5,11,7,8,12],[3,4,6,11,5,7,8,12],[3,4,11,5,6,7,8,12],[3,4,11,6,5,7,8,12],[3,6,4,5,7,8,11,12],[3,6,4,5,7,11,8,12],[3,6,4,5,11,7,8,12],[3,6,4,11,5,7,8,12],[3,6,11,4,5,7,8,12],[3,11,4,5,6,7,8,12],[3,11,4,6,5,7,8,12],[3,11,6,4,5,7,8,12],[6,3,4,5,7,8,11,12],[6,3,4,5,7,11,8,12],[6,3,4,5,11,7,8,12],[6,3,4,11,5,7,8,12],[6,3,11,4,5,7,8,12],[6,11,3,4,5,7,8,12],[11,3,4,5,6,7,8,12],[11,3,4,6,5,7,8,12],[11,3,6,4,5,7,8,12],[11,6,3,4,5,7,8,12]]),([2,3,4,5,6,7,8],[12,13,14,15,16,17,18],[[2,3,4,5,6,7,8,11,12],[2,3,4,5,6,7,11,8,12],[2,3,4,5,6,11,7,8,12],[2,3,4,5,11,6,7,8,12],[2,3,4,6,5,7,8,11,12],[2,3,4,6,5,7,11,8,12],[2,3,4,6,5,11,7,8,12],[2,3,4,6,11,5,7,8,12],[2,3,4,11,5,6,7,8,12],[2,3,4,11,6,5,7,8,12],[2,3,6,4,5,7,8,11,12],[2,3,6,4,5,7,11,8,12],[2,3,6,4,5,11,7,8,12],[2,3,6,4,11,5,7,8,12],[2,3,6,11,4,5,7,8,12],[2,3,11,4,5,6,7,8,12],[2,3,11,4,6,5,7,8,12],[2,3,11,6,4,5,7,8,12],[2,6,3,4,5,7,8,11,12],[2,6,3,4,5,7,11,8,12],[2,6,3,4,5,11,7,8,12],[2,6,3,4,11,5,7,8,12],[2,6,3,11,4,5,7,8,12],[2,6,11,3,4,5,7,8,12],[2,11,3,4,5,6,7,8,12],[2,11,3,4,6,5,7,8,12],[2,11,3,6,4,5,7,8,12],[2,11,6,3,4,5,7,8,12],[6,2,3,4,5,7,8,11,12],[6,2,3,4,5,7,11,8,12],[6,2,3,4,5,11,7,8,12],[6,2,3,4,11,5,7,8,12],[6,2,3,11,4,5,7,8,12],[6,2,11,3,4,5,7,8,12],[6,11,2,3,4,5,7,8,12],[11,2,3,4,5,6,7,8,12],[11,2,3,4,6,5,7,8,12],[11,2,3,6,4,5,7,8,12],[11,2,6,3,4,5,7,8,12],[11,6,2,3,4,5,7,8,12]])] (by kernel_rfl) (by kernel_rfl) (by kernel_rfl) (fun K hK=>?_));refine PL_hide (fun KK hKK=>?_);simp only [sel,gcS];simp (maxSteps:=20000000) (disch:=first|omega|simp only [lnS];try omega) [hi,-xload,ld0,a3,-xindexAddr,a1,a2,p1,r3,-notTuple,hnt,hkn.1,hkn.2,Nat.add_assoc]
  refine PLc_call (v:=.agg (iv .u8 N).toArray) (by kernel_rfl) (fun L hL=>hnm _) (by simp [pv_iv]) ?_
  simp (maxSteps:=20000000) (disch:=first|omega|simp only [lnS];try omega) [hi,-xload,ld0,a3,-xindexAddr,a1,a2,p1,r3,-notTuple,hnt,hkn.1,hkn.2,lN,tN,sN,hnH,Nat.add_assoc]
  refine hKK _ _ ?_;clear hKK KK
  refine tab_run (C:=fun u ts o=>decide (ts=u.map (·+10))&&!(u.contains 1)&&okAll okU (dU u) o&&o.contains 11&&o.contains 12) (by decide) ?_
  rintro⟨u,ts,os⟩ hp o ho hC
  simp only [Bool.and_eq_true,decide_eq_true_eq,Bool.not_eq_true',List.contains_iff_mem]at hC
  obtain⟨⟨⟨⟨rfl,hu1⟩,hoa⟩,ho11⟩,ho12⟩:=hC
  refine ord_run (okI:=okU) (J:=JU H c i N q kv x) ?_ ?_ o (dU u) _ _ hoa ?_ ?_
  ·intro D k hk
   unfold okU at hk
   split at hk <;> first | rfl | cases hk
  ·intro k D α G rest hJ hk hcont
   obtain⟨j0,j1,j4,j5,j11,j12,j13,j14,j15,j16,j17,j18,A,B,rfl,hA,hB⟩:=hJ
   unfold okU at hk
   split at hk
   ·simp only [sel,gcS]
    simp (maxSteps:=20000000) (disch:=first|omega|simp only [lnS];try omega) [-xload,a3N,ld0N,-xindexAddr,a1,a2,p1,r3,-notTuple,hnt,hkn.1,hkn.2,lN,tN,sN,hnH,j0]
    exact hcont _ _ ⟨by (first|simp [j0];done|rfl),by (first|simp [j1];done|rfl),by (first|simp [j4];done|rfl),by (first|simp [j5];done|rfl),by (first|simp [j11];done|rfl),fun _=>by (first|simp;done|rfl),fun h=>by (first|simp [j13 (by simpa using h)];done|rfl),fun h=>by (first|simp [j14 (by simpa using h)];done|rfl),fun h=>by (first|simp [j15 (by simpa using h)];done|rfl),fun h=>by (first|simp [j16 (by simpa using h)];done|rfl),fun h=>by (first|simp [j17 (by simpa using h)];done|rfl),fun h=>by (first|simp [j18 (by simpa using h)];done|rfl),⟨A,B,rfl,by simpa using hA,by simpa using hB⟩⟩
   ·simp only [sel,gcS]
    simp (maxSteps:=20000000) (disch:=first|omega|simp only [lnS];try omega) [-xload,a3N,ld0N,-xindexAddr,a1,a2,p1,r3,-notTuple,hnt,hkn.1,hkn.2,lN,tN,sN,hnH,j12 (by simpa using hk)]
    exact hcont _ _ ⟨by (first|simp [j0];done|rfl),by (first|simp [j1];done|rfl),by (first|simp [j4];done|rfl),by (first|simp [j5];done|rfl),by (first|simp [j11];done|rfl),fun h=>by (first|simp [j12 (by simpa using h)];done|rfl),fun _=>by (first|simp;done|rfl),fun h=>by (first|simp [j14 (by simpa using h)];done|rfl),fun h=>by (first|simp [j15 (by simpa using h)];done|rfl),fun h=>by (first|simp [j16 (by simpa using h)];done|rfl),fun h=>by (first|simp [j17 (by simpa using h)];done|rfl),fun h=>by (first|simp [j18 (by simpa using h)];done|rfl),⟨A,B,rfl,by simpa using hA,by simpa using hB⟩⟩
   ·simp only [sel,gcS]
    simp (maxSteps:=20000000) (disch:=first|omega|simp only [lnS];try omega) [-xload,a3N,ld0N,-xindexAddr,a1,a2,p1,r3,-notTuple,hnt,hkn.1,hkn.2,lN,tN,sN,hnH,j13 (by simpa using hk)]
    exact hcont _ _ ⟨by (first|simp [j0];done|rfl),by (first|simp [j1];done|rfl),by (first|simp [j4];done|rfl),by (first|simp [j5];done|rfl),by (first|simp [j11];done|rfl),fun h=>by (first|simp [j12 (by simpa using h)];done|rfl),fun h=>by (first|simp [j13 (by simpa using h)];done|rfl),fun _=>by (first|simp;done|rfl),fun h=>by (first|simp [j15 (by simpa using h)];done|rfl),fun h=>by (first|simp [j16 (by simpa using h)];done|rfl),fun h=>by (first|simp [j17 (by simpa using h)];done|rfl),fun h=>by (first|simp [j18 (by simpa using h)];done|rfl),⟨A,B,rfl,by simpa using hA,by simpa using hB⟩⟩
   ·simp only [sel,gcS]
    simp (maxSteps:=20000000) (disch:=first|omega|simp only [lnS];try omega) [-xload,a3N,ld0N,-xindexAddr,a1,a2,p1,r3,-notTuple,hnt,hkn.1,hkn.2,lN,tN,sN,hnH,j14 (by simpa using hk)]
    exact hcont _ _ ⟨by (first|simp [j0];done|rfl),by (first|simp [j1];done|rfl),by (first|simp [j4];done|rfl),by (first|simp [j5];done|rfl),by (first|simp [j11];done|rfl),fun h=>by (first|simp [j12 (by simpa using h)];done|rfl),fun h=>by (first|simp [j13 (by simpa using h)];done|rfl),fun h=>by (first|simp [j14 (by simpa using h)];done|rfl),fun _=>by (first|simp;done|rfl),fun h=>by (first|simp [j16 (by simpa using h)];done|rfl),fun h=>by (first|simp [j17 (by simpa using h)];done|rfl),fun h=>by (first|simp [j18 (by simpa using h)];done|rfl),⟨A,B,rfl,by simpa using hA,by simpa using hB⟩⟩
   ·simp only [sel,gcS]
    simp (maxSteps:=20000000) (disch:=first|omega|simp only [lnS];try omega) [-xload,a3N,ld0N,-xindexAddr,a1,a2,p1,r3,-notTuple,hnt,hkn.1,hkn.2,lN,tN,sN,hnH,j1]
    exact hcont _ _ ⟨by (first|simp [j0];done|rfl),by (first|simp [j1];done|rfl),by (first|simp [j4];done|rfl),by (first|simp [j5];done|rfl),by (first|simp [j11];done|rfl),fun h=>by (first|simp [j12 (by simpa using h)];done|rfl),fun h=>by (first|simp [j13 (by simpa using h)];done|rfl),fun h=>by (first|simp [j14 (by simpa using h)];done|rfl),fun h=>by (first|simp [j15 (by simpa using h)];done|rfl),fun _=>by (first|simp;done|rfl),fun h=>by (first|simp [j17 (by simpa using h)];done|rfl),fun h=>by (first|simp [j18 (by simpa using h)];done|rfl),⟨A,B,rfl,by simpa using hA,by simpa using hB⟩⟩
   ·simp only [Bool.and_eq_true,List.contains_iff_mem]at hk
    simp only [sel,gcS]
    simp (maxSteps:=20000000) (disch:=first|omega|simp only [lnS];try omega) [-xload,a3N,ld0N,-xindexAddr,a1,a2,p1,r3,-notTuple,hnt,hkn.1,hkn.2,lN,tN,sN,hnH,j15 hk.1,j16 hk.2]
    exact hcont _ _ ⟨by (first|simp [j0];done|rfl),by (first|simp [j1];done|rfl),by (first|simp [j4];done|rfl),by (first|simp [j5];done|rfl),by (first|simp [j11];done|rfl),fun h=>by (first|simp [j12 (by simpa using h)];done|rfl),fun h=>by (first|simp [j13 (by simpa using h)];done|rfl),fun h=>by (first|simp [j14 (by simpa using h)];done|rfl),fun h=>by (first|simp [j15 (by simpa using h)];done|rfl),fun h=>by (first|simp [j16 (by simpa using h)];done|rfl),fun _=>by (first|simp;done|rfl),fun h=>by (first|simp [j18 (by simpa using h)];done|rfl),⟨A,B,rfl,by simpa using hA,by simpa using hB⟩⟩
   ·simp only [sel,gcS]
    simp (maxSteps:=20000000) (disch:=first|omega|simp only [lnS];try omega) [-xload,a3N,ld0N,-xindexAddr,a1,a2,p1,r3,-notTuple,hnt,hkn.1,hkn.2,lN,tN,sN,hnH,j17 (by simpa using hk)]
    exact hcont _ _ ⟨by (first|simp [j0];done|rfl),by (first|simp [j1];done|rfl),by (first|simp [j4];done|rfl),by (first|simp [j5];done|rfl),by (first|simp [j11];done|rfl),fun h=>by (first|simp [j12 (by simpa using h)];done|rfl),fun h=>by (first|simp [j13 (by simpa using h)];done|rfl),fun h=>by (first|simp [j14 (by simpa using h)];done|rfl),fun h=>by (first|simp [j15 (by simpa using h)];done|rfl),fun h=>by (first|simp [j16 (by simpa using h)];done|rfl),fun h=>by (first|simp [j17 (by simpa using h)];done|rfl),fun _=>by (first|simp;done|rfl),⟨A,B,rfl,by simpa using hA,by simpa using hB⟩⟩
   ·have hk:11∉D:=by simpa using hk
    rw [if_neg hk]at hA
    simp only [sel,gcS]
    simp (maxSteps:=20000000) (disch:=first|omega|simp only [lnS];try omega) [-xload,a3N,ld0N,-xindexAddr,a1,a2,p1,r3,-notTuple,hnt,hkn.1,hkn.2,lN,tN,sN,hnH,j4,j11,hA]
    exact hcont _ _ ⟨by (first|simp [j0];done|rfl),by (first|simp [j1];done|rfl),by (first|simp [j4];done|rfl),by (first|simp [j5];done|rfl),by (first|simp [j11];done|rfl),fun h=>by (first|simp [j12 (by simpa using h)];done|rfl),fun h=>by (first|simp [j13 (by simpa using h)];done|rfl),fun h=>by (first|simp [j14 (by simpa using h)];done|rfl),fun h=>by (first|simp [j15 (by simpa using h)];done|rfl),fun h=>by (first|simp [j16 (by simpa using h)];done|rfl),fun h=>by (first|simp [j17 (by simpa using h)];done|rfl),fun h=>by (first|simp [j18 (by simpa using h)];done|rfl),⟨_,B,rfl,by simp,by simpa using hB⟩⟩
   ·have hk:8∈D∧12∉D:=by simpa using hk
    rw [if_neg hk.2]at hB
    simp only [sel,gcS]
    simp (maxSteps:=20000000) (disch:=first|omega|simp only [lnS];try omega) [-xload,a3N,ld0N,-xindexAddr,a1,a2,p1,r3,-notTuple,hnt,hkn.1,hkn.2,lN,tN,sN,hnH,j5,j18 hk.1,hB]
    exact hcont _ _ ⟨by (first|simp [j0];done|rfl),by (first|simp [j1];done|rfl),by (first|simp [j4];done|rfl),by (first|simp [j5];done|rfl),by (first|simp [j11];done|rfl),fun h=>by (first|simp [j12 (by simpa using h)];done|rfl),fun h=>by (first|simp [j13 (by simpa using h)];done|rfl),fun h=>by (first|simp [j14 (by simpa using h)];done|rfl),fun h=>by (first|simp [j15 (by simpa using h)];done|rfl),fun h=>by (first|simp [j16 (by simpa using h)];done|rfl),fun h=>by (first|simp [j17 (by simpa using h)];done|rfl),fun h=>by (first|simp [j18 (by simpa using h)];done|rfl),⟨A,_,rfl,by simpa using hA,by simp⟩⟩
   ·cases hk
  ·have hn0:∀t:Nat,t<10→(u.map (·+10)).contains t=false:=fun t ht=>by
    rw [List.contains_eq_any_beq,List.any_eq_false]
    intro y hy
    obtain⟨z,_,rfl⟩:=List.mem_map.1 hy
    simp
    omega
   have hnt:∀k:Nat,u.contains k=false→(u.map (·+10)).contains (k+10)=false:=fun k hk=>by
    rw [List.contains_eq_any_beq,List.any_eq_false]at hk ⊢
    intro y hy
    obtain⟨z,hz,rfl⟩:=List.mem_map.1 hy
    have:=hk z hz
    simp at this ⊢
    omega
   have hd:∀k:Nat,k∈dU u→u.contains k=false:=fun k hk=>by
    unfold dU at hk
    simpa using (List.mem_filter.1 hk).2
   have m0:∀ (t:Nat) (a b:Fm),(u.map (·+10)).contains t=false→mixF (u.map (·+10)) a b t=b t:=fun t a b h=>by
    rw [mixF_at,h];rfl
   have e11:11∉dU u:=by unfold dU;simp
   have e12:12∉dU u:=by unfold dU;simp
   refine⟨?_,?_,?_,?_,?_,fun h=>?_,fun h=>?_,fun h=>?_,fun h=>?_,fun h=>?_,fun h=>?_,fun h=>?_,⟨_,_,rfl,?_,?_⟩⟩
   ·rw [m0 _ _ _ (hn0 0 (by omega))];(first|simp;done|rfl)
   ·rw [m0 _ _ _ (hn0 1 (by omega))];(first|simp;done|rfl)
   ·rw [m0 _ _ _ (hn0 4 (by omega))];(first|simp;done|rfl)
   ·rw [m0 _ _ _ (hn0 5 (by omega))];(first|simp;done|rfl)
   ·rw [m0 _ _ _ (hnt 1 hu1)];(first|simp;done|rfl)
   ·rw [m0 _ _ _ (hnt 2 (hd 2 h))];(first|simp;done|rfl)
   ·rw [m0 _ _ _ (hnt 3 (hd 3 h))];(first|simp;done|rfl)
   ·rw [m0 _ _ _ (hnt 4 (hd 4 h))];(first|simp;done|rfl)
   ·rw [m0 _ _ _ (hnt 5 (hd 5 h))];(first|simp;done|rfl)
   ·rw [m0 _ _ _ (hnt 6 (hd 6 h))];(first|simp;done|rfl)
   ·rw [m0 _ _ _ (hnt 7 (hd 7 h))];(first|simp;done|rfl)
   ·rw [m0 _ _ _ (hnt 8 (hd 8 h))];(first|simp;done|rfl)
   ·rw [if_neg e11]
   ·rw [if_neg e12]
  ·rintro E α' G' ⟨j0,j1,j4,j5,j11,j12,j13,j14,j15,j16,j17,j18,A,B,rfl,hA,hB⟩ ho hE
   rw [if_pos (ho 11 ho11)]at hA
   rw [if_pos (ho 12 ho12)]at hB
   refine hK _ _ ⟨?_,j0,j1,j4,j5⟩
   rw [hH1,hA,hB]
 clear ld0 ld0N a1 a2 a3 a3N
 rintro α G ⟨rfl,h0,h1,h4,h5⟩
 have kj:∀j,j<H.length→hget G j=hget H j:=fun j hj=>by rw [hH1];exact hget_left hj
 have g4:hget G H.length=some ⟨iv .u8 N, 41,none⟩:=by rw [hH1,hget_app0];rfl
 have g5:hget G (H.length+1)=some ⟨[.int .i64 (x.kind:Nat),.string x.text,kv], 92,none⟩:=by rw [hH1,hget_app];rfl
 have l1:G.length=H.length+2:=by rw [hH1];simp
 have lw1:Low H.length H G:=⟨kj,by omega⟩
 clear hH1
 have hR1:SR γ nro G c F s:=h.lay lw1
 have hup:=fun (t:FSt) (A:AH) (q:SRQ γ nro G c F t (.tuple #[]) A)=>q.up lw1 h.bound
 refine aso fun K hK=>?_
 simp (maxSteps:=20000000) (disch:=first|omega|simp only [lnS];try omega) [h0,h1]
 refine⟨by kernel_rfl,AC.mono (opn_ac hR1 hi) ?_⟩
 intro v' A hq
 obtain rfl:=hq.1
 try simp (maxSteps:=20000000) (disch:=first|omega|simp only [lnS];try omega) []
 refine hK _ _ ?_;clear hK K
 generalize opnS c.T s i=s1 at *
 obtain⟨_,hAl,hAk,F1,hS,hF1⟩:=hq
 have a4:hget A H.length=some ⟨iv .u8 N, 41,none⟩:=(hAk _ (by omega) (fun e=>by have:=h.bound _ e;omega)).trans g4
 have a5:hget A (H.length+1)=some ⟨[.int .i64 (x.kind:Nat),.string x.text,kv], 92,none⟩:=(hAk _ (by omega) (fun e=>by have:=h.bound _ e;omega)).trans g5
 obtain⟨tdv2,asb,and2,_,_,_,_,_⟩:=hS.blocks
 have hlk:=us_look hS.st.hu hS.st.hU lN
 obtain⟨Fu,hTu,hFu⟩:=hS.st.us N lN
 have hul:=fun u (hu:u∈usersF N 0 c.T)=>(show u<c.L.length by have:=users_lt hu;simpa [SrC.T] using this)
 have hTn:=hTu.nt
 have hq0:SRQ γ nro A c F1 s1 (.tuple #[]) A:=hS.same (Low.refl (nlE _))
 have hm9:=hS.users_le N
 generalize ul N c.U=uv at *
 generalize usersF N 0 c.T=us at *
 refine aw_seq (aw_seq ?_)
 (refine aw_plan [] [] [0,1,2,3,4,5,6,7] 8 0 (by kernel_rfl) (by kernel_rfl) (by kernel_rfl) (fun K hK=>?_));simp only [sel,gcS,gdZ];simp (maxSteps:=20000000) (disch:=first|omega|simp only [lnS];try omega) [h0,h4,asb,a4,lN,tN,hlk,-notTuple,nt_mapG,hnt,and2,hTn.1,-xlen,hTn.2.2.2,Nat.add_assoc]
 refine hK _ _ ?_;clear hK K
 refine aw_block ?_
 refine aw_loop (fun q α B=>∃j:Nat,j+q=us.length∧α 0=.pointer (some ⟨c.sb,0,none⟩)∧α 5=.pointer (some ⟨H.length+1,0,none⟩)∧α 27=uv∧α 28=.int .i64 (us.length:Nat)∧α 29=.int .i64 (j:Nat)∧SRQ γ nro A c F1 ((us.take j).foldl (fun s u=>opnS c.T (tryS c.T s u) u) s1) (.tuple #[]) B) us.length ?_ ?_
 ·exact⟨0,by omega,by (first|simp [h0];done|rfl),by (first|simp [h5];done|rfl),by (first|simp;done|rfl),by (first|simp;done|rfl),by (first|simp;done|rfl),hq0⟩
 clear h0 h1 h4 h5
 rintro q α B ⟨j,hjq,h0,h5,h27,h28,h29,hq⟩
 refine aw_seq ?_
 by_cases hj:j<us.length
 case neg=>
  (refine aoo fun K hK=>?_;simp (maxSteps:=20000000) (disch:=first|omega|simp only [lnS];try omega) [h28,h29,hj];refine hK _ _ ?_;clear hK K)
  refine aw_seq ?_
  refine awf (by simp [hj]<;>omega) ?_
  refine aw_exit ?_
  obtain rfl:j=us.length:=by omega
  rw [List.take_length]at hq
  generalize us.foldl (fun s u=>opnS c.T (tryS c.T s u) u) s1=s2 at *
  obtain⟨_,hBl,hBk,F2,hS2,hF2⟩:=hq
  have b5:hget B (H.length+1)=some ⟨[.int .i64 (x.kind:Nat),.string x.text,kv], 92,none⟩:=(hBk _ (by omega) (fun e=>by rcases hF1 _ e with e | e;have:=h.bound _ e;omega;omega)).trans a5
  have lb5:=hget_lt b5
  have hq2:SRQ γ nro G c F s2 (.tuple #[]) B:=SRQ.then_ hAl hAk hF1 ⟨rfl,hBl,hBk,F2,hS2,hF2⟩
  refine aw_seq ?_
  by_cases h3:x.kind=3
  case neg=>
   have b3:((x.kind:Int)==3)=false:=by rw [beq_eq_false_iff_ne];omega
   have i3:¬ (x.kind:Int)=3:=by omega
   rw [if_neg h3]
   (refine aoo fun K hK=>?_;simp (maxSteps:=20000000) (disch:=first|omega|simp only [lnS];try omega) [h5,b5,lb5,b3,i3];refine hK _ _ ?_;clear hK K)
   refine awf (by simp<;>omega) ?_
   refine aw_skip ?_
   exact⟨[],_,rfl,rfl,hup _ _ hq2⟩
  have b3:((x.kind:Int)==3)=true:=by rw [h3];rfl
  have i3:(x.kind:Int)=3:=by omega
  rw [if_pos h3]
  have hk1:=hw.pub h3
  obtain⟨z32,zby⟩:(x.keys.getD 0 []).length=32∧By (x.keys.getD 0 []):=by
   rw [gdD,geE (by omega)]
   exact⟨hw.k32 _ (List.getElem_mem _),hw.by_ _ (List.getElem_mem _)⟩
  have hoB:OwnF B kv 41 32 (kr x.keys) Fx:=hox.low (fun j hj=>by
   have e:=hxS j hj
   exact (hBk j (by omega) (fun e2=>by rcases hF1 _ e2 with e3 | e3;exact e.1 e3;omega)).trans ((hAk j (by omega) e.1).trans (kj j e.2)))
  have hKB:KsV B kv x.keys:=kr_ksv hoB hw.k32
  obtain⟨q0,y0,t1,t2,t3,t4,t5⟩:=(hKB.acc hw.k32).at_ 0 (by omega)
  have t2:xindexAddr Tryd.prog 34 kv (.int .i64 0)=some q0:=t2
  have t5:=t5 B (Low.refl (nlE _))
  subst t4
  obtain⟨tdv3,bsb,bnd2,_,_,_,_,_⟩:=hS2.blocks
  have hlk:=us_look hS2.st.hu hS2.st.hU z32
  obtain⟨Fv,hTv,hFv⟩:=hS2.st.us _ z32
  have hul2:=fun u (hu:u∈usersF (x.keys.getD 0 []) 0 c.T)=>(show u<c.L.length by have:=users_lt hu;simpa [SrC.T] using this)
  have hVn:=hTv.nt
  have hm8:=hS2.users_le (x.keys.getD 0 [])
  have hq3:SRQ γ nro B c F2 s2 (.tuple #[]) B:=hS2.same (Low.refl (nlE _))
  have hfin:=fun (t:FSt) (D:AH) (q:SRQ γ nro B c F2 t (.tuple #[]) D)=>hup _ _ (SRQ.then_ hAl hAk hF1 (SRQ.then_ hBl hBk hF2 q))
  have ldk:xload Tryd.prog 34 (.pointer (some ⟨H.length+1,2,none⟩)) B=some kv:=by simp [xload,b5]
  have ldu:xload Tryd.prog 86 (.pointer (some ⟨c.sb,2,none⟩)) B=some (.map (some c.ub)):=by simp [xload,bsb]
  generalize x.keys.getD 0 []=z at *
  generalize ul z c.U=vv at *
  generalize usersF z 0 c.T=vs at *
  (refine aoo fun K hK=>?_;simp (maxSteps:=20000000) (disch:=first|omega|simp only [lnS];try omega) [h5,b5,lb5,b3,i3];refine hK _ _ ?_;clear hK K)
  refine awt (by simp<;>omega) ?_
  refine aw_seq ?_
  (refine aw_plan [] [] [0,1,2,3,4,5,6,7,8,9,10] 11 0 (by kernel_rfl) (by kernel_rfl) (by kernel_rfl) (fun K hK=>?_));simp only [sel,gcS,gdZ];simp (maxSteps:=20000000) (disch:=first|omega|simp only [lnS];try omega) [h0,h5,-xload,ldk,ldu,t5,-xindexAddr,t1,t2,hkn.1,hlk,-notTuple,nt_mapG,hVn.1,-xlen,hVn.2.2.2,Nat.add_assoc]
  refine hK _ _ ?_;clear hK K
  refine aw_block ?_
  refine aw_loop (fun q α D=>∃j:Nat,j+q=vs.length∧α 0=.pointer (some ⟨c.sb,0,none⟩)∧α 51=vv∧α 52=.int .i64 (vs.length:Nat)∧α 53=.int .i64 (j:Nat)∧SRQ γ nro B c F2 ((vs.take j).foldl (tryS c.T) s2) (.tuple #[]) D) vs.length ?_ ?_
  ·exact⟨0,by omega,by (first|simp [h0];done|rfl),by (first|simp;done|rfl),by (first|simp;done|rfl),by (first|simp;done|rfl),hq3⟩
  clear h0 h5 h27 h28 h29
  rintro q α D ⟨j,hjq,h0,h51,h52,h53,hq⟩
  refine aw_seq ?_
  by_cases hj:j<vs.length
  case neg=>
   (refine aoo fun K hK=>?_;simp (maxSteps:=20000000) (disch:=first|omega|simp only [lnS];try omega) [h52,h53,hj];refine hK _ _ ?_;clear hK K)
   refine aw_seq ?_
   refine awf (by simp [hj]<;>omega) ?_
   refine aw_exit ?_
   obtain rfl:j=vs.length:=by omega
   rw [List.take_length]at hq
   exact⟨[],_,rfl,rfl,hfin _ _ hq⟩
  obtain⟨_,hDl,hDk,F3,hS3,hF3⟩:=hq
  obtain⟨q1,w1,w2,w3⟩:=hTv.at_ hj
  have w3:=w3 D (fun j hj=>hDk j (hS2.ap j (hFv j hj)).2 (hS2.ap j (hFv j hj)).1)
  have hfd:=fold_take (f:=tryS c.T) (b:=s2) (d:=0) hj
  have hz:=hul2 (vs.getD j 0) (by rw [gdD,geE hj];exact List.getElem_mem hj)
  generalize vs.getD j 0=u at *
  (refine aoo fun K hK=>?_;simp (maxSteps:=20000000) (disch:=first|omega|simp only [lnS];try omega) [h52,h53,hj];refine hK _ _ ?_;clear hK K)
  refine aw_seq ?_
  refine awt (by simp [hj]<;>omega) ?_
  refine aw_skip (aw_seq ?_)
  refine aw_block ?_
  (refine aso fun K hK=>?_;simp (maxSteps:=20000000) (disch:=first|omega|simp only [lnS];try omega) [h51,h53,-xindexAddr,w1,w2,-xload,w3,-notTuple,hVn.1];refine hK _ _ ?_;clear hK K)
  refine aoo fun K hK=>?_
  simp (maxSteps:=20000000) (disch:=first|omega|simp only [lnS];try omega) [h0]
  refine⟨by kernel_rfl,AC.mono (try_ac hS3 hz) ?_⟩
  intro v' E q2
  obtain rfl:=q2.1
  try simp (maxSteps:=20000000) (disch:=first|omega|simp only [lnS];try omega) []
  refine hK _ _ ?_;clear hK K
  (refine aoo fun K hK=>?_;simp (maxSteps:=20000000) (disch:=first|omega|simp only [lnS];try omega) [h53];refine hK _ _ ?_;clear hK K)
  refine⟨q-1,by omega,j+1,by omega,by (first|simp [h0];done|rfl),by (first|simp [h51];done|rfl),by (first|simp [h52];done|rfl),by (first|simp;done|rfl),?_⟩
  rw [hfd]
  exact q2.then_ hDl hDk hF3
 obtain⟨_,hBl,hBk,F2,hS2,hF2⟩:=hq
 obtain⟨q1,w1,w2,w3⟩:=hTu.at_ hj
 have w3:=w3 B (fun j hj=>hBk j (hS.ap j (hFu j hj)).2 (hS.ap j (hFu j hj)).1)
 have hfd:=fold_take (f:=fun s u=>opnS c.T (tryS c.T s u) u) (b:=s1) (d:=0) hj
 have hz:=hul (us.getD j 0) (by rw [gdD,geE hj];exact List.getElem_mem hj)
 generalize us.getD j 0=u at *
 (refine aoo fun K hK=>?_;simp (maxSteps:=20000000) (disch:=first|omega|simp only [lnS];try omega) [h28,h29,hj];refine hK _ _ ?_;clear hK K)
 refine aw_seq ?_
 refine awt (by simp [hj]<;>omega) ?_
 refine aw_skip (aw_seq ?_)
 refine aw_block ?_
 (refine aso fun K hK=>?_;simp (maxSteps:=20000000) (disch:=first|omega|simp only [lnS];try omega) [h27,h29,-xindexAddr,w1,w2,-xload,w3,-notTuple,hTn.1];refine hK _ _ ?_;clear hK K)
 refine aso fun K hK=>?_
 simp (maxSteps:=20000000) (disch:=first|omega|simp only [lnS];try omega) [h0]
 refine⟨by kernel_rfl,AC.mono (try_ac hS2 hz) ?_⟩
 intro v' E q2
 obtain rfl:=q2.1
 try simp (maxSteps:=20000000) (disch:=first|omega|simp only [lnS];try omega) []
 refine hK _ _ ?_;clear hK K
 obtain⟨_,hEl,hEk,F3,hS3,hF3⟩:=q2
 refine aoo fun K hK=>?_
 simp (maxSteps:=20000000) (disch:=first|omega|simp only [lnS];try omega) [h0]
 refine⟨by kernel_rfl,AC.mono (opn_ac hS3 hz) ?_⟩
 intro v' E2 q3
 obtain rfl:=q3.1
 try simp (maxSteps:=20000000) (disch:=first|omega|simp only [lnS];try omega) []
 refine hK _ _ ?_;clear hK K
 (refine aoo fun K hK=>?_;simp (maxSteps:=20000000) (disch:=first|omega|simp only [lnS];try omega) [h29];refine hK _ _ ?_;clear hK K)
 refine⟨q-1,by omega,j+1,by omega,by (first|simp [h0];done|rfl),by (first|simp [h5];done|rfl),by (first|simp [h27];done|rfl),by (first|simp [h28];done|rfl),by (first|simp;done|rfl),?_⟩
 rw [hfd]
 exact (q3.then_ hEl hEk hF3).then_ hBl hBk hF2
end
end
section
theorem usersF_snoc(k:List Int)(x:TermD):∀ (T:List TermD) (n:Nat),usersF k n (T++[x])=usersF k n T++(x.keys.filter (·=k)).map (fun _=>n+T.length)
 | [],n=>by simp [usersF]
 | y::T,n=>by
  show _++usersF k (n+1) (T++[x])=(_++usersF k (n+1) T)++_
  rw [usersF_snoc k x T (n+1),List.append_assoc,List.length_cons,show n+1+T.length=n+(T.length+1) by omega]
def usP(T:List TermD)(i:Nat)(ks:List (List Int))(j:Nat)(k:List Int):List Nat:=usersF k 0 (T.take i)++((ks.take j).filter (·=k)).map (fun _=>i)
theorem usP_zero(T:List TermD)(i:Nat)(ks:List (List Int))(k:List Int):usP T i ks 0 k=usersF k 0 (T.take i):=by simp [usP]
theorem usP_all{T:List TermD}{i:Nat}{x:TermD}(h:T[i]?=some x)(k:List Int):usP T i x.keys x.keys.length k=usersF k 0 (T.take (i+1)):=by
 have hl:=(gsI.1 h).1
 unfold usP
 rw [List.take_length,List.take_add_one,h,Option.toList,usersF_snoc,List.length_take,Nat.min_eq_left (by omega),Nat.zero_add]
theorem usP_succ{T:List TermD}{i j:Nat}{ks:List (List Int)}(hj:j<ks.length)(k:List Int):usP T i ks (j+1) k=if k=ks.getD j [] then usP T i ks j k++[i] else usP T i ks j k:=by
 unfold usP
 rw [List.take_add_one,List.filter_append,List.map_append,←List.append_assoc,geE hj,gdD,geE hj,Option.toList,Option.getD_some]
 by_cases e:k=ks[j]
 ·rw [if_pos e]
  simp [e]
 ·rw [if_neg e]
  simp [Ne.symm e]
theorem usP_len{T:List TermD}(hT:T.length≤1000000)(hw:∀x∈T,x.Wf){i:Nat}{x:TermD}(h:T[i]?=some x){j:Nat}(k:List Int):(usP T i x.keys j k).length≤1000001000000:=by
 have h1:=users_len (k:=k) (n:=0) (M:=1000000) (T:=T.take i) (fun y hy=>(hw y (List.mem_of_mem_take hy)).many)
 have h2:(T.take i).length*1000000≤1000000*1000000:=Nat.mul_le_mul_right _ (by rw [List.length_take];omega)
 have h3:((x.keys.take j).filter (·=k)).length≤x.keys.length:=Nat.le_trans (List.length_filter_le _ _) (by rw [List.length_take];omega)
 have h4:=(hw x (moG h)).many
 unfold usP
 rw [laP,List.length_map]
 omega
def UsI(m:Nat)(G:AH)(U:List (List Int×Value))(P:List Int→List Nat):Prop:=
 (∀p∈U,p.1.length=32)∧∃fu:List Int→List Nat,(∀k,k.length=32→Tdo G (ul k U) (P k) (fu k)∧∀j∈fu k,m≤j)∧∀k k':List Int,k.length=32→k'.length=32→k≠k'→∀j∈fu k,j∉fu k'
theorem UsI.low{m:Nat}{G G':AH}{U:List (List Int×Value)}{P:List Int→List Nat}(h:UsI m G U P)(hl:∀j,m≤j→j<G.length→hget G' j=hget G j):UsI m G' U P:=by
 obtain⟨h1,fu,h2,h3⟩:=h
 exact⟨h1,fu,fun k hk=>⟨(h2 k hk).1.low (fun j hj=>hl j ((h2 k hk).2 j hj) ((h2 k hk).1.nt.2.2.1 j hj)),(h2 k hk).2⟩,h3⟩
theorem UsI.eq{m:Nat}{G:AH}{U:List (List Int×Value)}{P P':List Int→List Nat}(h:UsI m G U P)(e:∀k,P k=P' k):UsI m G U P':=by
 have:P=P':=funext e
 exact this▸h
theorem UsI.push{nro m ub i:Nat}{G1:AH}{U:List (List Int×Value)}{P:List Int→List Nat}{k0:List Int}(h:UsI m G1 U P)(hk0:k0.length=32)(hub:ub<m)(hm:m≤G1.length)(hn:nro≤ub)(hu:hget G1 ub=some (mblk 86 (uE U)))(hP:(P k0).length≤1000001000000) :
  ∃ (uv v':Value) (idx:Nat) (G2:AH) (E1:List (Value×Value)),uv=ul k0 U∧notTuple uv=true ∧
   xmapEnt Tryd.prog nro 86 (.map (some ub)) (.agg (iv .u8 k0).toArray) (G1++[some ⟨[.int .i64 (i:Nat)], 3,some 1⟩])=some (.tuple #[uv,.int .i64 (idx:Nat)],List.set G1 ub (some (mblk 86 E1))++[some ⟨[.int .i64 (i:Nat)], 3,some 1⟩]) ∧
   xappend Tryd.prog nro 39 uv (.slice (some ⟨G1.length,0,none⟩) 1 1) (List.set G1 ub (some (mblk 86 E1))++[some ⟨[.int .i64 (i:Nat)], 3,some 1⟩])=some (v',G2)∧notTuple v'=true∧v'.cells=#[v'] ∧
   xentSt nro (.map (some ub)) (.int .i64 (idx:Nat)) v' G2=some (undef,G2.set ub (some (mblk 86 (uE (uput k0 v' U))))) ∧
   G2.length=G1.length+2∧UsI m (G2.set ub (some (mblk 86 (uE (uput k0 v' U))))) (uput k0 v' U) (fun k=>if k=k0 then P k++[i] else P k) ∧
   (∀j,j<m→j≠ub→hget (G2.set ub (some (mblk 86 (uE (uput k0 v' U))))) j=hget G1 j):=by
 obtain⟨hU,fu,hf,hd⟩:=h
 obtain⟨ht,htm⟩:=hf k0 hk0
 have hul:=hget_lt hu
 obtain⟨R,hR⟩:∃R:Option Blk,R=some ⟨[.int .i64 (i:Nat)], 3,some 1⟩:=⟨_,rfl⟩
 obtain⟨idx,E1,he,hs⟩:=us_entry (nro:=nro) (H:=G1++[R]) ((hget_left hul).trans hu) hn hU hk0
 have hset:(G1++[R]).set ub (some (mblk 86 E1))=List.set G1 ub (some (mblk 86 E1))++[R]:=List.set_append_left _ _ hul
 rw [hset]at he
 obtain⟨A,hA⟩:∃A:AH,A=List.set G1 ub (some (mblk 86 E1)):=⟨_,rfl⟩
 have hAl:A.length=G1.length:=by rw [hA];simp
 have hAj:∀j,j≠ub→hget A j=hget G1 j:=fun j hj=>by rw [hA,hget_set_ne (Ne.symm hj)]
 have hAu:hget A ub=some (mblk 86 E1):=by rw [hA,hget_set_eq hul]
 have ht2:Tdo A (ul k0 U) (P k0) (fu k0):=ht.low (fun j hj=>hAj j (by have:=htm j hj;omega))
 obtain⟨v',G2,hap,ht3,hn2,hc2,hl2,hk2⟩:=tdo_push (nro:=nro) ht2 (fun j hj=>by have:=htm j hj;omega) i (by omega)
 rw [hAl,←hR]at hap
 rw [hAl]at ht3 hl2 hk2
 have h2u:hget G2 ub=some (mblk 86 E1):=(hk2 ub (by omega) (fun e=>by have:=htm ub e;omega)).trans hAu
 have l2u:=hget_lt h2u
 have hst:=hs G2 v' h2u hn2
 rw [←hA]at he
 refine⟨ul k0 U,v',idx,G2,E1,rfl,ht.nt.1,by rw [←hR,←hA];exact he,by rw [←hR,←hA];exact hap,hn2,hc2,hst,hl2,⟨uput_len hk0 hU,fun k=>if k=k0 then [G1.length+1] else fu k,fun k hk=>?_,fun k k' hk hk' hne j hj hj'=>?_⟩,fun j hj hne=>?_⟩
 ·rw [ul_uput]
  by_cases e:k=k0
  ·subst e
   simp only [if_pos]
   refine⟨ht3.low (fun j hj=>hget_set_ne (by rw [msG.1 hj];omega)),fun j hj=>by rw [msG.1 hj];omega⟩
  ·simp only [if_neg e]
   obtain⟨g1,g2⟩:=hf k hk
   refine⟨g1.low (fun j hj=>?_),g2⟩
   have hjl:=g1.nt.2.2.1 j hj
   have hjm:=g2 j hj
   rw [hget_set_ne (by omega),hk2 j hjl (fun e2=>hd k k0 hk hk0 e j hj e2),hAj j (by omega)]
 ·simp only at hj hj'
  by_cases e:k=k0
  ·rw [if_pos e]at hj
   rw [if_neg (fun e2=>hne (e.trans e2.symm))]at hj'
   have:=(hf k' hk').1.nt.2.2.1 j hj'
   have:=msG.1 hj
   omega
  ·rw [if_neg e]at hj
   by_cases e2:k'=k0
   ·rw [if_pos e2]at hj'
    have:=(hf k hk).1.nt.2.2.1 j hj
    have:=msG.1 hj'
    omega
   ·rw [if_neg e2]at hj'
    exact hd k k' hk hk' hne j hj hj'
 ·rw [hget_set_ne (Ne.symm hne),hk2 j (by omega) (fun e=>by have:=htm j e;omega),hAj j hne]
end
section
attribute [local simp] wb_bool wb_undef with_lit XL_nil XL_cons XLc_val XLc_call step1_eq stepW_t stepW_f stepC_n stepC_s stepX_s stepX_n stepN_s calleeX xrecv oneV xop_eq xopR_s xopR_n wantedA_eq wantedG_n wantedG_s plain1_int plain1_bool plain1_string bits_i64 bits_u64 bits_u32 bits_u16 bits_u8 xeqA xagg xcmp xarr allK_iv num_iv calleeOf xread xeff xbin xint xnil xun xstr xload xconv xpart xfield xfieldAddr xindexAddr xindex bnd asInt? xslice xlen xmin xmax xbuild xfill xappend xapp2 xappstr xappmk xcap xcopy xcells eval_tmp eval_const put_at put_none fr0_at cells_agg cells_int cells_bool cells_string cells_ptr cells_slice notTuple tab iv_all hget_app hget_app0 hget_cons0 hget_cons set_app set_app0 setR setR_one QL_nil QL_cons QLc_val stepQ_t stepQ_f stepQC_n stepQC_s stepQX_s SL_nil SL_cons SLc_val stepS_t stepS_f ltT ltF leT leF eqT eqF ltTn ltFn leTn leFn eqTn eqFn beqT beqF bneT bneF wi64 wu64 wu32 wu16 wu8 tmodP tdivP hgetL hgetNe hgetEq setL nums_def nums_len Nat.succ_le_of_lt List.getElem?_cons_zero List.getElem?_cons_succ Option.getD_some Int.toNat_add Int.toNat_mul agM okM agB agI agS agP agL agA okB okI okS okP okSl okA nt_strG nt_boolG nt_aggG nt_intG nt_ptrG nt_slG XO_s XO_z XLk_val XLk_call headsO behind List.length_cons List.length_nil List.mem_cons List.not_mem_nil or_false forall_eq_or_imp forall_eq List.contains_cons List.contains_nil XOm PL_nil plainB_lit PL_cons PLc_val PLc_new stepP_t stepP_f stepPC_n stepPC_s stepPX_s stepPX_n stepPV_n stepPV_s stepPA_t stepPA_c stepPA_l stepPN_s allocOp reloc_sl reloc_ptr thenQ_ret scopeQ_ret inBlockQ_ret RQ resL resV
section
theorem zero_bools(n:Nat):((List.range n).map fun j=>[Value.bool false][j%1]?.getD undef)=bsC (List.replicate n false):=by
 have e:(fun j:Nat=>[Value.bool false][j%1]?.getD undef)=fun _=>Value.bool false:=by
  funext j
  rw [Nat.mod_one];rfl
 rw [e,List.map_const',List.length_range]
 simp [bsC]
theorem headsO_ex{i:Nat}:∀ {os:List (List Nat)},i∈headsO os→∃o,(i::o)∈os
 | []::os,h=>by
  unfold headsO at h
  obtain⟨o,ho⟩:=headsO_ex (os:=os) h
  exact⟨o,by simp [ho]⟩
 | (j::l)::os,h=>by
  unfold headsO at h
  split at h
  ·obtain⟨o,ho⟩:=headsO_ex (os:=os) h
   exact⟨o,by simp [ho]⟩
  ·rcases List.mem_cons.1 h with rfl | h
   ·exact⟨l,by simp⟩
   ·obtain⟨o,ho⟩:=headsO_ex (os:=os) h
    exact⟨o,by simp [ho]⟩
theorem behind_of{i:Nat}{o:List Nat}:∀ {os:List (List Nat)},(i::o)∈os→o∈behind i os
 | []::os,h=>by
  rcases List.mem_cons.1 h with h | h
  ·cases h
  ·simp only [behind]
   exact behind_of h
 | (j::l)::os,h=>by
  simp only [behind]
  rcases List.mem_cons.1 h with h | h
  ·cases h
   simp
  ·split
   ·exact List.mem_cons_of_mem _ (behind_of h)
   ·exact behind_of h
theorem name_fm{K:Fm→Prop}{α:Fm}(h:∀β,β=α→K β):K α:=h α rfl
def XOk(P:Program)(nro n:Nat)(γ:Nat→Option Nat)(ops:Array Oper)(l:List Oper)(i:Nat)(α:Fm)(G:AH)(k:Fm→AH→Prop):Prop:=match l[i]? with
 | none=>False
 | some o=>XLk P nro γ (step1 P nro n γ ops o α G) o.dst α G k
theorem xo_run{P:Program}{nro n:Nat}{γ:Nat→Option Nat}{ops:Array Oper}{K:Fm→AH→Prop}{l:List Oper}{okI:List Nat→Nat→Bool}{ALL:List Nat}{J:List Nat→Fm→AH→Prop}
  (hs:∀ (i:Nat) (D:List Nat) (α:Fm) (G:AH) (k:Fm→AH→Prop),J D α G→okI D i=true→(∀α' G',J (i::D) α' G'→k α' G')→XOk P nro n γ ops l i α G k)
  (hK:∀ (E:List Nat) (α:Fm) (G:AH),J E α G→(∀k∈ALL,k∈E)→K α G) :
  ∀ (F:Nat) (os:List (List Nat)) (D:List Nat) (α:Fm) (G:AH),os≠[]→(∀o∈os,o.length=F∧okAll okI D o=true∧∀k∈ALL,k∈D∨k∈o)→J D α G→XO P nro n γ ops K l F os α G
 | 0,os,D,α,G,hne,ho,h=>by
  obtain⟨o,hm⟩:=List.exists_mem_of_ne_nil os hne
  obtain⟨h1,_,h3⟩:=ho o hm
  have:o=[]:=List.eq_nil_of_length_eq_zero h1
  subst this
  exact hK D α G h (fun k hk=>(h3 k hk).elim id (fun e=>by cases e))
 | F+1,os,D,α,G,hne,ho,h=>by
  rw [XO_s]
  intro i hi
  obtain⟨o,hm⟩:=headsO_ex hi
  have hoi:=(ho _ hm).2.1
  simp only [okAll,Bool.and_eq_true]at hoi
  have:=hs i D α G (XO P nro n γ ops K l F (behind i os)) h hoi.1 fun α' G' h'=>xo_run hs hK F (behind i os) (i::D) α' G' (fun e=>?_) (fun r hr=>?_) h'
  ·exact this
  ·have:=behind_of hm
   rw [e]at this
   cases this
  ·obtain⟨g1,g2,g3⟩:=ho _ (behind_mem hr)
   simp only [okAll,Bool.and_eq_true]at g2
   refine⟨by simpa using g1,g2.2,fun k hk=>?_⟩
   rcases g3 k hk with e | e
   ·exact .inl (by simp [e])
   ·rcases List.mem_cons.1 e with e | e
    ·exact .inl (by simp [e])
    ·exact .inr e
theorem SL_hide{P:Program}{n:Nat}{γ:Nat→Option Nat}{ops:Array Oper}{H:AH}{rest:List Oper}{α:Fm}{K0:Fm→Prop}(h:∀KK:Fm→Prop,(∀α',K0 α'→KK α')→SL P n γ ops KK H rest α):SL P n γ ops K0 H rest α:=h K0 (fun _ h=>h)
def okE(D:List Nat)(i:Nat):Bool:=match i with
 | 3=>!(D.contains 7)&&!(D.contains 9)&&!(D.contains 11)
 | 4=>!(D.contains 7)&&!(D.contains 9)&&!(D.contains 11)
 | 6=>!(D.contains 6)&&!(D.contains 7)&&!(D.contains 9)&&!(D.contains 11)
 | 7=>D.contains 3&&D.contains 4&&D.contains 6&&!(D.contains 7)&&!(D.contains 9)&&!(D.contains 11)
 | 8=>D.contains 7
 | 9=>D.contains 6&&D.contains 7&&D.contains 8&&!(D.contains 9)&&!(D.contains 11)
 | 10=>D.contains 7
 | 11=>D.contains 3&&D.contains 9&&D.contains 10&&!(D.contains 11)
 | _=>false
structure JE (β:Fm) (A1 Ar Am A2 Af:AH) (sb ub r:Nat) (z:List Int) (i idx:Nat) (uv v':Value) (D:List Nat) (α:Fm) (G:AH):Prop where
 lo:∀t,t<48→α t=β t
 h50:α 50=.pointer (some ⟨sb,2,none⟩)
 h54:α 54=.int .i64 (i:Nat)
 h51:3∈D→α 51=.map (some ub)
 h52:4∈D→α 52=.agg (iv .u8 z).toArray
 h55:6∈D→α 55=.slice (some ⟨r,0,none⟩) 1 1
 h56:7∈D→α 56=.tuple #[uv,.int .i64 (idx:Nat)]
 h53:8∈D→α 53=uv
 h57:9∈D→α 57=v'
 h58:10∈D→α 58=.int .i64 (idx:Nat)
 hG:G=if 11∈D then Af else if 9∈D then A2 else if 7∈D then Am else if 6∈D then Ar else A1
def BegQ(γ:Nat→Option Nat)(nro:Nat)(H:AH)(T:List TermD)(v':Value)(H':AH):Prop:=
 ∃ (c:SrC) (F:List Nat),c.T=T∧v'=.pointer (some ⟨c.sb,0,none⟩)∧Low H.length H H'∧SR γ nro H' c F (List.replicate T.length false,[])∧∀j∈F,H.length≤j
theorem begin_ac{nro:Nat}{γ:Nat→Option Nat}{H:AH}(hp:Pw γ H){b:Nat}{F:List Nat}{T:List TermD}(h:Tbl H b F T)(hnH:nro≤H.length)(hT:T.length≤1000000) :
  AC Tryd.prog nro γ 40 #[.pointer (some ⟨b,0,none⟩)] H (BegQ γ nro H T):=by
 obtain⟨mb,tv,Ft,Fk,L,rfl,hL,rfl,hFl⟩:=h
 obtain⟨hl,hnt,hcs⟩:=hL.tvlen
 have hgb:=hL.hb
 have hbl:=hget_lt hgb
 rw [List.length_map]at hT
 have hwT:∀x∈L.map (·.2),x.Wf:=fun x hx=>by
  obtain⟨p,hp,rfl⟩:=List.mem_map.1 hx
  exact hL.wf p hp
 have hlen:=fun (N:AH)=>tlen_rc (γ:=γ) (H:=H++N) ((hget_left hbl).trans hgb) hl hnt hcs
 have hmk:∀G:AH,xmakeMap Tryd.prog 86 none G=some (.map (some G.length),G++[some (mblk 86 (uE []))]):=fun G=>by
  have h1:und Tryd.prog 86 = .map 41 39 := by kernel_rfl
  unfold xmakeMap
  simp only [h1]
  rfl
 have hmkH:=hmk H
 have hzb:=zero_bools L.length
 have hnl:(L.length:Int)≤maxLen:=by simp only [maxLen];omega
 obtain⟨G0,hG0⟩:∃G0:AH,G0=H++[some (mblk 86 (uE [])),some ⟨bsC (List.replicate L.length false), 4,some 1⟩,some ⟨[tv,.map (some mb),.map (some H.length),.slice (some ⟨H.length+1,0,none⟩) L.length L.length,.slice none 0 0], 88,none⟩]:=⟨_,rfl⟩
 have g0:hget G0 H.length=some (mblk 86 (uE [])):=by rw [hG0,hget_app0];rfl
 have g1:hget G0 (H.length+1)=some ⟨bsC (List.replicate L.length false), 4,some 1⟩:=by rw [hG0,hget_app];rfl
 have g2:hget G0 (H.length+2)=some ⟨[tv,.map (some mb),.map (some H.length),.slice (some ⟨H.length+1,0,none⟩) L.length L.length,.slice none 0 0], 88,none⟩:=by rw [hG0,hget_app];rfl
 have gl:G0.length=H.length+3:=by rw [hG0];simp
 have lw0:Low H.length H G0:=⟨fun j hj=>by rw [hG0];exact hget_left hj,by omega⟩
 have hu0:UsI (H.length+3) G0 [] (usersF · 0 []):=⟨by simp,fun _=>[],fun k hk=>⟨.inl ⟨rfl,rfl,rfl⟩,by simp⟩,fun k k' _ _ _ j hj=>by cases hj⟩
 refine ac_of_aw Tryd.func40 rfl Tryd.ntmps40 Tryd.results40 (by simp) ?_
 (refine aso fun K hK=>?_;simp (disch:=first|omega|simp only [lnS];try omega) [-getElem?_pos,-getElem?_neg];refine hK _ _ ?_;clear hK K)
 refine aso fun K hK=>?_
 simp (disch:=first|omega|simp only [lnS];try omega) [-getElem?_pos,-getElem?_neg,hmkH]
 refine⟨by kernel_rfl,ac_of_rc (hlen _) (by simp [pv_iv,pv_int,pv_bool,pv_string,pv_tup2,pv_tup3,iv_plain,p2_int,p2_bool,p2_string]) ?_⟩
 have p1:plain1 (.slice none 0 0)=true:=rfl
 have pm:plain1 (.map none)=true:=rfl
 have mc:∀n:Option Nat,(Value.map n).cells=#[.map n]:=fun _=>rfl
 try simp (disch:=first|omega|simp only [lnS];try omega) [-getElem?_pos,-getElem?_neg,hzb,hnl,p1,pm,mc,nt_mapG]
 refine hK _ _ ?_;clear hK K
 refine aw_seq (aw_seq ?_)
 (refine aoo fun K hK=>?_;simp (disch:=first|omega|simp only [lnS];try omega) [-getElem?_pos,-getElem?_neg];refine hK _ _ ?_;clear hK K)
 refine awf (by simp<;>omega) ?_
 refine aw_skip (aw_seq ?_)
 obtain⟨Ga,hGa⟩:∃Ga:AH,Ga=H++[some (mblk 86 (uE [])),some ⟨bsC (List.replicate L.length false), 4,some 1⟩,some ⟨[.slice none 0 0,.map none,.map (some H.length),.slice (some ⟨H.length+1,0,none⟩) L.length L.length,.slice none 0 0], 88,none⟩]:=⟨_,rfl⟩
 have ga2:hget Ga (H.length+2)=some ⟨[.slice none 0 0,.map none,.map (some H.length),.slice (some ⟨H.length+1,0,none⟩) L.length L.length,.slice none 0 0], 88,none⟩:=by rw [hGa,hget_app];rfl
 have gab:hget Ga b=some ⟨[tv,.map (some mb)], 76,none⟩:=by rw [hGa,hget_left hbl];exact hgb
 have la2:=hget_lt ga2
 have hn2:nro≤H.length+2:=by omega
 have lab:=hget_lt gab
 have hset:(Ga.set (H.length+2) (some ⟨[tv,.map (some mb),.map (some H.length),.slice (some ⟨H.length+1,0,none⟩) L.length L.length,.slice none 0 0], 88,none⟩))=G0:=by
  rw [hGa,hG0,List.set_append_right _ _ (by omega),Nat.add_sub_cancel_left]
  rfl
 rw [←hGa]
 clear hGa
 (refine aw_plan [] [1] [0,2,3,4,5,6,7,8,9,10,11] 12 4 (by kernel_rfl) (by kernel_rfl) (by kernel_rfl) (fun K hK=>?_));simp only [sel,gcS,gdZ];simp (disch:=first|omega|simp only [lnS];try omega) [-getElem?_pos,-getElem?_neg,ga2,gab,la2,lab,hn2,-notTuple,hnt,hcs,p1,pm,mc,nt_mapG,Nat.add_assoc]
 rw [hset]
 refine hK _ _ ?_;clear hK K hset
 clear hG0
 refine aw_seq (aw_seq ?_)
 have lg2:=hget_lt g2
 (refine aoo fun K hK=>?_;simp (disch:=first|omega|simp only [lnS];try omega) [-getElem?_pos,-getElem?_neg,g2,lg2,-notTuple,hnt,-xlen,hl];refine hK _ _ ?_;clear hK K)
 refine aw_block ?_
 refine aw_loop (fun q α G=>∃ (i:Nat) (U:List (List Int×Value)),i+q=L.length∧α 3=.pointer (some ⟨H.length+2,0,none⟩)∧α 34=tv∧α 35=.int .i64 (L.length:Nat)∧α 36=.int .i64 (i:Nat)∧H.length+3≤G.length∧(∀j,j<H.length+3→j≠H.length→hget G j=hget G0 j)∧hget G H.length=some (mblk 86 (uE U))∧UsI (H.length+3) G U (usersF · 0 ((L.map (·.2)).take i))) L.length ?_ ?_
 ·exact⟨0,[],by omega,by (first|simp;done|rfl),by (first|simp;done|rfl),by (first|simp;done|rfl),by (first|simp;done|rfl),by omega,fun j _ _=>rfl,g0,hu0⟩
 rintro q α G ⟨i,U,hiq,h3,h34,h35,h36,hGl,hGj,hGu,hUs⟩
 refine aw_seq ?_
 by_cases hi:i<L.length
 case neg=>
  (refine aoo fun K hK=>?_;simp (disch:=first|omega|simp only [lnS];try omega) [-getElem?_pos,-getElem?_neg,h35,h36,hi];refine hK _ _ ?_;clear hK K)
  refine aw_seq ?_
  refine awf (by simp [hi]<;>omega) ?_
  refine aw_exit (aw_seq ?_)
  (refine aoo fun K hK=>?_;simp (disch:=first|omega|simp only [lnS];try omega) [-getElem?_pos,-getElem?_neg,h3];refine hK _ _ ?_;clear hK K)
  (refine aw_ret ?_;simp (disch:=first|omega|simp only [lnS];try omega) [-getElem?_pos,-getElem?_neg])
  obtain rfl:i=L.length:=by omega
  have hlw:Low H.length H G:=⟨fun j hj=>(hGj j (by omega) (by omega)).trans (lw0.1 j hj),by omega⟩
  rw [tkL (by simp)]at hUs
  obtain⟨hU,fu,hf,hd⟩:=hUs
  have hS:∀j,j<G.length→j≠H.length+2→j≠H.length+1→j∈(List.range G.length).filter (fun j=>decide (j≠H.length+2∧j≠H.length+1)):=fun j h1 h2 h3=>by simp [h1,h2,h3]
  have hll:=hlw.2
  have hSub:=hS H.length (by omega) (by omega) (by omega)
  have hs2:=(hGj (H.length+2) (by omega) (by omega)).trans g2
  have hs1:=(hGj (H.length+1) (by omega) (by omega)).trans g1
  refine⟨⟨H.length+2,H.length+1,mb,H.length,b,tv,(List.range G.length).filter (fun j=>decide (j≠H.length+2∧j≠H.length+1)),Ft,Fk,L,U⟩,[H.length+2,H.length+1],rfl,rfl,hlw,⟨fun A hA=>?_,⟨hL.low (fun j hj=>hlw.1 j (hFl j hj)),fun j hj=>?_,hSub,hGu,hU,fun k hk=>⟨fu k,(hf k hk).1,fun j hj=>?_⟩⟩,⟨.slice none 0 0,[],rfl,hs2,?_,by simp,.inl ⟨rfl,rfl,rfl⟩,by show H.length+2≠H.length+1;omega,by simp,by simp,?_⟩,fun j hj=>?_,fun j hj=>?_,by omega,hT⟩,fun j hj=>?_⟩
  ·obtain⟨i0,ty,e1,e2⟩:=hp
   have:=hget_lt e2
   exact⟨i0,ty,e1,(hA i0 (hS _ (by omega) (by omega) (by omega))).trans ((hlw.1 i0 this).trans e2)⟩
  ·have:=hFl j hj
   exact hS j (by omega) (by omega) (by omega)
  ·have e1:=(hf k hk).2 j hj
   have e2:=(hf k hk).1.nt.2.2.1 j hj
   exact hS j e2 (by omega) (by omega)
  ·rw [List.length_map]
   exact hs1
  ·unfold muF
   simp
   exact hT
  ·have:=List.mem_filter.1 hj
   have h1:=List.mem_range.1 this.1
   have h2:=of_decide_eq_true this.2
   exact⟨by simp [h2.1,h2.2],h1⟩
  ·simp only [mcN]at hj
   omega
  ·simp only [mcN]at hj
   omega
 obtain⟨⟨kv,x⟩,hpx⟩:∃p,L[i]?=some p:=⟨_,geE hi⟩
 have hmem:=moG hpx
 have hkn:=hL.key_nt hmem
 have hw:x.Wf:=hL.wf _ hmem
 obtain⟨Fx,hox,hFx⟩:=hL.keys _ hmem
 have hKs:KsV H kv x.keys:=kr_ksv hox hw.k32
 have hacc:=hKs.acc hw.k32
 have hmk:=hw.many
 have hlG:Low H.length H G:=⟨fun j hj=>(hGj j (by omega) (by omega)).trans (lw0.1 j hj),by omega⟩
 obtain⟨q1,a1,a2,a3⟩:=(hL.low (G:=G) (fun j hj=>hlG.1 j (hFl j hj))).at_ hpx
 have a3:xload Tryd.prog 92 q1 G=some (.agg (tmRow kv x).toArray):=by simpa using a3 []
 have hpT:(L.map (·.2))[i]?=some x:=by rw [gmP,hpx];rfl
 have r3:List.range 3=[0,1,2]:=rfl
 have htm:tmRow kv x=[.int .i64 (x.kind:Nat),.string x.text,kv]:=rfl
 rw [htm]at a3
 have hng:nro≤G.length:=by omega
 (refine aoo fun K hK=>?_;simp (disch:=first|omega|simp only [lnS];try omega) [-getElem?_pos,-getElem?_neg,h35,h36,hi];refine hK _ _ ?_;clear hK K)
 refine aw_seq ?_
 refine awt (by simp [hi]<;>omega) ?_
 refine aw_skip (aw_seq ?_)
 refine aw_block ?_
 (refine aso fun K hK=>?_;simp (disch:=first|omega|simp only [lnS];try omega) [-getElem?_pos,-getElem?_neg,h34,h36,-xindexAddr,a1,a2,-xload,a3,-notTuple,hnt,hkn.1,hkn.2,p1,r3,hng];refine hK _ _ ?_;clear hK K)
 obtain⟨G1,hG1⟩:∃G1:AH,G1=G++[some ⟨[.int .i64 (x.kind:Nat),.string x.text,kv], 92,none⟩]:=⟨_,rfl⟩
 have g1j:∀j,j<G.length→hget G1 j=hget G j:=fun j hj=>by rw [hG1];exact hget_left hj
 have g1n:hget G1 G.length=some ⟨[.int .i64 (x.kind:Nat),.string x.text,kv], 92,none⟩:=by rw [hG1,hget_app0];rfl
 have g1l:G1.length=G.length+1:=by rw [hG1];simp
 have l1n:=hget_lt g1n
 rw [←hG1]
 clear hG1
 have hUs1:UsI (H.length+3) G1 U (usP (L.map (·.2)) i x.keys 0):=(hUs.low (fun j h1 h2=>g1j j h2)).eq (fun k=>(usP_zero _ _ _ k).symm)
 (refine aso fun K hK=>?_;simp (disch:=first|omega|simp only [lnS];try omega) [-getElem?_pos,-getElem?_neg,g1n,l1n,-notTuple,hkn.1,hkn.2,-xlen,hacc.len];refine hK _ _ ?_;clear hK K)
 refine aw_block ?_
 refine aw_loop (fun q2 α A=>∃ (j:Nat) (U:List (List Int×Value)),j+q2=x.keys.length∧α 3=.pointer (some ⟨H.length+2,0,none⟩)∧α 34=tv∧α 35=.int .i64 (L.length:Nat)∧α 36=.int .i64 (i:Nat)∧α 4=.int .i64 (i:Nat)∧α 42=kv∧α 43=.int .i64 (x.keys.length:Nat)∧α 44=.int .i64 (j:Nat)∧H.length+3≤A.length∧(∀j,j<H.length+3→j≠H.length→hget A j=hget G0 j)∧hget A H.length=some (mblk 86 (uE U))∧UsI (H.length+3) A U (usP (L.map (·.2)) i x.keys j)) x.keys.length ?_ ?_
 ·exact⟨0,U,by omega,by (first|simp [h3];done|rfl),by (first|simp [h34];done|rfl),by (first|simp [h35];done|rfl),by (first|simp [h36];done|rfl),by (first|simp;done|rfl),by (first|simp;done|rfl),by (first|simp;done|rfl),by (first|simp;done|rfl),by omega,fun j h1 h2=>(g1j j (by omega)).trans (hGj j h1 h2),(g1j _ (by omega)).trans hGu,hUs1⟩
 clear h3 h34 h35 h36 hGl hGj hGu hUs hlG a1 a2 a3 hUs1 g1j g1n g1l l1n hng
 rintro q2 α A ⟨j,U,hjq,h3,h34,h35,h36,h4,h42,h43,h44,hAl,hAj,hAu,hUs⟩
 refine aw_seq ?_
 by_cases hj:j<x.keys.length
 case neg=>
  (refine aoo fun K hK=>?_;simp (disch:=first|omega|simp only [lnS];try omega) [-getElem?_pos,-getElem?_neg,h43,h44,hj];refine hK _ _ ?_;clear hK K)
  refine aw_seq ?_
  refine awf (by simp [hj]<;>omega) ?_
  refine aw_exit ?_
  obtain rfl:j=x.keys.length:=by omega
  (refine aoo fun K hK=>?_;simp (disch:=first|omega|simp only [lnS];try omega) [-getElem?_pos,-getElem?_neg,h36];refine hK _ _ ?_;clear hK K)
  exact⟨q-1,by omega,i+1,U,by omega,by (first|simp [h3];done|rfl),by (first|simp [h34];done|rfl),by (first|simp [h35];done|rfl),by (first|simp;done|rfl),hAl,hAj,hAu,hUs.eq (fun k=>usP_all hpT k)⟩
 have hlA:Low H.length H A:=⟨fun j hj=>(hAj j (by omega) (by omega)).trans (lw0.1 j hj),by omega⟩
 obtain⟨q1,y,r1,r2,r3',r4,r5⟩:=hacc.at_ j hj
 have r5:=r5 A hlA
 subst r4
 have hsx:=usP_succ (T:=L.map (·.2)) (i:=i) hj
 have hpl:=fun k=>usP_len (T:=L.map (·.2)) (by simpa using hT) hwT hpT (j:=j) k
 obtain⟨k32,kby⟩:(x.keys.getD j []).length=32∧By (x.keys.getD j []):=by
  rw [gdD,geE hj]
  exact⟨hw.k32 _ (List.getElem_mem hj),hw.by_ _ (List.getElem_mem hj)⟩
 have hz:∀k,usP (L.map (·.2)) i x.keys (j+1) k=if k=x.keys.getD j [] then usP (L.map (·.2)) i x.keys j k++[i] else usP (L.map (·.2)) i x.keys j k:=hsx
 generalize x.keys.getD j []=z at *
 have htz:(iv .u8 z).take 32=iv .u8 z:=tkL (by simp [k32])
 have hsz:setR (iv .u8 (zl 32)) 0 (iv .u8 z)=iv .u8 z:=setR_all _ _ (by simp [k32])
 have hng:nro≤A.length:=by omega
 (refine aoo fun K hK=>?_;simp (disch:=first|omega|simp only [lnS];try omega) [-getElem?_pos,-getElem?_neg,h43,h44,hj];refine hK _ _ ?_;clear hK K)
 refine aw_seq ?_
 refine awt (by simp [hj]<;>omega) ?_
 refine aw_skip (aw_seq ?_)
 refine aw_block ?_
 (refine aso fun K hK=>?_;simp (disch:=first|omega|simp only [lnS];try omega) [-getElem?_pos,-getElem?_neg,h42,h44,-xindexAddr,r1,r2,-xload,r5,-notTuple,hkn.1,htz,hsz,k32,hng];refine hK _ _ ?_;clear hK K)
 obtain⟨A1,hA1⟩:∃A1:AH,A1=A++[some ⟨iv .u8 z, 41,none⟩]:=⟨_,rfl⟩
 have b1j:∀j,j<A.length→hget A1 j=hget A j:=fun j hj=>by rw [hA1];exact hget_left hj
 have b1n:hget A1 A.length=some ⟨iv .u8 z, 41,none⟩:=by rw [hA1,hget_app0];rfl
 have b1l:A1.length=A.length+1:=by rw [hA1];simp
 rw [←hA1]
 clear hA1
 have b1s:hget A1 (H.length+2)=some ⟨[tv,.map (some mb),.map (some H.length),.slice (some ⟨H.length+1,0,none⟩) L.length L.length,.slice none 0 0], 88,none⟩:=(b1j _ (by omega)).trans ((hAj _ (by omega) (by omega)).trans g2)
 obtain⟨uv,v',idx,A2,E1,_,hnuv,he,hap,hnv,hcv,hst,hl2,hUs2,hk2⟩:=(hUs.low (G':=A1) (fun j h1 h2=>b1j j h2)).push (nro:=nro) (i:=i) k32 (ub:=H.length) (by omega) (by omega) (by omega) ((b1j _ (by omega)).trans hAu) (by have:=hpl z;omega)
 have lb1:=hget_lt b1s
 have lb2:=hget_lt b1n
 have r1':List.range 1=[0]:=rfl
 refine aw_ptree [0,1,2,5] 8 [[3,4,6,7,8,9,10,11],[3,4,6,7,8,10,9,11],[3,4,6,7,10,8,9,11],[3,6,4,7,8,9,10,11],[3,6,4,7,8,10,9,11],[3,6,4,7,10,8,9,11],[4,3,6,7,8,9,10,11],[4,3,6,7,8,10,9,11],[4,3,6,7,10,8,9,11],[4,6,3,7,8,9,10,11],[4,6,3,7,8,10,9,11],[4,6,3,7,10,8,9,11],[6,3,4,7,8,9,10,11],[6,3,4,7,8,10,9,11],[6,3,4,7,10,8,9,11],[6,4,3,7,8,9,10,11],[6,4,3,7,8,10,9,11],[6,4,3,7,10,8,9,11]] (by kernel_rfl) (by kernel_rfl) (by kernel_rfl) (fun K hK=>?_)
 refine SL_hide (fun KK hKK=>?_)
 simp only [sel,gcS]
 simp (disch:=first|omega|simp only [lnS];try omega) [-getElem?_pos,-getElem?_neg,h3,h4]
 refine name_fm (K:=KK) (fun β hβ=>?_)
 refine hKK β ?_
 clear hKK
 have e3:β 3=.pointer (some ⟨H.length+2,0,none⟩):=by rw [hβ];(first|simp [h3];done|rfl)
 have e34:β 34=tv:=by rw [hβ];(first|simp [h34];done|rfl)
 have e35:β 35=.int .i64 (L.length:Nat):=by rw [hβ];(first|simp [h35];done|rfl)
 have e36:β 36=.int .i64 (i:Nat):=by rw [hβ];(first|simp [h36];done|rfl)
 have e4:β 4=.int .i64 (i:Nat):=by rw [hβ];(first|simp [h4];done|rfl)
 have e42:β 42=kv:=by rw [hβ];(first|simp [h42];done|rfl)
 have e43:β 43=.int .i64 (x.keys.length:Nat):=by rw [hβ];(first|simp [h43];done|rfl)
 have e44:β 44=.int .i64 (j:Nat):=by rw [hβ];(first|simp [h44];done|rfl)
 have e7:β 7=.pointer (some ⟨A.length,0,none⟩):=by rw [hβ];(first|simp;done|rfl)
 have e50:β 50=.pointer (some ⟨H.length+2,2,none⟩):=by rw [hβ];(first|simp;done|rfl)
 have e54:β 54=.int .i64 (i:Nat):=by rw [hβ];(first|simp;done|rfl)
 clear hβ
 refine xo_run (okI:=okE) (ALL:=[3,4,6,7,8,9,10,11]) (J:=JE β A1 (A1++[some ⟨[.int .i64 (i:Nat)], 3,some 1⟩]) (List.set A1 H.length (some (mblk 86 E1))++[some ⟨[.int .i64 (i:Nat)], 3,some 1⟩]) A2 (A2.set H.length (some (mblk 86 (uE (uput z v' U))))) (H.length+2) H.length A1.length z i idx uv v') ?_ ?_ 8 _ [0,1,2,5] _ _ (by simp) (by decide) ⟨fun t ht=>rfl,e50,e54,fun h=>(by simp at h),fun h=>(by simp at h),fun h=>(by simp at h),fun h=>(by simp at h),fun h=>(by simp at h),fun h=>(by simp at h),fun h=>(by simp at h),by simp⟩
 ·intro k D α G kk hJ hk hcont
  obtain⟨jl,j50,j54,j51,j52,j55,j56,j53,j57,j58,jG⟩:=hJ
  have j7:=(jl 7 (by omega)).trans e7
  unfold okE at hk
  split at hk
  ·simp only [Bool.and_eq_true,Bool.not_eq_true',List.contains_eq_mem,decide_eq_false_iff_not,decide_eq_true_eq]at hk
   obtain⟨⟨n7,n9⟩,n11⟩:=hk
   rw [if_neg n11,if_neg n9,if_neg n7]at jG
   by_cases h6:6∈D
   ·rw [if_pos h6]at jG
    subst jG
    unfold XOk
    simp only [gcS]
    simp (disch:=first|omega|simp only [lnS];try omega) [-getElem?_pos,-getElem?_neg,-notTuple,hnt,hnuv,hnv,hcv,nt_mapG,b1s,lb1,j50]
    exact hcont _ _ ⟨fun t ht=>by
    have:t≠51:=by omega
    simp [put_at,put_none,this,jl t ht],by (first|simp [j50];done|rfl),by (first|simp [j54];done|rfl),fun _=>by (first|simp;done|rfl),fun h=>by (first|simp [j52 (by simpa using h)];done|rfl),fun h=>by (first|simp [j55 (by simpa using h)];done|rfl),fun h=>by (first|simp [j56 (by simpa using h)];done|rfl),fun h=>by (first|simp [j53 (by simpa using h)];done|rfl),fun h=>by (first|simp [j57 (by simpa using h)];done|rfl),fun h=>by (first|simp [j58 (by simpa using h)];done|rfl),by simp [n7,n9,n11,h6]⟩
   ·rw [if_neg h6]at jG
    subst jG
    unfold XOk
    simp only [gcS]
    simp (disch:=first|omega|simp only [lnS];try omega) [-getElem?_pos,-getElem?_neg,-notTuple,hnt,hnuv,hnv,hcv,nt_mapG,b1s,lb1,j50]
    exact hcont _ _ ⟨fun t ht=>by
    have:t≠51:=by omega
    simp [put_at,put_none,this,jl t ht],by (first|simp [j50];done|rfl),by (first|simp [j54];done|rfl),fun _=>by (first|simp;done|rfl),fun h=>by (first|simp [j52 (by simpa using h)];done|rfl),fun h=>by (first|simp [j55 (by simpa using h)];done|rfl),fun h=>by (first|simp [j56 (by simpa using h)];done|rfl),fun h=>by (first|simp [j53 (by simpa using h)];done|rfl),fun h=>by (first|simp [j57 (by simpa using h)];done|rfl),fun h=>by (first|simp [j58 (by simpa using h)];done|rfl),by simp [n7,n9,n11,h6]⟩
  ·simp only [Bool.and_eq_true,Bool.not_eq_true',List.contains_eq_mem,decide_eq_false_iff_not,decide_eq_true_eq]at hk
   obtain⟨⟨n7,n9⟩,n11⟩:=hk
   rw [if_neg n11,if_neg n9,if_neg n7]at jG
   by_cases h6:6∈D
   ·rw [if_pos h6]at jG
    subst jG
    unfold XOk
    simp only [gcS]
    simp (disch:=first|omega|simp only [lnS];try omega) [-getElem?_pos,-getElem?_neg,-notTuple,hnt,hnuv,hnv,hcv,nt_mapG,b1n,lb2,htz,k32,j7]
    exact hcont _ _ ⟨fun t ht=>by
    have:t≠52:=by omega
    simp [put_at,put_none,this,jl t ht],by (first|simp [j50];done|rfl),by (first|simp [j54];done|rfl),fun h=>by (first|simp [j51 (by simpa using h)];done|rfl),fun _=>by (first|simp;done|rfl),fun h=>by (first|simp [j55 (by simpa using h)];done|rfl),fun h=>by (first|simp [j56 (by simpa using h)];done|rfl),fun h=>by (first|simp [j53 (by simpa using h)];done|rfl),fun h=>by (first|simp [j57 (by simpa using h)];done|rfl),fun h=>by (first|simp [j58 (by simpa using h)];done|rfl),by simp [n7,n9,n11,h6]⟩
   ·rw [if_neg h6]at jG
    subst jG
    unfold XOk
    simp only [gcS]
    simp (disch:=first|omega|simp only [lnS];try omega) [-getElem?_pos,-getElem?_neg,-notTuple,hnt,hnuv,hnv,hcv,nt_mapG,b1n,lb2,htz,k32,j7]
    exact hcont _ _ ⟨fun t ht=>by
    have:t≠52:=by omega
    simp [put_at,put_none,this,jl t ht],by (first|simp [j50];done|rfl),by (first|simp [j54];done|rfl),fun h=>by (first|simp [j51 (by simpa using h)];done|rfl),fun _=>by (first|simp;done|rfl),fun h=>by (first|simp [j55 (by simpa using h)];done|rfl),fun h=>by (first|simp [j56 (by simpa using h)];done|rfl),fun h=>by (first|simp [j53 (by simpa using h)];done|rfl),fun h=>by (first|simp [j57 (by simpa using h)];done|rfl),fun h=>by (first|simp [j58 (by simpa using h)];done|rfl),by simp [n7,n9,n11,h6]⟩
  ·simp only [Bool.and_eq_true,Bool.not_eq_true',List.contains_eq_mem,decide_eq_false_iff_not,decide_eq_true_eq]at hk
   obtain⟨⟨⟨n6,n7⟩,n9⟩,n11⟩:=hk
   rw [if_neg n11,if_neg n9,if_neg n7,if_neg n6]at jG
   subst jG
   unfold XOk
   simp only [gcS]
   simp (disch:=first|omega|simp only [lnS];try omega) [-getElem?_pos,-getElem?_neg,-notTuple,hnt,hnuv,hnv,hcv,nt_mapG,j54,r1']
   exact hcont _ _ ⟨fun t ht=>by
    have:t≠55:=by omega
    simp [put_at,put_none,this,jl t ht],by (first|simp [j50];done|rfl),by (first|simp [j54];done|rfl),fun h=>by (first|simp [j51 (by simpa using h)];done|rfl),fun h=>by (first|simp [j52 (by simpa using h)];done|rfl),fun _=>by (first|simp;done|rfl),fun h=>by (first|simp [j56 (by simpa using h)];done|rfl),fun h=>by (first|simp [j53 (by simpa using h)];done|rfl),fun h=>by (first|simp [j57 (by simpa using h)];done|rfl),fun h=>by (first|simp [j58 (by simpa using h)];done|rfl),by simp [n7,n9,n11]⟩
  ·simp only [Bool.and_eq_true,Bool.not_eq_true',List.contains_eq_mem,decide_eq_false_iff_not,decide_eq_true_eq]at hk
   obtain⟨⟨⟨⟨⟨m3,m4⟩,m6⟩,n7⟩,n9⟩,n11⟩:=hk
   rw [if_neg n11,if_neg n9,if_neg n7,if_pos m6]at jG
   subst jG
   unfold XOk
   simp only [gcS]
   simp (disch:=first|omega|simp only [lnS];try omega) [-getElem?_pos,-getElem?_neg,-notTuple,hnt,hnuv,hnv,hcv,nt_mapG,j51 m3,j52 m4,he]
   exact hcont _ _ ⟨fun t ht=>by
    have:t≠56:=by omega
    simp [put_at,put_none,this,jl t ht],by (first|simp [j50];done|rfl),by (first|simp [j54];done|rfl),fun h=>by (first|simp [j51 (by simpa using h)];done|rfl),fun h=>by (first|simp [j52 (by simpa using h)];done|rfl),fun h=>by (first|simp [j55 (by simpa using h)];done|rfl),fun _=>by (first|simp;done|rfl),fun h=>by (first|simp [j53 (by simpa using h)];done|rfl),fun h=>by (first|simp [j57 (by simpa using h)];done|rfl),fun h=>by (first|simp [j58 (by simpa using h)];done|rfl),by simp [n9,n11]⟩
  ·have hk:7∈D:=by simpa using hk
   unfold XOk
   simp only [gcS]
   simp (disch:=first|omega|simp only [lnS];try omega) [-getElem?_pos,-getElem?_neg,-notTuple,hnt,hnuv,hnv,hcv,nt_mapG,j56 hk]
   exact hcont _ _ ⟨fun t ht=>by
    have:t≠53:=by omega
    simp [put_at,put_none,this,jl t ht],by (first|simp [j50];done|rfl),by (first|simp [j54];done|rfl),fun h=>by (first|simp [j51 (by simpa using h)];done|rfl),fun h=>by (first|simp [j52 (by simpa using h)];done|rfl),fun h=>by (first|simp [j55 (by simpa using h)];done|rfl),fun h=>by (first|simp [j56 (by simpa using h)];done|rfl),fun _=>by (first|simp;done|rfl),fun h=>by (first|simp [j57 (by simpa using h)];done|rfl),fun h=>by (first|simp [j58 (by simpa using h)];done|rfl),by simpa using jG⟩
  ·simp only [Bool.and_eq_true,Bool.not_eq_true',List.contains_eq_mem,decide_eq_false_iff_not,decide_eq_true_eq]at hk
   obtain⟨⟨⟨⟨m6,m7⟩,m8⟩,n9⟩,n11⟩:=hk
   rw [if_neg n11,if_neg n9,if_pos m7]at jG
   subst jG
   unfold XOk
   simp only [gcS]
   simp (disch:=first|omega|simp only [lnS];try omega) [-getElem?_pos,-getElem?_neg,-notTuple,hnt,hnuv,hnv,hcv,nt_mapG,j53 m8,j55 m6,-xappend,hap]
   exact hcont _ _ ⟨fun t ht=>by
    have:t≠57:=by omega
    simp [put_at,put_none,this,jl t ht],by (first|simp [j50];done|rfl),by (first|simp [j54];done|rfl),fun h=>by (first|simp [j51 (by simpa using h)];done|rfl),fun h=>by (first|simp [j52 (by simpa using h)];done|rfl),fun h=>by (first|simp [j55 (by simpa using h)];done|rfl),fun h=>by (first|simp [j56 (by simpa using h)];done|rfl),fun h=>by (first|simp [j53 (by simpa using h)];done|rfl),fun _=>by (first|simp;done|rfl),fun h=>by (first|simp [j58 (by simpa using h)];done|rfl),by simp [n11]⟩
  ·have hk:7∈D:=by simpa using hk
   unfold XOk
   simp only [gcS]
   simp (disch:=first|omega|simp only [lnS];try omega) [-getElem?_pos,-getElem?_neg,-notTuple,hnt,hnuv,hnv,hcv,nt_mapG,j56 hk]
   exact hcont _ _ ⟨fun t ht=>by
    have:t≠58:=by omega
    simp [put_at,put_none,this,jl t ht],by (first|simp [j50];done|rfl),by (first|simp [j54];done|rfl),fun h=>by (first|simp [j51 (by simpa using h)];done|rfl),fun h=>by (first|simp [j52 (by simpa using h)];done|rfl),fun h=>by (first|simp [j55 (by simpa using h)];done|rfl),fun h=>by (first|simp [j56 (by simpa using h)];done|rfl),fun h=>by (first|simp [j53 (by simpa using h)];done|rfl),fun h=>by (first|simp [j57 (by simpa using h)];done|rfl),fun _=>by (first|simp;done|rfl),by simpa using jG⟩
  ·simp only [Bool.and_eq_true,Bool.not_eq_true',List.contains_eq_mem,decide_eq_false_iff_not,decide_eq_true_eq]at hk
   obtain⟨⟨⟨m3,m9⟩,m10⟩,n11⟩:=hk
   rw [if_neg n11,if_pos m9]at jG
   subst jG
   unfold XOk
   simp only [gcS]
   simp (disch:=first|omega|simp only [lnS];try omega) [-getElem?_pos,-getElem?_neg,-notTuple,hnt,hnuv,hnv,hcv,nt_mapG,j51 m3,j57 m9,j58 m10,hst]
   exact hcont _ _ ⟨fun t ht=>by simp [put_none,jl t ht],by (first|simp [j50];done|rfl),by (first|simp [j54];done|rfl),fun h=>by (first|simp [j51 (by simpa using h)];done|rfl),fun h=>by (first|simp [j52 (by simpa using h)];done|rfl),fun h=>by (first|simp [j55 (by simpa using h)];done|rfl),fun h=>by (first|simp [j56 (by simpa using h)];done|rfl),fun h=>by (first|simp [j53 (by simpa using h)];done|rfl),fun h=>by (first|simp [j57 (by simpa using h)];done|rfl),fun h=>by (first|simp [j58 (by simpa using h)];done|rfl),by simp⟩
  ·cases hk
 ·rintro E α' G' ⟨jl,j50,j54,j51,j52,j55,j56,j53,j57,j58,jG⟩ hE
  rw [if_pos (hE 11 (by simp))]at jG
  subst jG
  refine hK _ _ ?_;clear hK K
  have f3:=(jl 3 (by omega)).trans e3
  have f34:=(jl 34 (by omega)).trans e34
  have f35:=(jl 35 (by omega)).trans e35
  have f36:=(jl 36 (by omega)).trans e36
  have f4:=(jl 4 (by omega)).trans e4
  have f42:=(jl 42 (by omega)).trans e42
  have f43:=(jl 43 (by omega)).trans e43
  have f44:=(jl 44 (by omega)).trans e44
  (refine aoo fun K hK=>?_;simp (disch:=first|omega|simp only [lnS];try omega) [-getElem?_pos,-getElem?_neg,f44];refine hK _ _ ?_;clear hK K)
  refine⟨q2-1,by omega,j+1,uput z v' U,by omega,by (first|simp [f3];done|rfl),by (first|simp [f34];done|rfl),by (first|simp [f35];done|rfl),by (first|simp [f36];done|rfl),by (first|simp [f4];done|rfl),by (first|simp [f42];done|rfl),by (first|simp [f43];done|rfl),by (first|simp;done|rfl),by simp;omega,fun t h1 h2=>?_,hget_set_eq (by omega),hUs2.eq (fun k=>(hz k).symm)⟩
  rw [hk2 t h1 h2,b1j t (by omega)]
  exact hAj t h1 h2
end
section
theorem SR.pop{γ:Nat→Option Nat}{nro:Nat}{H:AH}{c:SrC}{F:List Nat}{s:FSt}(h:SR γ nro H c F s){i:Nat}(hi:s.2.getLast?=some i) :
  ∃tdv tv2 q,hget H c.sb=some ⟨[c.tv,.map (some c.mb),.map (some c.ub),.slice (some ⟨c.kb,0,none⟩) c.L.length c.L.length,tdv], 88,none⟩∧notTuple tdv=true∧xlen Tryd.prog 39 tdv=some (.int .i64 (s.2.length:Nat))∧0<s.2.length ∧
   xindexAddr Tryd.prog 39 tdv (.int .i64 ((s.2.length-1:Nat):Int))=some q∧notTuple q=true∧xload Tryd.prog 3 q H=some (.int .i64 (i:Nat)) ∧
   (∀G:AH,xslice Tryd.prog 39 tdv none (some (.int .i64 ((s.2.length-1:Nat):Int))) G=some tv2)∧notTuple tv2=true∧tv2.cells=#[tv2] ∧
   SRQ γ nro H c F (s.1,s.2.dropLast) (.tuple #[]) (H.set c.sb (some ⟨[c.tv,.map (some c.mb),.map (some c.ub),.slice (some ⟨c.kb,0,none⟩) c.L.length c.L.length,tv2], 88,none⟩)):=by
 have e2:=last_split hi
 have hu:und Tryd.prog 39 = .slice 3 := by kernel_rfl
 have hs:szt Tryd.prog 3 = 1:=by kernel_rfl
 have hlen:s.2.length=s.2.dropLast.length+1:=by
  have:=congrArg List.length e2
  simpa using this
 obtain⟨tdv,Fd,hF,hsb,hkb,hsl,htd,hne,hsF,hkF,hm⟩:=h.dy
 have hl:=hget_lt hsb
 have hTn:=htd.nt
 have hgd:s.2.getD (s.2.length-1) 0=i:=by
  rw [gdD]
  rw [List.getLast?_eq_getElem?]at hi
  rw [hi];rfl
 obtain⟨q,q1,q2,q3⟩:=htd.at_ (i:=s.2.length-1) (by omega)
 have q4:=q3 H (fun _ _=>rfl)
 rw [hgd]at q4
 rcases htd with ⟨_,e0,_⟩ | ⟨j,cs,rfl,rfl,h3,h4⟩
 ·rw [e0]at hlen
  simp at hlen
 ·have hdl:s.2.length-1=s.2.dropLast.length:=by omega
  refine⟨_,.slice (some ⟨j,0,none⟩) s.2.dropLast.length s.2.dropLast.length,q,hsb,rfl,hTn.2.2.2,by omega,q1,q2,q4,fun G=>?_,rfl,rfl,h.step ⟨rfl,by simp,fun t ht hn=>hget_set_ne (fun e=>hn (by rw [hF];simp [e])),F,⟨.slice (some ⟨j,0,none⟩) s.2.dropLast.length s.2.dropLast.length,[j],hF,hget_set_eq hl,(hget_set_ne hne).trans hkb,hsl,.inr ⟨j,cs,rfl,rfl,(hget_set_ne (by intro e;exact hsF (by simp [e]))).trans h3,?_⟩,hne,hsF,hkF,?_⟩,fun t ht=>.inl ht⟩⟩
  ·unfold xslice
   simp only [hu,bnd,hs]
   rw [show asInt? (Value.int .i64 ((s.2.length-1:Nat):Int))=some ((s.2.length-1:Nat):Int) from rfl]
   dsimp only
   rw [if_pos ⟨by omega,by omega,by omega,by omega⟩,if_neg (by omega),if_pos trivial]
   simp only [Int.toNat_natCast,Int.toNat_zero,Nat.sub_zero,Nat.zero_mul,Nat.add_zero,hdl]
  ·refine List.IsPrefix.trans ?_ h4
   conv=>rhs;rw [e2]
   unfold tdC
   rw [List.map_append]
   exact List.prefix_append _ _
  ·unfold muF at hm ⊢
   simp only at hm ⊢
   omega
def FolQ(H:AH)(T:List TermD)(ks:List (List Int))(v':Value)(H':AH):Prop:=
 ∃kx kb,v'=.func (.func 44) #[] #[.pointer (some ⟨kx,0,none⟩)]∧Low H.length H H'∧hget H' kx=some ⟨[.slice (some ⟨kb,0,none⟩) T.length T.length], 55,none⟩∧hget H' kb=some ⟨bsC (folL T ks), 4,some 1⟩∧H.length≤kx∧H.length≤kb
theorem fol1_rc{γ:Nat→Option Nat}{H:AH}{kx kb n:Nat}{kn:List Bool}(hx:hget H kx=some ⟨[.slice (some ⟨kb,0,none⟩) n n], 55,none⟩)(hg:hget H kb=some ⟨bsC kn, 4,some 1⟩)(hl:kn.length=n)(hn:n≤1000000){k:List Int}(hk:k.length=32)(hb:By k) :
  AC Tryd.prog H.length γ 44 #[.agg (iv .u8 k).toArray,.pointer (some ⟨kx,0,none⟩)] H (fun v' _=>v'=.bool (fol kn k)):=by
 have htk:(iv .u8 k).take 32=iv .u8 k:=tkL (by simp [hk])
 have lx:=hget_lt hx
 have lg:=hget_lt hg
 have hc:=fun (N:AH)=>follows_rc (γ:=γ) (H:=H++N) ((hget_left lg).trans hg) hl hn hk hb
 refine ac_of_aw Tryd.func44 rfl Tryd.ntmps44 Tryd.results44 (by simp) ?_
 (refine aso fun K hK=>?_;simp (disch:=first|omega|simp only [lnS];try omega) [htk];refine hK _ _ ?_;clear hK K)
 refine aso fun K hK=>?_
 simp (disch:=first|omega|simp only [lnS];try omega) [hx,lx,htk]
 refine⟨by kernel_rfl,ac_of_rc (hc _) (by simp [pv_iv,pv_int,pv_bool,pv_string,pv_tup2,pv_tup3,iv_plain,p2_int,p2_bool,p2_string]) ?_⟩
 try simp (disch:=first|omega|simp only [lnS];try omega)
 refine hK _ _ ?_;clear hK K
 (refine aw_ret ?_;simp (disch:=first|omega|simp only [lnS];try omega))
theorem follow_ac{nro:Nat}{γ:Nat→Option Nat}{H:AH}(hp:Pw γ H){b:Nat}{F:List Nat}{T:List TermD}(h:Tbl H b F T)(hnH:nro≤H.length)(hW:TWf T){v:Value}{ks:List (List Int)}(hK:KsV H v ks)(hk:∀k∈ks,k.length=32)(hkb:∀k∈ks,By k)(hkm:ks.length≤1000000) :
  AC Tryd.prog nro γ 21 #[.pointer (some ⟨b,0,none⟩),v] H (FolQ H T ks):=by
 have hbeg:=begin_ac (nro:=nro) hp h hnH hW.len
 have hacc:=hK.acc hk
 have hnt:=hacc.nt
 have hcs:=hacc.cs
 refine ac_of_aw Tryd.func21 rfl Tryd.ntmps21 Tryd.results21 (by simp) ?_
 (refine aso fun K hK=>?_;simp (disch:=first|omega|simp only [lnS];try omega);refine hK _ _ ?_;clear hK K)
 refine aso fun K hK=>?_
 simp (disch:=first|omega|simp only [lnS];try omega)
 refine⟨by kernel_rfl,AC.mono hbeg ?_⟩
 rintro v1 G0 ⟨c,F0,hcT,rfl,lw0,hS0,hF0⟩
 have hn:c.L.length=T.length:=by rw [←hcT];simp [SrC.T]
 have hTm:=hW.len
 try simp (disch:=first|omega|simp only [lnS];try omega)
 refine hK _ _ ?_;clear hK K
 have hq0:SRQ γ nro G0 c F0 (List.replicate T.length false,[]) (.tuple #[]) G0:=hS0.same (Low.refl (nlE _))
 have hlow:∀ (t:FSt) (G:AH),SRQ γ nro G0 c F0 t (.tuple #[]) G→Low H.length H G:=fun t G q=>⟨fun j hj=>(q.2.2.1 j (by have:=lw0.2;omega) (fun e=>by have:=hF0 j e;omega)).trans (lw0.1 j hj),by have:=lw0.2;have:=q.2.1;omega⟩
 refine aw_seq (aw_seq ?_)
 (refine aoo fun K hK=>?_;simp (disch:=first|omega|simp only [lnS];try omega) [-notTuple,hnt,-xlen,hacc.len];refine hK _ _ ?_;clear hK K)
 refine aw_block ?_
 refine aw_loop (fun q α G=>∃j:Nat,j+q=ks.length∧α 5=.pointer (some ⟨c.sb,0,none⟩)∧α 13=v∧α 14=.int .i64 (ks.length:Nat)∧α 15=.int .i64 (j:Nat)∧SRQ γ nro G0 c F0 ((ks.take j).foldl lrn (List.replicate T.length false,[])) (.tuple #[]) G) ks.length ?_ ?_
 ·exact⟨0,by omega,by (first|simp;done|rfl),by (first|simp;done|rfl),by (first|simp;done|rfl),by (first|simp;done|rfl),hq0⟩
 rintro q α G ⟨j,hjq,h5,h13,h14,h15,hq⟩
 refine aw_seq ?_
 by_cases hj:j<ks.length
 ·have lwG:=hlow _ _ hq
  obtain⟨_,hGl,hGk,F1,hS,hF1⟩:=hq
  obtain⟨q1,y,r1,r2,r3',r4,r5⟩:=hacc.at_ j hj
  have r5:=r5 G lwG
  subst r4
  have hfd:=fold_take (f:=lrn) (b:=(List.replicate T.length false,([]:List Nat))) (d:=[]) hj
  obtain⟨k32,kby⟩:(ks.getD j []).length=32∧By (ks.getD j []):=by
   rw [gdD,geE hj]
   exact⟨hk _ (List.getElem_mem hj),hkb _ (List.getElem_mem hj)⟩
  generalize ks.getD j []=z at *
  have htz:(iv .u8 z).take 32=iv .u8 z:=tkL (by simp [k32])
  have hsz:setR (iv .u8 (zl 32)) 0 (iv .u8 z)=iv .u8 z:=setR_all _ _ (by simp [k32])
  have hng:nro≤G.length:=by have:=lwG.2;omega
  (refine aoo fun K hK=>?_;simp (disch:=first|omega|simp only [lnS];try omega) [h14,h15,hj];refine hK _ _ ?_;clear hK K)
  refine aw_seq ?_
  refine awt (by simp [hj]<;>omega) ?_
  refine aw_skip (aw_seq ?_)
  refine aw_block ?_
  (refine aso fun K hK=>?_;simp (disch:=first|omega|simp only [lnS];try omega) [h13,h15,-xindexAddr,r1,r2,-xload,r5,-notTuple,hnt,htz,hsz,k32,hng];refine hK _ _ ?_;clear hK K)
  have hz:=learnS_ac (hS.push [some ⟨iv .u8 z, 41,none⟩]) k32 kby
  refine aoo fun K hK=>?_
  simp (disch:=first|omega|simp only [lnS];try omega) [h5,htz,k32]
  refine⟨by kernel_rfl,AC.mono hz ?_⟩
  intro v' A q2
  obtain rfl:=q2.1
  try simp (disch:=first|omega|simp only [lnS];try omega)
  refine hK _ _ ?_;clear hK K
  (refine aoo fun K hK=>?_;simp (disch:=first|omega|simp only [lnS];try omega) [h15];refine hK _ _ ?_;clear hK K)
  refine⟨q-1,by omega,j+1,by omega,by (first|simp [h5];done|rfl),by (first|simp [h13];done|rfl),by (first|simp [h14];done|rfl),by (first|simp;done|rfl),?_⟩
  rw [hfd]
  exact (q2.up ⟨fun j hj=>hget_left hj,by simp⟩ hS.bound).then_ hGl hGk hF1
 (refine aoo fun K hK=>?_;simp (disch:=first|omega|simp only [lnS];try omega) [h14,h15,hj];refine hK _ _ ?_;clear hK K)
 refine aw_seq ?_
 refine awf (by simp [hj]<;>omega) ?_
 refine aw_exit ?_
 obtain rfl:j=ks.length:=by omega
 rw [List.take_length]at hq
 have hseed:ks.foldl lrn (List.replicate T.length false,[])=seedS T.length ks:=rfl
 rw [hseed]at hq
 clear h13 h14 h15
 have hq1:=hq
 have hseedw:∀t:FSt,FExt (seedS T.length ks) t→∀p∈t.2,p<T.length:=fun t ht=>by
  have hx:FExt (List.replicate T.length false,[]) t:=FExt.trans (foldl_ext lrn_ext ks _) ht
  obtain⟨M,e1,_,e3⟩:=hx.new
  intro p hp
  rw [e1]at hp
  simpa using (e3 p (by simpa using hp)).2
 obtain⟨tdv1,s1b,s1n,_,_,_,hnt2,hcs2⟩:=hq1.2.2.2.elim fun F1 h=>h.1.blocks
 have hxl:=hS0.st.tb.tvlen.1
 have l1b:=hget_lt s1b
 refine aw_seq (aw_seq ?_)
 (refine aoo fun K hK=>?_;simp (disch:=first|omega|simp only [lnS];try omega) [h5,s1b,l1b,-notTuple,hnt2,s1n,-xlen,hxl,nt_mapG];refine hK _ _ ?_;clear hK K)
 refine aw_block ?_
 refine aw_loop (fun q α G=>∃j:Nat,j+q=c.L.length∧α 5=.pointer (some ⟨c.sb,0,none⟩)∧α 27=.int .i64 (c.L.length:Nat)∧α 28=.int .i64 (j:Nat)∧SRQ γ nro G0 c F0 (((List.range c.L.length).take j).foldl (tryS c.T) (seedS T.length ks)) (.tuple #[]) G) c.L.length ?_ ?_
 ·exact⟨0,by omega,by (first|simp [h5];done|rfl),by (first|simp;done|rfl),by (first|simp;done|rfl),hq⟩
 clear h5 s1b l1b
 rintro q α G ⟨j,hjq,h5,h27,h28,hq⟩
 refine aw_seq ?_
 by_cases hj:j<c.L.length
 ·obtain⟨_,hGl,hGk,F1,hS,hF1⟩:=hq
  have hfd:=fold_take (f:=tryS c.T) (b:=seedS T.length ks) (d:=0) (l:=List.range c.L.length) (i:=j) (by simpa using hj)
  have hgd:(List.range c.L.length).getD j 0=j:=by
   rw [gdD,List.getElem?_range hj];rfl
  rw [hgd]at hfd
  (refine aoo fun K hK=>?_;simp (disch:=first|omega|simp only [lnS];try omega) [h27,h28,hj];refine hK _ _ ?_;clear hK K)
  refine aw_seq ?_
  refine awt (by simp [hj]<;>omega) ?_
  refine aw_skip (aw_seq ?_)
  refine aw_block ?_
  (refine aso fun K hK=>?_;simp (disch:=first|omega|simp only [lnS];try omega) [h28];refine hK _ _ ?_;clear hK K)
  refine aoo fun K hK=>?_
  simp (disch:=first|omega|simp only [lnS];try omega) [h5]
  refine⟨by kernel_rfl,AC.mono (try_ac hS hj) ?_⟩
  intro v' A q2
  obtain rfl:=q2.1
  try simp (disch:=first|omega|simp only [lnS];try omega)
  refine hK _ _ ?_;clear hK K
  (refine aoo fun K hK=>?_;simp (disch:=first|omega|simp only [lnS];try omega) [h28];refine hK _ _ ?_;clear hK K)
  refine⟨q-1,by omega,j+1,by omega,by (first|simp [h5];done|rfl),by (first|simp [h27];done|rfl),by (first|simp;done|rfl),?_⟩
  rw [hfd]
  exact q2.then_ hGl hGk hF1
 (refine aoo fun K hK=>?_;simp (disch:=first|omega|simp only [lnS];try omega) [h27,h28,hj];refine hK _ _ ?_;clear hK K)
 refine aw_seq ?_
 refine awf (by simp [hj]<;>omega) ?_
 refine aw_exit ?_
 obtain rfl:j=c.L.length:=by omega
 rw [tkL (by simp),hn,hcT]at hq
 have hpass:(List.range T.length).foldl (tryS T) (seedS T.length ks)=passS T ks:=rfl
 rw [hpass]at hq
 obtain⟨hip,hmp⟩:=inv_pass hW ks
 have hwp:∀p∈(passS T ks).2,p<T.length:=hseedw _ (foldl_ext (tryS_ext T) _ _)
 refine aw_seq ?_
 refine aw_block ?_
 refine aw_loop (fun q α G=>∃t:FSt,α 5=.pointer (some ⟨c.sb,0,none⟩)∧SRQ γ nro G0 c F0 t (.tuple #[]) G∧runS T q t=runS T T.length (passS T ks)∧muF t≤q∧∀p∈t.2,p<T.length) T.length ?_ ?_
 ·exact⟨passS T ks,by (first|simp [h5];done|rfl),hq,rfl,by omega,hwp⟩
 clear h5 h27 h28 hq
 rintro q α G ⟨t,h5,hq,hrun,hmu,hwt⟩
 have lwG:=hlow _ _ hq
 obtain⟨_,hGl,hGk,F1,hS,hF1⟩:=hq
 obtain⟨tdv,Fd,hF,hsb,hkb,hsl,htd,hne,hsF,hkF,hm9⟩:=hS.dy
 have hTn:=htd.nt
 have lsb:=hget_lt hsb
 refine aw_seq (aw_seq ?_)
 by_cases h0:0<t.2.length
 ·obtain⟨i,hi⟩:∃i,t.2.getLast?=some i:=by
   cases hg:t.2.getLast? with
   | some i=>exact⟨i,rfl⟩
   | none=>rw [List.getLast?_eq_none_iff.1 hg]at h0;simp at h0
  obtain⟨tdv',tv2,q1,b1,b2,b3,_,b4,b5,b6,b7,b8,b9,b10⟩:=hS.pop hi
  have e0:tdv'=tdv:=by
   rw [hsb]at b1
   simp at b1
   exact b1.symm
  subst e0
  have hin:i<T.length:=hwt i (by rw [last_split hi];simp)
  obtain⟨q',rfl⟩:∃q',q=q'+1:=⟨q-1,by unfold muF at hmu;omega⟩
  have hrun2:runS T (q'+1) t=runS T q' (useS T (t.1,t.2.dropLast) i):=by
   conv=>lhs;unfold runS
   rw [hi]
  have hlen1:t.2.length=t.2.dropLast.length+1:=by
   have:=congrArg List.length (last_split hi)
   simpa using this
  have hsub:((t.2.length:Int)-1)=((t.2.length-1:Nat):Int):=by omega
  have hmt:t.2.length≤1000000:=by unfold muF at hm9;omega
  have ld4:xload Tryd.prog 39 (.pointer (some ⟨c.sb,4,none⟩)) G=some tdv':=by simp [xload,hsb]
  have hi0:(0:Int)<(t.2.length:Int):=by omega
  have hwx:∀p∈(useS T (t.1,t.2.dropLast) i).2,p<T.length:=by
   obtain⟨M,e1,_,e3⟩:=(useS_ext T (t.1,t.2.dropLast) i).new
   intro p hp
   rw [e1]at hp
   rcases maP.1 hp with hp | hp
   ·exact hwt p ((List.dropLast_sublist _).subset hp)
   ·have:=(e3 p hp).2
    simp only at this
    omega
  have hmx:muF (useS T (t.1,t.2.dropLast) i)≤q':=by
   rw [(useS_ext T _ i).mu]
   unfold muF at hmu ⊢
   simp only
   omega
  have hsn:nro≤c.sb:=hS.nr _ (by rw [hF];simp)
  generalize hNn:t.2.length=N at *
  generalize N-1=N1 at *
  (refine aoo fun K hK=>?_;simp (disch:=first|omega|simp only [lnS];try omega) [h5,hsb,lsb,-notTuple,hnt2,hTn.1,-xlen,hTn.2.2.2,nt_mapG,h0,hi0];refine hK _ _ ?_;clear hK K)
  refine awt (by simp [h0]<;>omega) ?_
  refine aw_skip ?_
  refine aw_block ?_
  refine aw_seq ?_
  (refine aw_plan [] [] [0,1,2,3,4,5,6,7,8,9,10,11,12] 13 0 (by kernel_rfl) (by kernel_rfl) (by kernel_rfl) (fun K hK=>?_));simp only [sel,gcS,gdZ];simp (disch:=first|omega|simp only [lnS];try omega) [h5,-xload,ld4,b6,-xlen,b3,-xindexAddr,b4,b5,b2,hsub,-notTuple,Nat.add_assoc]
  refine hK _ _ ?_;clear hK K
  refine aw_seq ?_
  (refine aw_plan [] [] [0,1,2,3,4,5,6,7,8,9,10,11,12,13] 14 1 (by kernel_rfl) (by kernel_rfl) (by kernel_rfl) (fun K hK=>?_));simp only [sel,gcS,gdZ];simp (disch:=first|omega|simp only [lnS];try omega) [h5,-xload,ld4,-xlen,b3,-xslice,b7,b8,b9,hsb,lsb,hsub,b2,hsn,-notTuple,hnt2,nt_mapG,Nat.add_assoc]
  refine hK _ _ ?_;clear hK K
  obtain⟨_,hDl,hDk,F2,hS2,hF2⟩:=b10
  have huse:=use_ac hS2 (i:=i) (by omega)
  rw [hcT]at huse
  generalize G.set c.sb (some ⟨[c.tv,.map (some c.mb),.map (some c.ub),.slice (some ⟨c.kb,0,none⟩) c.L.length c.L.length,tv2], 88,none⟩)=D at *
  refine aoo fun K hK=>?_
  simp (disch:=first|omega|simp only [lnS];try omega) [h5]
  refine⟨by kernel_rfl,AC.mono huse ?_⟩
  intro v' A q2
  obtain rfl:=q2.1
  try simp (disch:=first|omega|simp only [lnS];try omega)
  refine hK _ _ ?_;clear hK K
  exact⟨q',by omega,_,by (first|simp [h5];done|rfl),(q2.then_ hDl hDk hF2).then_ hGl hGk hF1,hrun2.symm.trans hrun,hmx,hwx⟩
 ·have ht0:t.2=[]:=List.eq_nil_of_length_eq_zero (by omega)
  have hfin:t.1=folL T ks:=by
   have:runS T q t=t:=by
    cases q with
    | zero=>rfl
    | succ q=>unfold runS;rw [ht0];rfl
   rw [this]at hrun
   unfold folL
   rw [hrun]
  have hi0:¬ ((0:Int)<(t.2.length:Int)):=by omega
  (refine aoo fun K hK=>?_;simp (disch:=first|omega|simp only [lnS];try omega) [h5,hsb,lsb,-notTuple,hnt2,hTn.1,-xlen,hTn.2.2.2,nt_mapG,h0,hi0];refine hK _ _ ?_;clear hK K)
  refine awf (by simp [h0]<;>omega) ?_
  refine aw_exit (aw_seq ?_)
  have hng:nro≤G.length:=by have:=lwG.2;have:=hnH;omega
  have p1:plain1 (.slice none 0 0)=true:=rfl
  (refine aoo fun K hK=>?_;simp (disch:=first|omega|simp only [lnS];try omega) [h5,hsb,lsb,-notTuple,hnt2,hTn.1,nt_mapG,hng,p1];refine hK _ _ ?_;clear hK K)
  (refine aso fun K hK=>?_;simp (disch:=first|omega|simp only [lnS];try omega);refine hK _ _ ?_;clear hK K)
  (refine aw_ret ?_;simp (disch:=first|omega|simp only [lnS];try omega))
  have hFb:=hS.bound
  have hk2:c.kb∈F1:=by rw [hF];simp
  refine⟨G.length,c.kb,rfl,⟨fun j hj=>(hget_left (by have:=lwG.2;omega)).trans (lwG.1 j hj),by have:=lwG.2;simp;omega⟩,?_,?_,lwG.2,?_⟩
  ·rw [hget_app0,hn];rfl
  ·rw [hget_left (hFb _ hk2),←hfin]
   exact hkb
  ·rcases hF1 _ hk2 with e | e
   ·exact hF0 _ e
   ·have:=lw0.2;omega
end
section
def openT(T:List TermD)(k y:List Int)(box:ByteArray):Option (ByteArray×List (List Int)):=
 if box.size=32 then (match findT T (nums box) with
  | some x=>if x.kind=6∧k0 x=k∧k1 x=y then some (x.text,x.keys.drop 2) else none
  | none=>none) else none
def OpenQ(H:AH)(T:List TermD)(k y:List Int)(box:ByteArray)(v':Value)(H':AH):Prop:=
 Low H.length H H'∧match openT T k y box with
  | none=>v'=.tuple #[.string ⟨#[]⟩,.slice none 0 0,.bool false]
  | some (s,ks)=>∃kv,v'=.tuple #[.string s,kv,.bool true]∧OwnK H.length H' kv ks
theorem OwnK.less{lo lo':Nat}{H:AH}{v:Value}{ks:List (List Int)}(h:OwnK lo H v ks)(hl:lo'≤lo):OwnK lo' H v ks:=by
 rcases h with h | ⟨j,cs,h1,h2⟩
 ·exact .inl h
 ·exact .inr ⟨j,cs,by omega,h2⟩
theorem PartK.keep{H H':AH}{lo lo':Nat}{x:Value}{ks:List (List Int)}(h:PartK H lo x ks)(hl:lo≤lo')(hg:∀j,j<lo→hget H' j=hget H j):PartK H' lo' x ks:=
 ⟨h.1,fun G hG=>h.2 G (fun j hj=>(hG j (by omega)).trans (hg j hj))⟩
def opJD:List Nat:=[48,49,50,51,52,53,8,9,10]
def opJP:List (List Nat):=[[],[0],[],[2],[3],[4],[1],[5],[]]
def opJV(gl lo:Nat)(st:ByteArray)(kv sv:Value)(ds:List (List Int))(G:AH)(i:Nat)(v:Value):Prop:=match i with
 | 0=>v=.pointer (some ⟨gl,1,none⟩)
 | 1=>v=.string st
 | 2=>v=.pointer (some ⟨gl,2,none⟩)
 | 3=>v=kv
 | 4=>v=sv
 | 5=>OwnK lo G v ds
 | 6=>v=.string st
 | 7=>OwnK lo G v ds
 | 8=>v=.bool true
 | _=>True
theorem cloneP_ac{nro:Nat}{γ:Nat→Option Nat}{H:AH}{v:Value}{ks:List (List Int)}(hv:PartK H H.length v ks)(hk:K32 ks)(hc:ks.length≤1000000)(hnro:nro≤H.length) :
  AC Tryd.prog nro γ 32 #[v] H (fun v' H'=>OwnK H.length H' v' ks∧Low H.length H H'):=by
 obtain⟨⟨a,c,rfl⟩,hx⟩:=hv
 cases a with
 | none=>
  have h0:ks=[]:=by
   have:=hx H (fun _ _=>rfl)
   cases hks:ks.length with
   | zero=>exact List.eq_nil_of_length_eq_zero hks
   | succ n=>
    rw [hks]at this
    simp [xcells]at this
  subst h0
  refine ac_of_aw Tryd.func32 rfl Tryd.ntmps32 Tryd.results32 (by simp) ?_
  (refine aso fun K hK=>?_;simp (disch:=first|omega|simp only [lnS];try omega);refine hK _ _ ?_;clear hK K)
  refine aw_seq (aw_seq ?_)
  (refine aoo fun K hK=>?_;simp (disch:=first|omega|simp only [lnS];try omega);refine hK _ _ ?_;clear hK K)
  refine awt (by simp<;>omega) ?_
  (refine aso fun K hK=>?_;simp (disch:=first|omega|simp only [lnS];try omega);refine hK _ _ ?_;clear hK K)
  (refine aw_ret ?_;simp (disch:=first|omega|simp only [lnS];try omega))
  exact⟨.inl ⟨rfl,rfl⟩,Low.refl (nlE _)⟩
 | some a=>
  have ho0:OwnK H.length (H++[some ⟨[], 41,some 32⟩]) (.slice (some ⟨H.length,0,none⟩) 0 0) []:=.inr ⟨H.length,[],nlE _,rfl,by rw [hget_app0];rfl,List.prefix_rfl⟩
  obtain⟨v7,G3,hap,ho3,hl3,hk3⟩:=ownK_append (nro:=nro) (x:=.slice (some a) ks.length c) (fun k hk=>(by cases hk)) hk ho0 hnro (by simp) (fun s e=>by cases e) (hx _ (fun j hj=>hget_left hj)) (by simp;omega)
  have hnt7:=ho3.nt
  refine ac_of_aw Tryd.func32 rfl Tryd.ntmps32 Tryd.results32 (by simp) ?_
  (refine aso fun K hK=>?_;simp (disch:=first|omega|simp only [lnS];try omega);refine hK _ _ ?_;clear hK K)
  refine aw_seq (aw_seq ?_)
  (refine aoo fun K hK=>?_;simp (disch:=first|omega|simp only [lnS];try omega);refine hK _ _ ?_;clear hK K)
  refine awf (by simp<;>omega) ?_
  refine aw_skip (aw_seq ?_)
  (refine aoo fun K hK=>?_;simp (disch:=first|omega|simp only [lnS];try omega) [-xappend,hap,hnt7.1,hnt7.2,-notTuple];refine hK _ _ ?_;clear hK K)
  (refine aw_ret ?_;simp (disch:=first|omega|simp only [lnS];try omega) [hnt7.1,hnt7.2])
  simp only [laP,List.length_cons,List.length_nil]at hl3
  rw [List.nil_append]at ho3
  exact⟨ho3,fun j hj=>(hk3 j hj).trans (hget_left hj),by omega⟩
theorem open_ac{nro:Nat}{γ:Nat→Option Nat}{H:AH}{b:Nat}{F:List Nat}{T:List TermD}(h:Tbl H b F T)(hnH:nro≤H.length){k y:List Int}(hk:k.length=32)(hy:y.length=32){s:ByteArray}(hs1:s.size≤10000000) :
  AC Tryd.prog nro γ 55 #[.pointer (some ⟨b,0,none⟩),.agg (iv .u8 k).toArray,.agg (iv .u8 y).toArray,.string s] H (OpenQ H T k y s):=by
 obtain⟨mb,tv,Ft,Fk,L,rfl,hL,rfl,hFl⟩:=h
 have htk:(iv .u8 k).take 32=iv .u8 k:=tkL (by simp [hk])
 have hty:(iv .u8 y).take 32=iv .u8 y:=tkL (by simp [hy])
 have hs9:s.size≤9223372036854775807:=by omega
 by_cases h32:s.size=32
 case neg=>
  have hb32:((s.size:Int)==32)=false:=by rw [beq_eq_false_iff_ne];omega
  have hi32:¬ (s.size:Int)=32:=by omega
  have hop:openT (L.map (·.2)) k y s=none:=by unfold openT;rw [if_neg h32]
  refine ac_of_aw Tryd.func55 rfl Tryd.ntmps55 Tryd.results55 (by simp) ?_
  (refine aso fun K hK=>?_;simp (disch:=first|omega|simp only [lnS];try omega) [htk,hty];refine hK _ _ ?_;clear hK K)
  refine aw_seq (aw_seq ?_)
  (refine aoo fun K hK=>?_;simp (disch:=first|omega|simp only [lnS];try omega) [hs9,hi32,hb32];refine hK _ _ ?_;clear hK K)
  refine awt (by simp<;>omega) ?_
  (refine aso fun K hK=>?_;simp (disch:=first|omega|simp only [lnS];try omega);refine hK _ _ ?_;clear hK K)
  (refine aw_ret ?_;simp (disch:=first|omega|simp only [lnS];try omega))
  exact⟨Low.push (nlE _) _,by rw [hop]⟩
 have hb32:((s.size:Int)==32)=true:=by rw [h32];rfl
 have hi32:(s.size:Int)=32:=by rw [h32];rfl
 have ln:(nums s).length=32:=by rw [nums_len,h32]
 have htn:(iv .u8 (nums s)).take 32=iv .u8 (nums s):=tkL (by simp [ln])
 have hf:=fun (N:AH)=>find_ac (nro:=nro) (γ:=γ) (hL.low (G:=H++N) (fun j hj=>hget_left (hFl j hj))) ln (nums_bd s)
 have hcase:=findV_T L (nums s)
 have p1:plain1 (.slice none 0 0)=true:=rfl
 have r3:List.range 3=[0,1,2]:=rfl
 generalize findV L (nums s)=fv at *
 rcases hcase with ⟨⟨kv,x⟩,hp,rfl,hft⟩ | ⟨rfl,hft⟩
 ·have hkn:=hL.key_nt hp
  have hw:x.Wf:=hL.wf _ hp
  obtain⟨Fx,hox,hFx⟩:=hL.keys _ hp
  have hxl:∀j∈Fx,j<H.length:=fun j hj=>hFl j (by simp [hFx j hj])
  have h6k:=hw.seal_
  have hmk:=hw.many
  have hop:openT (L.map (·.2)) k y s=if x.kind=6∧k0 x=k∧k1 x=y then some (x.text,x.keys.drop 2) else none:=by unfold openT;rw [if_pos h32,hft]
  unfold k0 k1 at hop
  unfold tmRow at *
  refine ac_of_aw Tryd.func55 rfl Tryd.ntmps55 Tryd.results55 (by simp) ?_
  (refine aso fun K hK=>?_;simp (disch:=first|omega|simp only [lnS];try omega) [htk,hty];refine hK _ _ ?_;clear hK K)
  refine aw_seq (aw_seq ?_)
  (refine aoo fun K hK=>?_;simp (disch:=first|omega|simp only [lnS];try omega) [hs9,hi32,hb32];refine hK _ _ ?_;clear hK K)
  refine awf (by simp<;>omega) ?_
  refine aw_skip (aw_seq ?_)
  refine aoo fun K hK=>?_
  simp (disch:=first|omega|simp only [lnS];try omega) [h32,ln,htn]
  refine⟨by kernel_rfl,AC.mono (hf _) ?_⟩
  rintro _ G ⟨rfl,lw⟩
  have hGl:=lw.2
  rw [laP]at lw hGl
  simp only [List.length_cons,List.length_nil]at lw hGl
  have gk:hget G H.length=some ⟨iv .u8 k, 41,none⟩:=(lw.1 _ (by omega)).trans (by rw [hget_app0];rfl)
  have gy:hget G (H.length+1)=some ⟨iv .u8 y, 41,none⟩:=(lw.1 _ (by omega)).trans (by rw [hget_app];rfl)
  have lwH:Low H.length H G:=⟨fun j hj=>(lw.1 j (by omega)).trans (hget_left hj),by omega⟩
  have hng:nro≤G.length:=by omega
  try simp (disch:=first|omega|simp only [lnS];try omega) [p1,r3,hng,-notTuple,hkn.1,hkn.2]
  refine hK _ _ ?_;clear hK K
  obtain⟨A,hA⟩:∃A:AH,A=G++[some ⟨[.int .i64 (x.kind:Nat),.string x.text,kv], 92,none⟩]:=⟨_,rfl⟩
  have aG:hget A G.length=some ⟨[.int .i64 (x.kind:Nat),.string x.text,kv], 92,none⟩:=by rw [hA,hget_app0];rfl
  have ak:hget A H.length=some ⟨iv .u8 k, 41,none⟩:=by rw [hA,hget_left (hget_lt gk)];exact gk
  have ay:hget A (H.length+1)=some ⟨iv .u8 y, 41,none⟩:=by rw [hA,hget_left (hget_lt gy)];exact gy
  have aj:∀j,j<H.length→hget A j=hget H j:=fun j hj=>by rw [hA,hget_left (by omega)];exact lwH.1 j hj
  have al:A.length=G.length+1:=by rw [hA];simp
  have lwA:Low H.length H A:=⟨aj,by omega⟩
  rw [←hA]
  clear hA
  have lA:=hget_lt aG
  have la:=hget_lt ak
  have lb:=hget_lt ay
  have ldt:xload Tryd.prog 3 (.pointer (some ⟨G.length,0,none⟩)) A=some (.int .i64 (x.kind:Nat)):=by simp [xload,aG]
  have lds:xload Tryd.prog 9 (.pointer (some ⟨G.length,1,none⟩)) A=some (.string x.text):=by simp [xload,aG]
  have ldk:xload Tryd.prog 34 (.pointer (some ⟨G.length,2,none⟩)) A=some kv:=by simp [xload,aG]
  have ld1:xload Tryd.prog 41 (.pointer (some ⟨H.length,0,none⟩)) A=some (.agg (iv .u8 k).toArray):=by simp [xload,ak,hk,htk]
  have ld2:xload Tryd.prog 41 (.pointer (some ⟨H.length+1,0,none⟩)) A=some (.agg (iv .u8 y).toArray):=by simp [xload,ay,hy,hty]
  refine aw_seq (aw_seq ?_)
  by_cases h6:x.kind=6
  case neg=>
   have b6:((x.kind:Int)==6)=false:=by rw [beq_eq_false_iff_ne];omega
   have i6:¬ (x.kind:Int)=6:=by omega
   rw [if_neg (fun e=>h6 e.1)]at hop
   (refine aw_plan [] [] [0,1,2,3,4,5,6,7,8,9,10,11,12,13,14,15,16,17,18,19,20,21,22] 23 0 (by kernel_rfl) (by kernel_rfl) (by kernel_rfl) (fun K hK=>?_));simp only [sel,gcS,gdZ];simp (disch:=first|omega|simp only [lnS];try omega) [-xload,ldt,b6,i6,-notTuple,Nat.add_assoc]
   refine hK _ _ ?_;clear hK K
   refine awt (by simp<;>omega) ?_
   (refine aso fun K hK=>?_;simp (disch:=first|omega|simp only [lnS];try omega);refine hK _ _ ?_;clear hK K)
   (refine aw_ret ?_;simp (disch:=first|omega|simp only [lnS];try omega))
   exact⟨lwA,by rw [hop]⟩
  have h2:=h6k h6
  have b6:((x.kind:Int)==6)=true:=by rw [h6];rfl
  have i6:(x.kind:Int)=6:=by omega
  have hoA:=hox.low (H':=A) (fun j hj=>aj j (hxl j hj))
  have hKA:KsV A kv x.keys:=kr_ksv hoA hw.k32
  have hacc:=hKA.acc hw.k32
  obtain⟨q0,y0,t1,t2,t3,t4,t5⟩:=hacc.at_ 0 (by omega)
  obtain⟨q1,y1,u1,u2,u3,u4,u5⟩:=hacc.at_ 1 (by omega)
  have t2:xindexAddr Tryd.prog 34 kv (.int .i64 0)=some q0:=t2
  have u2:xindexAddr Tryd.prog 34 kv (.int .i64 1)=some q1:=u2
  have t5:=t5 A (Low.refl (nlE _))
  have u5:=u5 A (Low.refl (nlE _))
  subst t4 u4
  have z0:(x.keys.getD 0 []).length=32:=by
   rw [gdD,geE (by omega)]
   exact hw.k32 _ (List.getElem_mem _)
  have z1:(x.keys.getD 1 []).length=32:=by
   rw [gdD,geE (by omega)]
   exact hw.k32 _ (List.getElem_mem _)
  obtain⟨sv,v1,v2,v3,v4,v5,_⟩:=suf_keys hoA hw.k32 h2
  have hdk:K32 (x.keys.drop 2):=fun z hz=>hw.k32 z (List.mem_of_mem_drop hz)
  have hdm:(x.keys.drop 2).length≤1000000:=by rw [List.length_drop];omega
  have hsl:=v1 A
  generalize x.keys.getD 0 []=c0 at *
  generalize x.keys.getD 1 []=c1 at *
  generalize x.keys.drop 2=ds at *
  generalize x.kind=kd at *
  subst h6
  by_cases e0:c0=k
  case neg=>
   have c0b:(c0==k)=false:=by simpa using e0
   rw [if_neg (fun e=>e0 e.2.1)]at hop
   (refine aw_plan [] [] [0,1,2,3,4,5,6,7,8,9,10,11,12,13,14,15,16,17,18,19,20,21,22] 23 0 (by kernel_rfl) (by kernel_rfl) (by kernel_rfl) (fun K hK=>?_));simp only [sel,gcS,gdZ];simp (disch:=first|omega|simp only [lnS];try omega) [-xload,ldt,ldk,ld1,t5,-xindexAddr,t1,t2,b6,i6,z0,hk,e0,c0b,-notTuple,hkn.1,Nat.add_assoc]
   refine hK _ _ ?_;clear hK K
   refine awt (by simp<;>omega) ?_
   (refine aso fun K hK=>?_;simp (disch:=first|omega|simp only [lnS];try omega);refine hK _ _ ?_;clear hK K)
   (refine aw_ret ?_;simp (disch:=first|omega|simp only [lnS];try omega))
   exact⟨lwA,by rw [hop]⟩
  subst e0
  by_cases e1:c1=y
  case neg=>
   have c1b:(c1==y)=false:=by simpa using e1
   rw [if_neg (fun e=>e1 e.2.2)]at hop
   (refine aw_plan [] [] [0,1,2,3,4,5,6,7,8,9,10,11,12,13,14,15,16,17,18,19,20,21,22] 23 0 (by kernel_rfl) (by kernel_rfl) (by kernel_rfl) (fun K hK=>?_));simp only [sel,gcS,gdZ];simp (disch:=first|omega|simp only [lnS];try omega) [-xload,ldt,ldk,ld1,ld2,t5,u5,-xindexAddr,t1,t2,u1,u2,b6,i6,z0,z1,hk,hy,e1,c1b,-notTuple,hkn.1,Nat.add_assoc]
   refine hK _ _ ?_;clear hK K
   refine awt (by simp<;>omega) ?_
   (refine aso fun K hK=>?_;simp (disch:=first|omega|simp only [lnS];try omega);refine hK _ _ ?_;clear hK K)
   (refine aw_ret ?_;simp (disch:=first|omega|simp only [lnS];try omega))
   exact⟨lwA,by rw [hop]⟩
  subst e1
  rw [if_pos ⟨rfl,rfl,rfl⟩]at hop
  (refine aw_plan [] [] [0,1,2,3,4,5,6,7,8,9,10,11,12,13,14,15,16,17,18,19,20,21,22] 23 0 (by kernel_rfl) (by kernel_rfl) (by kernel_rfl) (fun K hK=>?_));simp only [sel,gcS,gdZ];simp (disch:=first|omega|simp only [lnS];try omega) [-xload,ldt,ldk,ld1,ld2,t5,u5,-xindexAddr,t1,t2,u1,u2,b6,i6,z0,z1,hk,hy,-notTuple,hkn.1,Nat.add_assoc]
  refine hK _ _ ?_;clear hK K
  refine awf (by simp<;>omega) ?_
  refine aw_skip (aw_seq ?_)
  obtain⟨gl,hgl⟩:∃gl,gl=G.length:=⟨_,rfl⟩
  rw [←hgl]at aG lA
  refine name_aw (fun β hβ=>?_)
  have e11:β 11=.pointer (some ⟨gl,0,none⟩):=by rw [hβ,hgl];(first|simp;done|rfl)
  clear hβ
  have hND:opJD.Nodup:=by decide
  have hST:∀ (G1 G2:AH) (i:Nat) (v:Value),G1.length≤G2.length→(∀j,j<G1.length→hget G2 j=hget G1 j)→opJV gl A.length x.text kv sv ds G1 i v→opJV gl A.length x.text kv sv ds G2 i v:=fun G1 G2 i v h1 h2 h=>by
   unfold opJV at h ⊢
   split at h <;> first | exact h | exact h.low (fun j _ hj=>h2 j hj)
  generalize x.text=st at *
  refine aw_inv opJP (IJ opJD (opJV gl A.length st kv sv ds) β A) (by kernel_rfl) (by kernel_rfl) (by kernel_rfl) (IJ.start rfl) ?_ ?_
  ·intro i s α G k hJ hi0 hsi hd hc hcont
   have j11:=(hJ.lo 11 (by decide)).trans e11
   have gA:=(hJ.lw.2 gl lA).trans aG
   have lgA:=hget_lt gA
   have hi:i=0∨i=1∨i=2∨i=3∨i=4∨i=5∨i=6∨i=7∨i=8:=by have hi0:i<9:=hi0;omega
   rcases hi with rfl | rfl | rfl | rfl | rfl | rfl | rfl | rfl | rfl
   ·simp (disch:=first|omega|simp only [lnS];try omega) [-notTuple,hkn.1,j11]
    exact hcont _ _ (hJ.put hND hST rfl (nlE _) (fun _ _=>rfl) rfl)
   ·have f0:α 48=.pointer (some ⟨gl,1,none⟩):=hJ.val 0 48 rfl (hd 0 (by decide))
    simp (disch:=first|omega|simp only [lnS];try omega) [-notTuple,hkn.1,gA,lgA,f0]
    exact hcont _ _ (hJ.put hND hST rfl (nlE _) (fun _ _=>rfl) rfl)
   ·simp (disch:=first|omega|simp only [lnS];try omega) [-notTuple,hkn.1,j11]
    exact hcont _ _ (hJ.put hND hST rfl (nlE _) (fun _ _=>rfl) rfl)
   ·have f2:α 50=.pointer (some ⟨gl,2,none⟩):=hJ.val 2 50 rfl (hd 2 (by decide))
    simp (disch:=first|omega|simp only [lnS];try omega) [-notTuple,hkn.1,gA,lgA,f2]
    exact hcont _ _ (hJ.put hND hST rfl (nlE _) (fun _ _=>rfl) rfl)
   ·have f3:α 51=kv:=hJ.val 3 51 rfl (hd 3 (by decide))
    simp (disch:=first|omega|simp only [lnS];try omega) [-notTuple,hkn.1,-xslice,v1 G,v2,f3]
    exact hcont _ _ (hJ.put hND hST rfl (nlE _) (fun _ _=>rfl) rfl)
   ·have f4:α 52=sv:=hJ.val 4 52 rfl (hd 4 (by decide))
    simp (disch:=first|omega|simp only [lnS];try omega) [f4]
    refine⟨by kernel_rfl,(cloneP_ac (nro:=nro) (γ:=γ) (v5.keep hJ.lw.1 hJ.lw.2) hdk hdm (by have:=hJ.lw.1;omega)).mono ?_⟩
    rintro v' G' ⟨ho,lw⟩
    exact hcont _ _ (hJ.put hND hST rfl lw.2 lw.1 (ho.less hJ.lw.1))
   ·have f1:α 49=.string st:=hJ.val 1 49 rfl (hd 1 (by decide))
    simp (disch:=first|omega|simp only [lnS];try omega) [-notTuple,hkn.1,f1]
    exact hcont _ _ (hJ.put hND hST rfl (nlE _) (fun _ _=>rfl) rfl)
   ·have f5:=hJ.val 5 53 rfl (hd 5 (by decide))
    obtain⟨n1,n2⟩:=OwnK.nt f5
    simp (disch:=first|omega|simp only [lnS];try omega)
    exact hcont _ _ (hJ.put hND hST rfl (nlE _) (fun _ _=>rfl) f5)
   ·simp (disch:=first|omega|simp only [lnS];try omega) [-notTuple,hkn.1]
    exact hcont _ _ (hJ.put hND hST rfl (nlE _) (fun _ _=>rfl) rfl)
  ·rintro s' α' B hJ hall
   have hsz:s'.size=9:=hJ.sz
   have hg:∀i,i<9→s'.getD i false=true:=fun i hi=>by
    rw [agD,Array.getElem?_eq_getElem (by omega)]
    exact Array.all_eq_true.1 hall i (by omega)
   have e8:α' 8=.string st:=hJ.val 6 8 rfl (hg 6 (by omega))
   have e9:OwnK A.length B (α' 9) ds:=hJ.val 7 9 rfl (hg 7 (by omega))
   have e10:α' 10=.bool true:=hJ.val 8 10 rfl (hg 8 (by omega))
   obtain⟨v9,h9⟩:∃v9,α' 9=v9:=⟨_,rfl⟩
   rw [h9]at e9
   have hn9:=e9.nt
   (refine aw_ret ?_;simp (disch:=first|omega|simp only [lnS];try omega) [e8,h9,e10,-notTuple,hn9.1,hn9.2])
   refine⟨⟨fun j hj=>(hJ.lw.2 j (by omega)).trans (aj j hj),by have:=hJ.lw.1;omega⟩,?_⟩
   rw [hop]
   exact⟨v9,rfl,e9.less (by omega)⟩
 ·unfold zkey at *
  refine ac_of_aw Tryd.func55 rfl Tryd.ntmps55 Tryd.results55 (by simp) ?_
  (refine aso fun K hK=>?_;simp (disch:=first|omega|simp only [lnS];try omega) [htk,hty];refine hK _ _ ?_;clear hK K)
  refine aw_seq (aw_seq ?_)
  (refine aoo fun K hK=>?_;simp (disch:=first|omega|simp only [lnS];try omega) [hs9,hi32,hb32];refine hK _ _ ?_;clear hK K)
  refine awf (by simp<;>omega) ?_
  refine aw_skip (aw_seq ?_)
  refine aoo fun K hK=>?_
  simp (disch:=first|omega|simp only [lnS];try omega) [h32,ln,htn]
  refine⟨by kernel_rfl,AC.mono (hf _) ?_⟩
  rintro _ G ⟨rfl,lw⟩
  have hGl:=lw.2
  rw [laP]at lw hGl
  simp only [List.length_cons,List.length_nil]at lw hGl
  have gk:hget G H.length=some ⟨iv .u8 k, 41,none⟩:=(lw.1 _ (by omega)).trans (by rw [hget_app0];rfl)
  have gy:hget G (H.length+1)=some ⟨iv .u8 y, 41,none⟩:=(lw.1 _ (by omega)).trans (by rw [hget_app];rfl)
  have lwH:Low H.length H G:=⟨fun j hj=>(lw.1 j (by omega)).trans (hget_left hj),by omega⟩
  have hng:nro≤G.length:=by omega
  try simp (disch:=first|omega|simp only [lnS];try omega) [p1,r3,hng]
  refine hK _ _ ?_;clear hK K
  refine aw_seq (aw_seq ?_)
  (refine aw_plan [] [] [0,1,2,3,4,5,6,7,8,9,10,11,12,13,14,15,16,17,18,19,20,21,22] 23 0 (by kernel_rfl) (by kernel_rfl) (by kernel_rfl) (fun K hK=>?_));simp only [sel,gcS,gdZ];simp (disch:=first|omega|simp only [lnS];try omega) [Nat.add_assoc]
  refine hK _ _ ?_;clear hK K
  refine awt (by simp<;>omega) ?_
  (refine aso fun K hK=>?_;simp (disch:=first|omega|simp only [lnS];try omega);refine hK _ _ ?_;clear hK K)
  (refine aw_ret ?_;simp (disch:=first|omega|simp only [lnS];try omega))
  have hop:openT (L.map (·.2)) k y s=none:=by unfold openT;rw [if_pos h32,hft]
  exact⟨⟨fun j hj=>(hget_left (by omega)).trans (lwH.1 j hj),by simp;omega⟩,by rw [hop]⟩
end
end
section
theorem place_none{x:TermD}{T:List TermD}(hx:x.Wf)(hT:∀y∈T,y.Wf)(h:x∉T):placeT x T=none:=by
 cases hp:placeT x T with
 | none=>rfl
 | some i=>exact absurd (moG (place_some hx hT hp)) h
theorem idxS_mem{s:ByteArray}:∀ {L:List ByteArray},s∈L→∃i,idxS s L=some i
 | x::L,h=>by
  unfold idxS
  by_cases e:s=x
  ·exact⟨0,if_pos e⟩
  ·rw [if_neg e]
   rcases List.mem_cons.1 h with h | h
   ·exact absurd h e
   ·obtain⟨i,hi⟩:=idxS_mem h
    exact⟨i+1,by rw [hi];rfl⟩
theorem add_new{x:TermD}{T:List TermD}(hx:x.Wf)(hT:∀y∈T,y.Wf)(h:x∉T):addT x T=T++[x]∧nameT x T=T.length:=by
 have:=place_none hx hT h
 exact⟨by unfold addT;rw [this],by unfold nameT;rw [this]⟩
theorem add_old{x:TermD}{T:List TermD}(hx:x.Wf)(hT:∀y∈T,y.Wf)(hn:T.Nodup){i:Nat}(h:T[i]?=some x):addT x T=T∧nameT x T=i:=by
 obtain⟨j,hj⟩:=idxS_mem (List.mem_map.2 ⟨x,moG h,rfl⟩:x.rec_∈T.map TermD.rec_)
 have hp:placeT x T=some j:=hj
 have h2:=place_some hx hT hp
 have e:j=i:=(List.getElem?_inj (gsI.1 h2).1 hn).1 (h2.trans h.symm)
 exact⟨by unfold addT;rw [hp],by unfold nameT;rw [hp];exact e⟩
theorem wf_atom{s:ByteArray}(hs:s.size≤100000000):TermD.Wf ⟨1,s,[]⟩:=wf_0 (.inl rfl) hs
theorem zl_by32:By (zl 32):=fun x hx=>by
 rw [List.eq_of_mem_replicate hx];omega
end
section
abbrev mA(a:ByteArray):TermD:=⟨1,a,[]⟩
abbrev mU(k:List Int):TermD:=⟨3,⟨#[]⟩,[k]⟩
abbrev mK(k l:List Int):TermD:=⟨4,⟨#[]⟩,[k,l]⟩
def n0:List Int:=nmL ((0:Nat):Int)
def n1:List Int:=nmL ((1:Nat):Int)
def n2:List Int:=nmL ((2:Nat):Int)
def n3:List Int:=nmL ((3:Nat):Int)
def n4:List Int:=nmL ((4:Nat):Int)
theorem n0_by:By n0:=nmL_by _
theorem n1_by:By n1:=nmL_by _
theorem n2_by:By n2:=nmL_by _
theorem n3_by:By n3:=nmL_by _
theorem n4_by:By n4:=nmL_by _
theorem p0:pk n0=some 0:=pk_nm (by omega)
def tE(a:ByteArray):List TermD:=[mA a,mU n0,mK n0 n0]
section
variable {a b:ByteArray} (ha:a.size≤300) (hb:b.size≤300)
end
end
section
attribute [local simp] wb_bool wb_undef with_lit XL_nil XL_cons XLc_val XLc_call step1_eq stepW_t stepW_f stepC_n stepC_s stepX_s stepX_n stepN_s calleeX xrecv oneV xop_eq xopR_s xopR_n wantedA_eq wantedG_n wantedG_s plain1_int plain1_bool plain1_string bits_i64 bits_u64 bits_u32 bits_u16 bits_u8 xeqA xagg xcmp xarr allK_iv num_iv calleeOf xread xeff xbin xint xnil xun xstr xload xconv xpart xfield xfieldAddr xindexAddr xindex bnd asInt? xslice xlen xmin xmax xbuild xfill xappend xapp2 xappstr xappmk xcap xcopy xcells eval_tmp eval_const put_at put_none fr0_at cells_agg cells_int cells_bool cells_string cells_ptr cells_slice notTuple tab iv_all hget_app hget_app0 hget_cons0 hget_cons set_app set_app0 setR setR_one QL_nil QL_cons QLc_val stepQ_t stepQ_f stepQC_n stepQC_s stepQX_s SL_nil SL_cons SLc_val stepS_t stepS_f ltT ltF leT leF eqT eqF ltTn ltFn leTn leFn eqTn eqFn beqT beqF bneT bneF wi64 wu64 wu32 wu16 wu8 tmodP tdivP hgetL hgetNe hgetEq setL nums_def nums_len Nat.succ_le_of_lt List.getElem?_cons_zero List.getElem?_cons_succ Option.getD_some Int.toNat_add Int.toNat_mul agM okM agB agI agS agP agL agA okB okI okS okP okSl okA nt_strG nt_boolG nt_aggG nt_intG nt_ptrG nt_slG XO_s XO_z XLk_val XLk_call headsO behind List.length_cons List.length_nil List.mem_cons List.not_mem_nil or_false forall_eq_or_imp forall_eq List.contains_cons List.contains_nil XOm
section
theorem gs_0(n i:Nat):(Array.replicate n false).getD i false=false:=by
 rw [agD,Array.getElem?_replicate]
 split <;> rfl
theorem gs_eq{s:Array Bool}{i:Nat}(h:i<s.size):(s.setIfInBounds i true).getD i false=true:=by
 rw [agD,Array.getElem?_setIfInBounds_self_of_lt h];rfl
theorem gs_ne{s:Array Bool}{i j:Nat}(h:i≠j):(s.setIfInBounds i true).getD j false=s.getD j false:=by
 rw [agD,Array.getElem?_setIfInBounds_ne h,←agD]
theorem two32{k l:List Int}(hk:k.length=32)(hl:l.length=32):∀x∈[k,l],x.length=32:=fun x hx=>by
 simp only [mcN]at hx
 rcases hx with rfl | rfl
 ·exact hk
 ·exact hl
theorem twoBy{k l:List Int}(hk:By k)(hl:By l):∀x∈[k,l],By x:=fun x hx=>by
 simp only [mcN]at hx
 rcases hx with rfl | rfl
 ·exact hk
 ·exact hl
end
end
section
def db32L:List Int:=[0,1,28,2,29,14,24,3,30,22,20,15,25,17,4,8,31,27,13,23,21,19,16,7,26,12,18,6,11,5,10,9]
def db64L:List Int:=[0,1,56,2,57,49,28,3,61,58,42,50,38,29,17,4,62,47,59,36,45,43,51,22,53,39,33,30,24,18,12,5,63,55,48,27,60,41,37,16,46,35,44,21,52,32,23,11,54,26,40,15,34,20,31,10,25,14,19,9,13,8,7,6]
end
section
attribute [local simp] wb_bool wb_undef with_lit XL_nil XL_cons XLc_val XLc_call step1_eq stepW_t stepW_f stepC_n stepC_s stepX_s stepX_n stepN_s calleeX xrecv oneV xop_eq xopR_s xopR_n wantedA_eq wantedG_n wantedG_s plain1_int plain1_bool plain1_string bits_i64 bits_u64 bits_u32 bits_u16 bits_u8 xeqA xagg xcmp xarr allK_iv num_iv calleeOf xread xeff xbin xint xnil xun xstr xload xconv xpart xfield xfieldAddr xindexAddr xindex bnd asInt? xslice xlen xmin xmax xbuild xfill xappend xapp2 xappstr xappmk xcap xcopy xcells eval_tmp eval_const put_at put_none fr0_at cells_agg cells_int cells_bool cells_string cells_ptr cells_slice notTuple tab iv_all hget_app hget_app0 hget_cons0 hget_cons set_app set_app0 setR setR_one QL_nil QL_cons QLc_val stepQ_t stepQ_f stepQC_n stepQC_s stepQX_s SL_nil SL_cons SLc_val stepS_t stepS_f ltT ltF leT leF eqT eqF ltTn ltFn leTn leFn eqTn eqFn beqT beqF bneT bneF wi64 wu64 wu32 wu16 wu8 tmodP tdivP hgetL hgetNe hgetEq setL nums_def nums_len Nat.succ_le_of_lt List.getElem?_cons_zero List.getElem?_cons_succ Option.getD_some Int.toNat_add Int.toNat_mul agM okM agB agI agS agP agL agA okB okI okS okP okSl okA nt_strG nt_boolG nt_aggG nt_intG nt_ptrG nt_slG XO_s XO_z XLk_val XLk_call headsO behind List.length_cons List.length_nil List.mem_cons List.not_mem_nil or_false forall_eq_or_imp forall_eq List.contains_cons List.contains_nil XOm PL_nil plainB_lit PL_cons PLc_val PLc_new stepP_t stepP_f stepPC_n stepPC_s stepPX_s stepPX_n stepPV_n stepPV_s stepPA_t stepPA_c stepPA_l stepPN_s allocOp reloc_sl reloc_ptr thenQ_ret scopeQ_ret inBlockQ_ret RQ resL resV
section
structure JT (ds:List (Option Nat)) (VP:Nat→Value→Prop) (β:Fm) (P:Array Bool→Fm→AH→Prop) (s:Array Bool) (α:Fm) (G:AH):Prop where
 sz:s.size=ds.length
 lo:∀t,some t∉ds→α t=β t
 val:∀i t,ds[i]?=some (some t)→s.getD i false=true→VP i (α t)
 hp:P s α G
theorem JT.put{ds:List (Option Nat)}{VP:Nat→Value→Prop}{β:Fm}{P:Array Bool→Fm→AH→Prop}{s:Array Bool}{α:Fm}{G G':AH}(h:JT ds VP β P s α G)(hnd:∀i j t:Nat,ds[i]?=some (some t)→ds[j]?=some (some t)→i=j){i t:Nat}{v:Value}
  (hi:ds[i]?=some (some t)) (hv:VP i v) (hp:P (s.setIfInBounds i true) (α.put (some t) v) G'):JT ds VP β P (s.setIfInBounds i true) (α.put (some t) v) G':=by
 refine⟨by simp [h.sz],fun t' ht=>?_,fun j t' hj hs=>?_,hp⟩
 ·have hm:some t∈ds:=moG hi
  have:t'≠t:=fun e=>ht (e▸hm)
  rw [←h.lo t' ht]
  simp [put_at,this]
 ·by_cases hij:i=j
  ·subst hij
   rw [hi]at hj
   cases hj
   simpa [put_at] using hv
  ·rw [gs_ne hij]at hs
   have:t'≠t:=fun e=>hij (hnd i j t hi (e▸hj))
   simpa [put_at,this] using h.val j t' hj hs
theorem JT.put0{ds:List (Option Nat)}{VP:Nat→Value→Prop}{β:Fm}{P:Array Bool→Fm→AH→Prop}{s:Array Bool}{α:Fm}{G G':AH}(h:JT ds VP β P s α G){i:Nat}(hi:ds[i]?=some none)(hp:P (s.setIfInBounds i true) α G'):JT ds VP β P (s.setIfInBounds i true) α G':=by
 refine⟨by simp [h.sz],h.lo,fun j t' hj hs=>?_,hp⟩
 have hij:i≠j:=fun e=>by rw [←e,hi]at hj;cases hj
 rw [gs_ne hij]at hs
 exact h.val j t' hj hs
end
section
def u3(x:Int):Int:=IntKind.u32.wrap x
def smT(s:ByteArray)(n:Int):Nat→Int
 | 0=>n
 | i+1=>u3 (u3 (smT s n i*31)+u3 (gb s i))
def smK(ks:List (List Int))(n:Int):Nat→Int
 | 0=>n
 | i+1=>u3 (u3 (u3 (u3 (smK ks n i*31)+u3 ((ks.getD i []).getD 7 0))+u3 (256*u3 ((ks.getD i []).getD 6 0)))+u3 ((ks.getD i []).getD 0 0))
def sm0(x:TermD):Int:=u3 (u3 (x.kind:Int)+u3 (7*u3 (x.text.size:Int)))
def sumR(x:TermD):Int:=smK x.keys (smT x.text (sm0 x) (min x.text.size 20)) x.keys.length
theorem KsV.cell{H:AH}{v:Value}{l:List (List Int)}(h:KsV H v l)(hl:∀k∈l,k.length=32){i:Nat}(hi:i<l.length) :
  ∃j,xindexAddr Tryd.prog 34 v (.int .i64 (i:Nat))=some (.pointer (some ⟨j,i*32,none⟩))∧∀c,c<32→∀G:AH,Low H.length H G→xload Tryd.prog 5 (.pointer (some ⟨j,i*32+c,none⟩)) G=some (.int .u8 ((l.getD i []).getD c 0)):=by
 obtain⟨z,hz⟩:∃z,l[i]?=some z:=⟨_,geE hi⟩
 have hzl:=hl z (moG hz)
 obtain⟨j,b,us,hv,hb,hle,hx,hus,hul,hle2,hc,hval⟩:=val_at (P:=Tryd.prog) (t := 34) (e := 41) (sz:=32) h (by kernel_rfl) (by kernel_rfl) (by omega) (fun row hr=>by
  obtain⟨y,hy,rfl⟩:=List.mem_map.1 hr
  unfold kd
  rw [List.length_map]
  exact hl y hy) (i:=i) (row:=kd z) (by rw [gmP,hz];rfl)
 have hk:us=iv .u8 z:=hval.key
 have hg:l.getD i []=z:=by rw [gdD,hz];rfl
 have e1:isAggD (und Tryd.prog 5)=false:=by kernel_rfl
 have e2:okD (und Tryd.prog 5)=true:=by kernel_rfl
 refine⟨j,hx,fun c hc32 G hG=>?_⟩
 have hbG:hget G j=some b:=(hG.1 j (hget_lt hb)).trans hb
 have h1:=hc c hc32
 rw [hk,iv_getN _ _ _ (by omega)]at h1
 unfold xload
 simp only [hbG,e1,e2,h1,hg]
 simp
theorem key_at{j q c:Nat}(hc:c<32):xindexAddr Tryd.prog 41 (.pointer (some ⟨j,q,none⟩)) (.int .i64 (c:Nat))=some (.pointer (some ⟨j,q+c,none⟩)):=by
 have h1:und Tryd.prog 41 = .array 32 5 := by kernel_rfl
 have h2:szt Tryd.prog 5 = 1:=by kernel_rfl
 unfold xindexAddr
 simp only [h1,h2]
 rw [if_pos ⟨by omega,by omega,by omega⟩]
 simp
theorem sum_rc{γ:Nat→Option Nat}{H:AH}{kv:Value}{x:TermD}(hv:KsV H kv x.keys)(hk:∀k∈x.keys,k.length=32)(hs:x.text.size≤9223372036854775807)(hm:x.keys.length≤maxLen) :
  AC Tryd.prog H.length γ 63 #[.agg (tmRow kv x).toArray] H (fun v' _=>v'=.int .u32 (sumR x)):=by
 obtain⟨kind,s,ks⟩:=x
 have hm63:ks.length≤9223372036854775807:=by simp only [maxLen]at hm;omega
 have hsum:sumR ⟨kind,s,ks⟩=smK ks (smT s (sm0 ⟨kind,s,ks⟩) (min s.size 20)) ks.length:=rfl
 have h00:sm0 ⟨kind,s,ks⟩=u3 (u3 (kind:Int)+u3 (7*u3 (s.size:Int))):=rfl
 rw [hsum]
 generalize sm0 ⟨kind,s,ks⟩=n0 at *
 have hcs:ks.length=ks.length:=rfl
 obtain⟨hnt,hvc,hxl,_⟩:=hv.acc hk
 have hcell:=fun i (hi:i<ks.length)=>hv.cell hk hi
 have hrow:tmRow kv ⟨kind,s,ks⟩=[.int .i64 (kind:Nat),.string s,kv]:=rfl
 rw [hrow]
 refine ac_of_aw Tryd.func63 rfl Tryd.ntmps63 Tryd.results63 (by simp) ?_
 (refine aso fun K hK=>?_;simp (disch:=first|omega|simp only [lnS];try omega) [-notTuple,hnt,hvc];refine hK _ _ ?_;clear hK K)
 obtain⟨B,hB⟩:∃B:AH,B=H++[some ⟨[.int .i64 (kind:Nat),.string s,kv], 92,none⟩]:=⟨_,rfl⟩
 have hb:hget B H.length=some ⟨[.int .i64 (kind:Nat),.string s,kv], 92,none⟩:=by rw [hB,hget_app0];rfl
 have hlb:=hget_lt hb
 have lwB:Low H.length H B:=by rw [hB];exact Low.push (nlE _) _
 rw [←hB]
 (refine aso fun K hK=>?_;simp (disch:=first|omega|simp only [lnS];try omega) [hb,hlb,-notTuple,hnt,hvc,hs];refine hK _ _ ?_;clear hK K)
 refine aw_seq (aw_seq ?_)
 (refine aoo fun K hK=>?_;simp (disch:=first|omega|simp only [lnS];try omega);refine hK _ _ ?_;clear hK K)
 refine aw_block ?_
 refine aw_loop (fun q α G=>∃i:Nat,i+q=20∧i≤s.size∧α 1=.pointer (some ⟨H.length,0,none⟩)∧α 3=.int .u32 (smT s n0 i)∧α 4=.int .i64 (i:Nat)∧G=B) 20 ?_ ?_
 ·exact⟨0,by omega,by omega,by (first|simp;done|rfl),by rw [show smT s n0 0=n0 from rfl,h00];(first|simp;done|rfl),by (first|simp;done|rfl),rfl⟩
 rintro q α G ⟨i,hiq,his,h1,h3,h4,rfl⟩
 refine aw_seq (aw_seq ?_)
 by_cases hi:i<s.size∧i<20
 ·obtain⟨hi1,hi2⟩:=hi
  have hi1':(i:Int)<s.size:=by omega
  have hi2':(i:Int)<20:=by omega
  have hT:smT s n0 (i+1)=u3 (u3 (smT s n0 i*31)+u3 (gb s i)):=rfl
  unfold u3 at hT
  (refine aoo fun K hK=>?_;simp (disch:=first|omega|simp only [lnS];try omega) [h1,h4,hb,hlb,hs,hi1',hi2'];refine hK _ _ ?_;clear hK K)
  refine awt (by simp<;>omega) ?_
  refine aw_skip (aw_seq ?_)
  refine aw_block ?_
  (refine aoo fun K hK=>?_;simp (disch:=first|omega|simp only [lnS];try omega) [h1,h3,h4,hb,hlb,hi1,hi1'];refine hK _ _ ?_;clear hK K)
  (refine aoo fun K hK=>?_;simp (disch:=first|omega|simp only [lnS];try omega) [h4,hi2'];refine hK _ _ ?_;clear hK K)
  exact⟨q-1,by omega,i+1,by omega,by omega,by (first|simp [h1];done|rfl),by rw [hT];(first|simp;done|rfl),by (first|simp;done|rfl),rfl⟩
 ·have hmin:min s.size 20=i:=by omega
  rw [hmin]
  generalize smT s n0 i=n1 at *
  refine aw_cut (fun α G'=>α 1=.pointer (some ⟨H.length,0,none⟩)∧α 3=.int .u32 n1∧α 23=.bool false∧G'=G) ?_ ?_
  ·by_cases hi1:i<s.size
   ·have hi1':(i:Int)<s.size:=by omega
    have hi2':¬ (i:Int)<20:=by omega
    (refine aoo fun K hK=>?_;simp (disch:=first|omega|simp only [lnS];try omega) [h1,h4,hb,hlb,hs,hi1',hi2'];refine hK _ _ ?_;clear hK K)
    exact⟨by (first|simp [h1];done|rfl),by (first|simp [h3];done|rfl),by (first|simp;done|rfl),rfl⟩
   ·have hi1':¬ (i:Int)<s.size:=by omega
    (refine aoo fun K hK=>?_;simp (disch:=first|omega|simp only [lnS];try omega) [h1,h4,hb,hlb,hs,hi1'];refine hK _ _ ?_;clear hK K)
    exact⟨by (first|simp [h1];done|rfl),by (first|simp [h3];done|rfl),by (first|simp;done|rfl),rfl⟩
  rintro α1 G' ⟨g1,g3,g23,rfl⟩
  clear h1 h3 h4
  refine awf (by simp [g23]<;>omega) ?_
  refine aw_exit ?_
  refine aw_seq (aw_seq ?_)
  (refine aoo fun K hK=>?_;simp (disch:=first|omega|simp only [lnS];try omega);refine hK _ _ ?_;clear hK K)
  refine aw_block ?_
  refine aw_loop (fun q α G=>∃i:Nat,i+q=ks.length∧α 1=.pointer (some ⟨H.length,0,none⟩)∧α 3=.int .u32 (smK ks n1 i)∧α 5=.int .i64 (i:Nat)∧G=G') ks.length ?_ ?_
  ·exact⟨0,by omega,by (first|simp [g1];done|rfl),by rw [show smK ks n1 0=n1 from rfl];(first|simp [g3];done|rfl),by (first|simp;done|rfl),rfl⟩
  clear g1 g3 g23 hiq his hmin hi hB hsum h00 hrow
  rintro q α G ⟨i,hiq,h1,h3,h5,rfl⟩
  refine aw_seq (aw_seq ?_)
  by_cases hi:i<ks.length
  ·have hi':(i:Int)<ks.length:=by omega
   obtain⟨j,q1,q2⟩:=hcell i hi
   have hT:smK ks n1 (i+1)=u3 (u3 (u3 (u3 (smK ks n1 i*31)+u3 ((ks.getD i []).getD 7 0))+u3 (256*u3 ((ks.getD i []).getD 6 0)))+u3 ((ks.getD i []).getD 0 0)):=rfl
   have c7:=q2 7 (by omega) G lwB
   have c6:=q2 6 (by omega) G lwB
   have c0:=q2 0 (by omega) G lwB
   have k7:xindexAddr Tryd.prog 41 (.pointer (some ⟨j,i*32,none⟩)) (.int .i64 7)=some (.pointer (some ⟨j,i*32+7,none⟩)):=key_at (c:=7) (by omega)
   have k6:xindexAddr Tryd.prog 41 (.pointer (some ⟨j,i*32,none⟩)) (.int .i64 6)=some (.pointer (some ⟨j,i*32+6,none⟩)):=key_at (c:=6) (by omega)
   have k0:xindexAddr Tryd.prog 41 (.pointer (some ⟨j,i*32,none⟩)) (.int .i64 0)=some (.pointer (some ⟨j,i*32+0,none⟩)):=key_at (c:=0) (by omega)
   have ld2:xload Tryd.prog 34 (.pointer (some ⟨H.length,2,none⟩)) G=some kv:=by
    unfold xload
    have e1:isAggD (und Tryd.prog 34)=false:=by kernel_rfl
    have e2:okD (und Tryd.prog 34)=true:=by kernel_rfl
    simp only [hb,e1,e2]
    simp
   generalize smK ks n1 i=n2 at *
   generalize (ks.getD i []).getD 7 0=x7 at *
   generalize (ks.getD i []).getD 6 0=x6 at *
   generalize (ks.getD i []).getD 0 0=x0 at *
   generalize i*32+7=o7 at *
   generalize i*32+6=o6 at *
   generalize i*32+0=o0 at *
   unfold u3 at hT
   (refine aoo fun K hK=>?_;simp (disch:=first|omega|simp only [lnS];try omega) [h1,h5,hb,hlb,-notTuple,hnt,hvc,-xlen,hxl,hi'];refine hK _ _ ?_;clear hK K)
   refine awt (by simp [hi']<;>omega) ?_
   refine aw_skip (aw_seq ?_)
   refine aw_block ?_
   (refine aw_plan [] [] [0,1,2,3,4,5,6,7,8,9,10,11,12,13,14,15,16,17,18,19,20,21,22,23,24,25,26,27] 28 0 (by kernel_rfl) (by kernel_rfl) (by kernel_rfl) (fun K hK=>?_));simp only [sel,gcS,gdZ];simp (disch:=first|omega|simp only [lnS];try omega) [h1,h3,h5,-xload,ld2,c7,c6,c0,-xindexAddr,q1,k7,k6,k0,-notTuple,hnt,Nat.add_assoc]
   refine hK _ _ ?_;clear hK K
   (refine aoo fun K hK=>?_;simp (disch:=first|omega|simp only [lnS];try omega) [h5];refine hK _ _ ?_;clear hK K)
   exact⟨q-1,by omega,i+1,by omega,by (first|simp [h1];done|rfl),by rw [hT];(first|simp [h3];done|rfl),by (first|simp;done|rfl),rfl⟩
  ·obtain rfl:i=ks.length:=by omega
   (refine aoo fun K hK=>?_;simp (disch:=first|omega|simp only [lnS];try omega) [h1,h5,hb,hlb,-notTuple,hnt,hvc,-xlen,hxl];refine hK _ _ ?_;clear hK K)
   refine awf (by simp<;>omega) ?_
   refine aw_exit (aw_seq ?_)
   (refine aoo fun K hK=>?_;simp (disch:=first|omega|simp only [lnS];try omega) [h3];refine hK _ _ ?_;clear hK K)
   (refine aw_ret ?_;simp (disch:=first|omega|simp only [lnS];try omega) [h3])
end
end
end Go.Proofs.YtlaglpnbmkoakaaDoor
