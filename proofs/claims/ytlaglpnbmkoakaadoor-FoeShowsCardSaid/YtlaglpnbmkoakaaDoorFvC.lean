/-
  Own slices with their blocks as a footprint.
-/
import Derived.Test.YtlaglpnbmkoakaaDoorFvB
import Derived.Test.YtlaglpnbmkoakaaDoorTabFv
import Derived.Test.YtlaglpnbmkoakaaDoorFvA
import Derived.Test.YtlaglpnbmkoakaaDoorShelfP
import Derived.Laws.Externs
import Derived.Lib.BytesEntry
import Derived.Lib.ItoaLen
namespace Go.Proofs.YtlaglpnbmkoakaaDoor
open Go Go.RowKit
set_option linter.unusedSimpArgs false
set_option linter.unusedVariables false
set_option maxRecDepth 100000
set_option maxHeartbeats 8000000
section
def OwnF(H:AH)(v:Value)(e:TypeId)(sz:Nat)(cells:List Value)(F:List Nat):Prop:=
 (v=.slice none 0 0∧cells=[]∧F=[])∨∃j len,v=.slice (some ⟨j,0,none⟩) len len∧hget H j=some ⟨cells,e,some sz⟩∧cells.length=len*sz∧F=[j]
theorem OwnF.low{H H':AH}{v:Value}{e:TypeId}{sz:Nat}{cells:List Value}{F:List Nat}(h:OwnF H v e sz cells F)(hl:∀j∈F,hget H' j=hget H j):OwnF H' v e sz cells F:=by
 rcases h with h | ⟨j,len,h1,h2,h3,rfl⟩
 ·exact .inl h
 ·exact .inr ⟨j,len,h1,by rw [hl j (by simp)];exact h2,h3,rfl⟩
theorem OwnF.len{P:Program}{H:AH}{v:Value}{e t:TypeId}{sz:Nat}{cells:List Value}{F:List Nat}(h:OwnF H v e sz cells F)(ht:und P t=.slice e){n:Nat}(hn:cells.length=n*sz)(h0:0<sz):xlen P t v=some (.int .i64 n):=by
 rcases h with ⟨rfl,rfl,rfl⟩ | ⟨j,len,rfl,h2,h3,rfl⟩
 ·have:n=0:=by
   have:n*sz=0:=hn.symm
   rcases Nat.mul_eq_zero.1 this with h | h <;> omega
  subst this
  simp [xlen,ht]
 ·have:len=n:=Nat.eq_of_mul_eq_mul_right h0 (h3.symm.trans hn)
  subst this
  simp [xlen,ht]
theorem ownF_append{P:Program}{nro:Nat}{t e:TypeId}{H:AH}{v x:Value}{sz:Nat}{cells news:List Value}{F:List Nat}(hu:und P t=.slice e)(hs:szt P e=sz)(h0:0<sz)(hz:(zer P e).map (·.cells.size)=some sz)
  (hv:OwnF H v e sz cells F) (hnro:∀j∈F,nro≤j) (hstr:∀s,x≠.string s) (hx:xcells sz x H=some news) (hn:news≠[]) (hd:news.length%sz=0) (hb:(cells.length+news.length)*byt P e≤140737488355328) (hm:cells.length+news.length≤maxLen) :
  ∃v' H',xappend P nro t v x H=some (v',H')∧OwnF H' v' e sz (cells++news) [H.length]∧H'.length=H.length+1∧∀j,j<H.length→j∉F→hget H' j=hget H j:=by
 subst hs
 have hdm:news.length/szt P e*szt P e=news.length:=Nat.div_mul_cancel (Nat.dvd_of_mod_eq_zero hd)
 rcases hv with ⟨rfl,rfl,rfl⟩ | ⟨j,len,rfl,h3,h4,rfl⟩
 ·refine⟨.slice (some ⟨H.length,0,none⟩) (news.length/szt P e) (news.length/szt P e),H++[some ⟨news,e,some (szt P e)⟩],?_,.inr ⟨H.length,news.length/szt P e,rfl,?_,?_,rfl⟩,by simp,fun i hi _=>hget_left hi⟩
  ·simp only [List.length_nil,Nat.zero_add]at hb hm
   unfold xappend
   cases x <;> first | (exact absurd rfl (hstr _)) | (simp only [hu,hx];rw [if_pos ⟨h0,hz,hb,hm⟩,if_neg hn])
  ·rw [hget_app0,hget_cons0];rfl
  ·rw [hdm];rfl
 ·have hj:=hget_lt h3
  refine⟨.slice (some ⟨H.length,0,none⟩) (len+news.length/szt P e) (len+news.length/szt P e),H.set j none++[some ⟨cells++news,e,some (szt P e)⟩],?_,.inr ⟨H.length,len+news.length/szt P e,rfl,?_,?_,rfl⟩,by simp,fun i hi hni=>?_⟩
  ·have hc:True∧0<szt P e∧(zer P e).map (·.cells.size)=some (szt P e)∧nro≤j∧True∧True∧len*szt P e≤cells.length∧(len*szt P e+news.length)*byt P e≤140737488355328∧len*szt P e+news.length≤maxLen:=
    ⟨trivial,h0,hz,hnro j (by simp),trivial,trivial,by omega,by rw [←h4];exact hb,by rw [←h4];exact hm⟩
   unfold xappend
   cases x <;> first | (exact absurd rfl (hstr _)) | (simp only [hu,hx,h3];rw [if_pos hc,←h4,List.take_length])
  ·have:(H.set j none).length=H.length:=by simp
   rw [←this,hget_app0,hget_cons0]
  ·rw [laP,Nat.add_mul,←h4,hdm]
  ·rw [hget_left (by simp;omega),hget_set_ne (fun e=>hni (by simp [e]))]
theorem OwnF.lt{H:AH}{v:Value}{e:TypeId}{sz:Nat}{cells:List Value}{F:List Nat}(h:OwnF H v e sz cells F):∀j∈F,j<H.length:=by
 rcases h with ⟨_,_,rfl⟩ | ⟨i,len,_,h2,_,rfl⟩
 ·intro j hj;cases hj
 ·intro j hj;rw [msG]at hj;subst hj;exact hget_lt h2
end
section
theorem ownF_str{P:Program}{nro:Nat}{t e:TypeId}{H:AH}{v:Value}{b:ByteArray}{cells:List Value}{F:List Nat}(hu:und P t=.slice e)(hz:zer P e=some (.int .u8 0))(hs:szt P e=1)(hby:byt P e=1)
    (hv:OwnF H v e 1 cells F) (hnro:∀j∈F,nro≤j) (hb:cells.length+b.size≤140737488355328) (hm:cells.length+b.size≤maxLen) :
    ∃v' H' F',xappstr P nro t v (.string b) H=some (v',H')∧OwnF H' v' e 1 (cells++iv .u8 (nums b)) F'∧H.length≤H'.length∧(∀j∈F',H.length≤j)∧∀j,j<H.length→j∉F→hget H' j=hget H j:=by
  have hnl:(iv .u8 (nums b)).length=b.size:=by rw [iv_length];simp [nums]
  rcases hv with ⟨rfl,rfl,rfl⟩ | ⟨j,len,rfl,h3,h4,rfl⟩
  · simp only [List.length_nil,Nat.zero_add]at hb hm
    by_cases h0:b.size=0
    · refine⟨.slice none 0 0,H,[],?_,.inl ⟨rfl,List.eq_nil_of_length_eq_zero (by simp [hnl,h0]),rfl⟩,nlE _,(by simp),fun _ _ _=>rfl⟩
      unfold xappstr
      simp only [hu,hz]
      rw [if_pos ⟨trivial,hs,hby⟩,if_pos ⟨hb,hm⟩,if_pos h0]
    · refine⟨.slice (some ⟨H.length,0,none⟩) b.size b.size,H++[some ⟨iv .u8 (nums b),e,some 1⟩],[H.length],?_,.inr ⟨H.length,b.size,rfl,?_,by simp [hnl],rfl⟩,by simp,by simp,fun i hi _=>hget_left hi⟩
      · unfold xappstr
        simp only [hu,hz]
        rw [if_pos ⟨trivial,hs,hby⟩,if_pos ⟨hb,hm⟩,if_neg h0]
      · rw [hget_app0,hget_cons0];rfl
  · have hj:=hget_lt h3
    refine⟨.slice (some ⟨H.length,0,none⟩) (len+b.size) (len+b.size),H.set j none++[some ⟨cells++iv .u8 (nums b),e,some 1⟩],[H.length],?_,.inr ⟨H.length,len+b.size,rfl,?_,by simp [hnl];omega,rfl⟩,by simp,by simp,fun i hi hni=>?_⟩
    · unfold xappstr
      simp only [hu,hz,h3]
      rw [if_pos ⟨trivial,hs,hby⟩,if_pos ⟨trivial,hnro j (by simp),trivial,trivial,by omega,by omega,by omega⟩,show len=cells.length by omega,List.take_length]
    · have:(H.set j none).length=H.length:=by simp
      rw [←this,hget_app0,hget_cons0]
    · rw [hget_left (by simp;omega),hget_set_ne (fun e=>hni (by simp [e]))]
attribute [local simp] wb_bool wb_undef with_lit XL_nil XL_cons XLc_val XLc_call step1_eq stepW_t stepW_f stepC_n stepC_s stepX_s stepX_n stepN_s calleeX xrecv oneV xop_eq xopR_s xopR_n wantedA_eq wantedG_n wantedG_s plain1_int plain1_bool plain1_string bits_i64 bits_u64 bits_u32 bits_u16 bits_u8 xeqA xagg xcmp xarr allK_iv num_iv calleeOf xread xeff xbin xint xnil xun xstr xload xconv xpart xfield xfieldAddr xindexAddr xindex bnd asInt? xslice xlen xmin xmax xbuild xfill xappend xapp2 xappstr xappmk xcap xcopy xcells eval_tmp eval_const put_at put_none fr0_at cells_agg cells_int cells_bool cells_string cells_ptr cells_slice notTuple tab iv_all hget_app hget_app0 hget_cons0 hget_cons set_app set_app0 setR setR_one QL_nil QL_cons QLc_val stepQ_t stepQ_f stepQC_n stepQC_s stepQX_s SL_nil SL_cons SLc_val stepS_t stepS_f ltT ltF leT leF eqT eqF ltTn ltFn leTn leFn eqTn eqFn beqT beqF bneT bneF wi64 wu64 wu32 wu16 wu8 tmodP tdivP hgetL hgetNe hgetEq setL nums_def nums_len Nat.succ_le_of_lt List.getElem?_cons_zero List.getElem?_cons_succ Option.getD_some Int.toNat_add Int.toNat_mul agM okM agB agI agS agP agL agA okB okI okS okP okSl okA thenQ_ret scopeQ_ret inBlockQ_ret RQ resL resV
def ren240:Go.Shelf.Ren:=⟨fun | 240 => 74 | 276 => 76 | n=>n,fun | 0 => 0 | 4 => 4 | 9 => 9 | 20 => 20 | 70 => 115 | 72 => 117 | 37 => 96 | 5 => 5 | 164 => 126 | n=>n,fun | n=>n⟩
theorem L240:Lays.n240 Tryd.prog ren240:={
  mixed:=by kernel_rfl
  f240:=Tryd.func74.trans (congrArg some (by kernel_rfl))
  f276:=Tryd.func76.trans (congrArg some (by kernel_rfl))
  t0:=Tryd.underlying0
  a0:=Tryd.isAgg0
  z0:=Tryd.sizeOf0
  v0:=Tryd.zeroValue0
  t4:=Tryd.underlying4
  a4:=Tryd.isAgg4
  z4:=Tryd.sizeOf4
  v4:=Tryd.zeroValue4
  t9:=Tryd.underlying9
  a9:=Tryd.isAgg9
  z9:=Tryd.sizeOf9
  v9:=Tryd.zeroValue9
  t20:=Tryd.underlying20
  a20:=Tryd.isAgg20
  z20:=Tryd.sizeOf20
  v20:=Tryd.zeroValue20
  t70:=Tryd.underlying115
  a70:=Tryd.isAgg115
  z70:=Tryd.sizeOf115
  v70:=Tryd.zeroValue115
  t72:=Tryd.underlying117
  a72:=Tryd.isAgg117
  z72:=Tryd.sizeOf117
  v72:=Tryd.zeroValue117
  t164:=Tryd.underlying126
  a164:=Tryd.isAgg126
  z164:=Tryd.sizeOf126
  v164:=Tryd.zeroValue126 }
theorem X240:Builder.X72 Tryd.prog ren240:={
  sizeBuilder:=by kernel_rfl
  liesBuilder:=by kernel_rfl }
def Bl(H:AH)(i:Nat)(s:ByteArray)(F:List Nat):Prop:=
  ∃p v,(p=.pointer none∨p=.pointer (some ⟨i,0,none⟩))∧hget H i=some ⟨[p,v], 117,none⟩∧OwnF H v 5 1 (iv .u8 (nums s)) F∧i∉F∧(s.size=0→v=.slice none 0 0)
theorem Bl.low{H H':AH}{i:Nat}{s:ByteArray}{F:List Nat}(h:Bl H i s F)(h1:hget H' i=hget H i)(hl:∀j∈F,hget H' j=hget H j):Bl H' i s F:=by
  obtain⟨p,v,hp,hg,ho,hn,hz⟩:=h
  exact⟨p,v,hp,h1.trans hg,ho.low hl,hn,hz⟩
theorem Bl.lt{H:AH}{i:Nat}{s:ByteArray}{F:List Nat}(h:Bl H i s F):i<H.length∧∀j∈F,j<H.length:=by
  obtain⟨p,v,hp,hg,ho,hn,hz⟩:=h
  exact⟨hget_lt hg,ho.lt⟩
theorem ownF_shape{H:AH}{v:Value}{e:TypeId}{cells:List Value}{F:List Nat}(h:OwnF H v e 1 cells F):notTuple v=true∧v.cells=#[v]:=by
  rcases h with ⟨rfl,_,_⟩ | ⟨j,len,rfl,_,_,_⟩ <;> exact⟨rfl,rfl⟩
theorem set_same{H:AH}{i:Nat}{k:Blk}(h:hget H i=some k):H.set i (some k)=H:=by
  obtain⟨h1,h2⟩:=gsI.1 (hget_some h)
  have h3:=List.set_getElem_self h1
  rw [h2]at h3
  exact h3
theorem bl_check{nro:Nat}{γ:Nat→Option Nat}{H:AH}{i:Nat}{p v:Value}(hp:p=.pointer none∨p=.pointer (some ⟨i,0,none⟩))(hg:hget H i=some ⟨[p,v], 117,none⟩)(hi:nro≤i) :
    AC Tryd.prog nro γ 74 #[.pointer (some ⟨i,0,none⟩)] H (fun v' H'=>v'=.tuple #[]∧H'=H.set i (some ⟨[.pointer (some ⟨i,0,none⟩),v], 117,none⟩)):=by
  rcases hp with rfl | rfl
  · exact check_fresh_ac L240 X240 hi hg
  · refine AC.mono (check_used_ac L240 X240 hi hg) ?_
    rintro v' H' ⟨h1,h2⟩
    exact⟨h1,by rw [h2,set_same hg]⟩
theorem bl_write{nro:Nat}{γ:Nat→Option Nat}{H:AH}{i:Nat}{s t:ByteArray}{F:List Nat}(h:Bl H i s F)(hi:nro≤i)(hF:∀j∈F,nro≤j)(hb:s.size+t.size≤1000000000) :
    AC Tryd.prog nro γ 69 #[.pointer (some ⟨i,0,none⟩),.string t] H (fun v' H'=>v'=.tuple #[.int .i64 t.size,.nilIface]∧∃F',Bl H' i (s++t) F'∧H.length≤H'.length∧(∀j∈F',H.length≤j)∧∀j,j<H.length→j≠i→j∉F→hget H' j=hget H j):=by
  have hlt:=h.lt
  obtain⟨p,v,hp,hg,ho,hn,hz⟩:=h
  obtain⟨H1,hH1⟩:∃H1,H1=H.set i (some ⟨[.pointer (some ⟨i,0,none⟩),v], 117,none⟩):=⟨_,rfl⟩
  have hl1:H1.length=H.length:=by rw [hH1];simp
  have hg1:hget H1 i=some ⟨[.pointer (some ⟨i,0,none⟩),v], 117,none⟩:=by rw [hH1];exact hget_set_eq hlt.1
  have k1:∀j,j≠i→hget H1 j=hget H j:=fun j hj=>by rw [hH1];exact hget_set_ne (Ne.symm hj)
  have ho1:=ho.low (H':=H1) (fun j hj=>k1 j (fun e=>hn (e▸hj)))
  obtain⟨v',H2,F',hap,ho2,hl2,hnew,hk⟩:=ownF_str (P:=Tryd.prog) (nro:=nro) (t := 96) (e := 5) (H:=H1) (v:=v) (b:=t) (cells:=iv .u8 (nums s)) (F:=F) (by simp) (by simp) (by simp) (by simp) ho1 hF
    (by rw [iv_length,nums_len];omega) (by rw [iv_length,nums_len];simp [maxLen];omega)
  have hs:=ownF_shape ho
  have hs':=ownF_shape ho2
  have hg2:hget H2 i=some ⟨[.pointer (some ⟨i,0,none⟩),v], 117,none⟩:=(hk i (by omega) hn).trans hg1
  have hiF:i∉F':=fun hm=>by have:=hnew i hm;omega
  have hz2:(s++t).size=0→v'=.slice none 0 0:=fun h0=>by
    have h1:s.size=0∧t.size=0:=by
      rw [ByteArray.size_append]at h0
      omega
    have:=hz h1.1
    subst this
    simp [xappstr,h1.2,maxLen]at hap
    exact hap.1.symm
  refine ac_of_aw Tryd.func69 rfl Tryd.ntmps69 Tryd.results69 (by simp) ?_
  (refine aso fun K hK=>?_;simp (disch:=first|omega|simp only [lnS];try omega);refine hK _ _ ?_;clear hK K)
  refine aso fun K hK=>?_
  simp (disch:=first|omega|simp only [lnS];try omega)
  refine⟨by kernel_rfl,AC.mono (bl_check hp hg hi) ?_⟩
  rintro v1 G ⟨rfl,e⟩
  rw [←hH1]at e
  subst e
  clear hH1
  try simp (disch:=first|omega|simp only [lnS];try omega)
  refine hK _ _ ?_;clear hK K
  (refine aso fun K hK=>?_;simp (disch:=first|omega|simp only [lnS];try omega) [hg1,hg2,hs.1,hs'.1,hs'.2,-notTuple,-xappstr,hap];refine hK _ _ ?_;clear hK K)
  (refine aso fun K hK=>?_;simp (disch:=first|omega|simp only [lnS];try omega);refine hK _ _ ?_;clear hK K)
  have hi2:i<H2.length:=hget_lt hg2
  have fin:∃F',Bl (H2.set i (some ⟨[.pointer (some ⟨i,0,none⟩),v'], 117,none⟩)) i (s++t) F'∧H.length≤(H2.set i (some ⟨[.pointer (some ⟨i,0,none⟩),v'], 117,none⟩)).length∧(∀j∈F',H.length≤j)∧∀j,j<H.length→j≠i→j∉F→hget (H2.set i (some ⟨[.pointer (some ⟨i,0,none⟩),v'], 117,none⟩)) j=hget H j:=by
   refine⟨F',⟨.pointer (some ⟨i,0,none⟩),v',.inr rfl,hget_set_eq hi2,?_,hiF,hz2⟩,by simp;omega,fun j hj=>by have:=hnew j hj;omega,fun j hj hji hjF=>?_⟩
   · have:nums (s++t)=nums s++nums t:=by simp [nums_appF]
     rw [this,iv_append]
     exact ho2.low (fun j hj=>hget_set_ne (fun e=>hiF (e▸hj)))
   · rw [hget_set_ne (Ne.symm hji),hk j (by omega) hjF,k1 j hji]
  generalize H2.set i (some ⟨[.pointer (some ⟨i,0,none⟩),v'], 117,none⟩)=H3 at *
  (refine aw_ret ?_;simp (disch:=first|omega|simp only [lnS];try omega))
  obtain⟨F2,f1,f2,f3,f4⟩:=fin
  exact⟨F2,f1,f3,f4⟩
theorem bl_string{nro:Nat}{γ:Nat→Option Nat}{H:AH}{i:Nat}{s:ByteArray}{F:List Nat}(h:Bl H i s F)(hi:nro≤i)(hF:∀j∈F,nro≤j) :
    AC Tryd.prog nro γ 72 #[.pointer (some ⟨i,0,none⟩)] H (fun v' H'=>v'=.string s∧H'.length=H.length∧∀j,j∉F→hget H' j=hget H j):=by
  obtain⟨p,v,hp,hg,ho,hn,hz⟩:=h
  have hsz:(nums s).length=s.size:=nums_len s
  have nilc:∀c,v=.slice none 0 0→s.size=0→c→AC Tryd.prog nro γ 72 #[.pointer (some ⟨i,0,none⟩)] H (fun v' H'=>v'=.string s∧H'.length=H.length∧∀j,j∉F→hget H' j=hget H j):=by
    intro c hv h0 _
    subst hv
    refine AC.mono (string_nil_ac Tryd.lays169 Tryd.Builder_Extra_169 hi hg) ?_
    rintro v' H' ⟨rfl,rfl⟩
    refine⟨?_,rfl,fun _ _=>rfl⟩
    congr 1
    apply ByteArray.ext
    have:s.data.size=0:=h0
    exact (Array.eq_empty_of_size_eq_zero this).symm
  rcases ho with ⟨hv,hc,hF0⟩ | ⟨j,len,rfl,h2,h3,rfl⟩
  · refine nilc True hv ?_ trivial
    have:=congrArg List.length hc
    rw [iv_length,hsz]at this
    exact this
  · rw [iv_length,hsz]at h3
    by_cases h0:len=0
    · have:=hz (by omega)
      cases this
    · refine AC.mono (string_ac Tryd.lays169 Tryd.Builder_Extra_169 hi hg (hF j (by simp)) h2 (by omega) h0) ?_
      rintro v' H' ⟨rfl,rfl⟩
      exact⟨rfl,by simp,fun q hq=>hget_set_ne (fun e=>hq (by simp [e]))⟩
end
section
abbrev ByI(l:List Int):Prop:=By l
def Key32(k:List Int):Prop:=k.length=32∧ByI k
def I64(z:Int):Prop:=-9223372036854775808≤z∧z≤9223372036854775807
def U32(z:Int):Prop:=0≤z∧z≤4294967295
theorem wf_i64{z:Int}(h:(Lit.int .i64 z).wf=true):I64 z:=by
 simpa [I64,Lit.wf,IntKind.min,IntKind.max,IntKind.bits,IntKind.signed] using h
theorem wf_u32{z:Int}(h:(Lit.int .u32 z).wf=true):U32 z:=by
 simpa [U32,Lit.wf,IntKind.min,IntKind.max,IntKind.bits,IntKind.signed] using h
theorem wf_u8{z:Int}(h:(Lit.int .u8 z).wf=true):0≤z∧z≤255:=by
 simpa [Lit.wf,IntKind.min,IntKind.max,IntKind.bits,IntKind.signed] using h
structure BoxD where
 to:Int
 pub:List Int
 n:Int
 prev:Int
 body:ByteArray
structure OpD where
 author:Int
 seq:Int
 parents:List (List Int)
 kind:Int
 who:List Int
 of:List Int
 check:List Int
 text:ByteArray
 boxes:List BoxD
structure NodeD where
 id:List Int
 op:OpD
 past:List Int
def kd(k:List Int):List CD:=k.map (.int .u8)
def BoxD.row(b:BoxD):List CD:=[CD.int .i64 b.to]++(kd b.pub++[CD.int .u32 b.n,.int .u32 b.prev,.str b.body])
def OpD.row(o:OpD):List CD:=[CD.int .i64 o.author,.int .u32 o.seq,.sl (o.parents.map kd),.int .i64 o.kind,.sl (o.who.map fun z=>[.int .i64 z])]++(kd o.of++(kd o.check++[.str o.text,.sl (o.boxes.map BoxD.row)]))
def keyK:List CK:=List.replicate 32 (.int .u8)
def boxK:List CK:=[CK.int .i64]++(keyK++[CK.int .u32,.int .u32,.str])
def opK:List CK:=[CK.int .i64,.int .u32,.sl keyK,.int .i64,.sl [.int .i64]]++(keyK++(keyK++[CK.str,.sl boxK]))
structure BoxD.Wf (b:BoxD):Prop where
 to:I64 b.to
 pub:Key32 b.pub
 n:U32 b.n
 prev:U32 b.prev
 body:b.body.size≤maxLen
structure OpD.Wf (o:OpD):Prop where
 author:I64 o.author
 seq:U32 o.seq
 parents:∀k∈o.parents,Key32 k
 plen:o.parents.length≤maxLen
 kind:I64 o.kind
 who:∀z∈o.who,I64 z
 wlen:o.who.length≤maxLen
 of:Key32 o.of
 check:Key32 o.check
 text:o.text.size≤maxLen
 boxes:∀b∈o.boxes,b.Wf
 blen:o.boxes.length≤maxLen
theorem key_of{ds:List CD}(h:OkL keyK ds):∃k,ds=kd k∧Key32 k:=by
 obtain⟨zs,rfl,hl,hz⟩:=OkL.ints h
 exact⟨zs,rfl,hl,fun z hm=>wf_u8 (hz z hm)⟩
theorem box_of{ds:List CD}(h:OkL boxK ds):∃b:BoxD,ds=b.row∧b.Wf:=by
 obtain⟨a,r,rfl,h1,h2⟩:=OkL.split h
 obtain⟨d,r1,rfl,o1,n1⟩:=h1.cons
 obtain rfl:=n1.nil
 obtain⟨to,rfl,w1⟩:=ok_int o1
 obtain⟨c,r2,rfl,h3,h4⟩:=OkL.split h2
 obtain⟨k,rfl,hk⟩:=key_of h3
 obtain⟨d,r3,rfl,o2,h5⟩:=h4.cons
 obtain⟨n,rfl,w2⟩:=ok_int o2
 obtain⟨d,r4,rfl,o3,h6⟩:=h5.cons
 obtain⟨p,rfl,w3⟩:=ok_int o3
 obtain⟨d,r5,rfl,o4,h7⟩:=h6.cons
 obtain⟨s,rfl,w4⟩:=ok_str o4
 obtain rfl:=h7.nil
 exact⟨⟨to,k,n,p,s⟩,rfl,wf_i64 w1,hk,wf_u32 w2,wf_u32 w3,w4⟩
theorem op_of{ds:List CD}(h:OkL opK ds):∃o:OpD,ds=o.row∧o.Wf:=by
 obtain⟨a,r,rfl,h1,h2⟩:=OkL.split h
 obtain⟨d1,r11,rfl,o11,g1⟩:=h1.cons
 obtain⟨au,rfl,w1⟩:=ok_int o11
 obtain⟨d2,r12,rfl,o12,g2⟩:=g1.cons
 obtain⟨sq,rfl,w2⟩:=ok_int o12
 obtain⟨d3,r13,rfl,o13,g3⟩:=g2.cons
 obtain⟨ps,rfl,w3,l3⟩:=ok_keys o13
 obtain⟨d4,r14,rfl,o14,g4⟩:=g3.cons
 obtain⟨ki,rfl,w4⟩:=ok_int o14
 obtain⟨d5,r15,rfl,o15,g5⟩:=g4.cons
 obtain⟨wh,rfl,w5,l5⟩:=ok_ints o15
 obtain rfl:=g5.nil
 obtain⟨c,r2,rfl,h3,h4⟩:=OkL.split h2
 obtain⟨kof,rfl,hof⟩:=key_of h3
 obtain⟨c5,r5,rfl,h5,h6⟩:=OkL.split h4
 obtain⟨kck,rfl,hck⟩:=key_of h5
 obtain⟨d,r3,rfl,o2,h7⟩:=h6.cons
 obtain⟨s,rfl,w6⟩:=ok_str o2
 obtain⟨d8,r8,rfl,o8,h8⟩:=h7.cons
 obtain rfl:=h8.nil
 obtain⟨rows,rfl,hm,hr⟩:=ok_sl o8
 obtain⟨bs,rfl,hb⟩:=rows_of (f:=BoxD.row) (R:=BoxD.Wf) rows (fun row hrow=>box_of (hr row hrow))
 exact⟨⟨au,sq,ps,ki,wh,kof,kck,s,bs⟩,rfl,wf_i64 w1,wf_u32 w2,fun k hk=>⟨(w3 k hk).1,fun z hz=>wf_u8 ((w3 k hk).2 z hz)⟩,l3,wf_i64 w4,fun z hz=>wf_i64 (w5 z hz),l5,hof,hck,w6,hb,by simpa using hm⟩
theorem ValL.key{H:AH}{k:List Int}{us:List Value}(h:ValL H (kd k) us):us=iv .u8 k:=ValL.ints h
def BxV(H:AH)(v:Value)(l:List BoxD):Prop:=CD.Val H (.sl (l.map BoxD.row)) v
def KsV(H:AH)(v:Value)(l:List (List Int)):Prop:=CD.Val H (.sl (l.map kd)) v
def InV(H:AH)(v:Value)(l:List Int):Prop:=CD.Val H (.sl (l.map fun z=>[.int .i64 z])) v
structure BoxC (H:AH) (us:List Value) (b:BoxD):Prop where
 len:us.length=36
 c0:us[0]?=some (.int .i64 b.to)
 pub:(us.drop 1).take 32=iv .u8 b.pub
 c33:us[33]?=some (.int .u32 b.n)
 c34:us[34]?=some (.int .u32 b.prev)
 c35:us[35]?=some (.string b.body)
structure OpC (H:AH) (us:List Value) (o:OpD) (pv wv bv:Value):Prop where
 len:us.length=71
 c0:us[0]?=some (.int .i64 o.author)
 c1:us[1]?=some (.int .u32 o.seq)
 c2:us[2]?=some pv
 c3:us[3]?=some (.int .i64 o.kind)
 c4:us[4]?=some wv
 of:(us.drop 5).take 32=iv .u8 o.of
 check:(us.drop 37).take 32=iv .u8 o.check
 c69:us[69]?=some (.string o.text)
 c70:us[70]?=some bv
 parents:KsV H pv o.parents
 who:InV H wv o.who
 boxes:BxV H bv o.boxes
theorem box_c{H:AH}{b:BoxD}(hw:b.Wf){us:List Value}(h:ValL H b.row us):BoxC H us b:=by
 obtain⟨a,r,rfl,h1,h2⟩:=ValL.split h
 obtain⟨u,r1,rfl,v1,n1⟩:=h1.cons
 obtain rfl:=n1.nil
 obtain⟨c,r2,rfl,h3,h4⟩:=ValL.split h2
 have hk:=h3.key
 obtain⟨u2,r3,rfl,v2,h5⟩:=h4.cons
 obtain⟨u3,r4,rfl,v3,h6⟩:=h5.cons
 obtain⟨u4,r5,rfl,v4,h7⟩:=h6.cons
 obtain rfl:=h7.nil
 rw [val_int v1,val_int v2,val_int v3,val_str v4,hk]
 have hl:(iv .u8 b.pub).length=32:=by rw [iv_length];exact hw.pub.1
 refine⟨by simp [hl],rfl,?_,?_,?_,?_⟩
 ·show (iv .u8 b.pub++_).take 32=_
  rw [List.take_append_of_le_length (by omega),tkL (by omega)]
 ·exact (gaR (l₁:=iv .u8 b.pub) (i:=32) (by omega)).trans (by rw [hl];rfl)
 ·exact (gaR (l₁:=iv .u8 b.pub) (i:=33) (by omega)).trans (by rw [hl];rfl)
 ·exact (gaR (l₁:=iv .u8 b.pub) (i:=34) (by omega)).trans (by rw [hl];rfl)
theorem op_c{H:AH}{o:OpD}(hw:o.Wf){us:List Value}(h:ValL H o.row us):∃pv wv bv,OpC H us o pv wv bv:=by
 obtain⟨a,r,rfl,h1,h2⟩:=ValL.split h
 obtain⟨u0,r11,rfl,v0,g1⟩:=h1.cons
 obtain⟨u1,r12,rfl,v1,g2⟩:=g1.cons
 obtain⟨pv,r13,rfl,vp,g3⟩:=g2.cons
 obtain⟨u3,r14,rfl,v3,g4⟩:=g3.cons
 obtain⟨wv,r15,rfl,vw,g5⟩:=g4.cons
 obtain rfl:=g5.nil
 obtain⟨c,r2,rfl,h3,h4⟩:=ValL.split h2
 have hk:=h3.key
 obtain⟨c2,r3,rfl,h5,h6⟩:=ValL.split h4
 have hk2:=h5.key
 obtain⟨u4,r4,rfl,v4,h7⟩:=h6.cons
 obtain⟨bv,r5,rfl,vb,h8⟩:=h7.cons
 obtain rfl:=h8.nil
 have hl:(iv .u8 o.of).length=32:=by rw [iv_length];exact hw.of.1
 have hl2:(iv .u8 o.check).length=32:=by rw [iv_length];exact hw.check.1
 rw [val_int v0,val_int v1,val_int v3,val_str v4,hk,hk2]
 refine⟨pv,wv,bv,?_⟩
 have e1:=hw.of.1
 have e2:=hw.check.1
 have key:∀ (X:List Value) (j:Nat),([Value.int .i64 o.author,.int .u32 o.seq,pv,.int .i64 o.kind,wv]++(iv .u8 o.of++(iv .u8 o.check++X)))[69+j]?=X[j]?:=by
  intro X j
  rw [gaR (by simp;omega),gaR (by simp;omega),gaR (by simp;omega)]
  congr 1
  simp
  omega
 refine⟨by simp [hl,hl2],rfl,rfl,rfl,rfl,rfl,?_,?_,?_,?_,vp,vw,vb⟩
 ·show (iv .u8 o.of++_).take 32=_
  rw [List.take_append_of_le_length (by omega),tkL (by omega)]
 ·show ((iv .u8 o.of++(iv .u8 o.check++_)).drop 32).take 32=_
  rw [List.drop_append_of_le_length (by omega),List.drop_of_length_le (by omega),List.nil_append,List.take_append_of_le_length (by omega),tkL (by omega)]
 ·exact key _ 0
 ·exact key _ 1
end
section
attribute [local simp] wb_bool wb_undef with_lit XL_nil XL_cons XLc_val XLc_call step1_eq stepW_t stepW_f stepC_n stepC_s stepX_s stepX_n stepN_s calleeX xrecv oneV xop_eq xopR_s xopR_n wantedA_eq wantedG_n wantedG_s plain1_int plain1_bool plain1_string bits_i64 bits_u64 bits_u32 bits_u16 bits_u8 xeqA xagg xcmp xarr allK_iv num_iv calleeOf xread xeff xbin xint xnil xun xstr xload xconv xpart xfield xfieldAddr xindexAddr xindex bnd asInt? xslice xlen xmin xmax xbuild xfill xappend xapp2 xappstr xappmk xcap xcopy xcells eval_tmp eval_const put_at put_none fr0_at cells_agg cells_int cells_bool cells_string cells_ptr cells_slice notTuple tab iv_all hget_app hget_app0 hget_cons0 hget_cons set_app set_app0 setR setR_one QL_nil QL_cons QLc_val stepQ_t stepQ_f stepQC_n stepQC_s stepQX_s SL_nil SL_cons SLc_val stepS_t stepS_f ltT ltF leT leF eqT eqF ltTn ltFn leTn leFn eqTn eqFn beqT beqF bneT bneF wi64 wu64 wu32 wu16 wu8 tmodP tdivP hgetL hgetNe hgetEq setL nums_def nums_len Nat.succ_le_of_lt List.getElem?_cons_zero List.getElem?_cons_succ Option.getD_some Int.toNat_add Int.toNat_mul agM okM agB agI agS agP agL agA okB okI okS okP okSl okA thenQ_ret scopeQ_ret inBlockQ_ret RQ resL resV PL_nil plainB_lit PL_cons PLc_val PLc_new stepP_t stepP_f stepPC_n stepPC_s stepPX_s stepPX_n stepPV_n stepPV_s stepPA_t stepPA_c stepPA_l stepPN_s allocOp reloc_sl reloc_ptr
section
def nmL(n:Int):List Int:=116::101::114::109::n/16777216%256::n/65536%256::n/256%256::n%256::zl 24
theorem nmL_len(n:Int):(nmL n).length=32:=rfl
theorem nmL_by(n:Int):By (nmL n):=by
 intro x hx
 unfold nmL at hx
 simp only [List.mem_cons]at hx
 rcases hx with h | h | h | h | h | h | h | h | h
 all_goals first | omega | (rw [List.eq_of_mem_replicate h];omega)
theorem u8w(x:Int):IntKind.u8.wrap x=x%256:=by
 show x%2 ^ 8=_
 rfl
def plN(k:List Int):Int:=k.getD 4 0*16777216+k.getD 5 0*65536+k.getD 6 0*256+k.getD 7 0
theorem plN_nm{n:Int}(h:0≤n∧n<4294967296):plN (nmL n)=n:=by
 show n/16777216%256*16777216+n/65536%256*65536+n/256%256*256+n%256=n
 omega
theorem nm_inj{a b:Int}(ha:0≤a∧a<4294967296)(hb:0≤b∧b<4294967296)(h:nmL a=nmL b):a=b:=by rw [←plN_nm ha,h,plN_nm hb]
theorem w64{x:Int}(h:0≤x∧x<9223372036854775808):IntKind.i64.wrap x=x:=by
 simp [IntKind.wrap,IntKind.bits,IntKind.signed]
 omega
theorem or64i{c w:Int}(n:Nat)(m:Int)(hm:m=2 ^ n)(hw:0≤w∧w<m)(hc:0≤c∧c%m=0)(h:c+w<9223372036854775808):bitsOf .or .i64 c w=c+w:=by
 obtain⟨w,rfl⟩:=Int.eq_ofNat_of_zero_le hw.1
 obtain⟨c,rfl⟩:=Int.eq_ofNat_of_zero_le hc.1
 have e3:((2 ^ n:Nat):Int)=2 ^ n:=by simp
 obtain⟨M,hM⟩:∃M:Nat,M=2 ^ n:=⟨_,rfl⟩
 rw [←hM]at e3
 rw [←e3]at hm
 subst hm
 have hw2:w<M:=by have:=hw.2;omega
 have hc2:c=c/M*M:=by
  have h1:c%M=0:=by have:=hc.2;omega
  have:=Nat.div_add_mod c M
  rw [h1,Nat.mul_comm]at this
  omega
 have e2:((BitVec.ofInt 64 (c:Int)) ||| (BitVec.ofInt 64 (w:Int))).toNat=c+w:=by
  rw [BitVec.toNat_or,BitVec.toNat_ofInt,BitVec.toNat_ofInt]
  have a1:((w:Int)%((2 ^ 64:Nat):Int)).toNat=w:=by omega
  have a2:((c:Int)%((2 ^ 64:Nat):Int)).toNat=c:=by omega
  rw [a1,a2]
  generalize c/M=q at hc2
  rw [hc2,hM,Nat.mul_comm q,←Nat.two_pow_add_eq_or_of_lt (by rw [←hM];exact hw2)]
 show IntKind.i64.wrap (((BitVec.ofInt 64 (c:Int)) ||| (BitVec.ofInt 64 (w:Int))).toNat:Int)=_
 rw [e2,w64 (by omega)]
 omega
theorem name_rc{γ:Nat→Option Nat}{H:AH}{n:Int}(hn:0≤n∧n<4611686018427387904):AC Tryd.prog H.length γ 60 #[.int .i64 n] H (fun v' _=>v'=.agg (iv .u8 (nmL n)).toArray):=by
 have w0:IntKind.u8.wrap n=n%256:=u8w n
 have w1:IntKind.u8.wrap (n.fdiv 256)=n/256%256:=by rw [u8w,Int.fdiv_eq_ediv_of_nonneg _ (by omega)]
 have w2:IntKind.u8.wrap (n.fdiv 65536)=n/65536%256:=by rw [u8w,Int.fdiv_eq_ediv_of_nonneg _ (by omega)]
 have w3:IntKind.u8.wrap (n.fdiv 16777216)=n/16777216%256:=by rw [u8w,Int.fdiv_eq_ediv_of_nonneg _ (by omega)]
 have e:((((setR (iv .u8 (zl 32)) 0 ((iv .u8 [116,101,114,109]).take 4)).set 4 (.int .u8 (n/16777216%256))).set 5 (.int .u8 (n/65536%256))).set 6 (.int .u8 (n/256%256))).set 7 (.int .u8 (n%256))=iv .u8 (nmL n):=rfl
 have lN:(nmL n).length=32:=rfl
 generalize nmL n=N at *
 have ht:(iv .u8 N).take 32=iv .u8 N:=tkL (by simp [lN])
 have hs:setR (iv .u8 (zl 32)) 0 (iv .u8 N)=iv .u8 N:=setR_all _ _ (by simp [lN])
 refine ac_of_aw Tryd.func60 rfl Tryd.ntmps60 Tryd.results60 (by simp) ?_
 (refine aso fun K hK=>?_;simp (disch:=first|omega|simp only [lnS];try omega) [-getElem?_pos,-getElem?_neg];refine hK _ _ ?_;clear hK K)
 (refine aso fun K hK=>?_;simp (disch:=first|omega|simp only [lnS];try omega) [-getElem?_pos,-getElem?_neg];refine hK _ _ ?_;clear hK K)
 (refine aso fun K hK=>?_;simp (disch:=first|omega|simp only [lnS];try omega) [-getElem?_pos,-getElem?_neg];refine hK _ _ ?_;clear hK K)
 (refine aso fun K hK=>?_;simp (disch:=first|omega|simp only [lnS];try omega) [-getElem?_pos,-getElem?_neg,w0,w1,w2,w3,e];refine hK _ _ ?_;clear hK K)
 (refine aso fun K hK=>?_;simp (disch:=first|omega|simp only [lnS];try omega) [-getElem?_pos,-getElem?_neg,lN,ht,hs];refine hK _ _ ?_;clear hK K)
 (refine aw_ret ?_;simp (disch:=first|omega|simp only [lnS];try omega) [-getElem?_pos,-getElem?_neg,lN,ht])
theorem place_rc{γ:Nat→Option Nat}{H:AH}{k:List Int}(hk:k.length=32)(hb:By k):AC Tryd.prog H.length γ 58 #[.agg (iv .u8 k).toArray] H (fun v' _=>v'=.tuple #[.int .i64 (plN k),.bool (decide (nmL (plN k)=k))]):=by
 have b4:=hb.get 4
 have b5:=hb.get 5
 have b6:=hb.get 6
 have b7:=hb.get 7
 have htk:(iv .u8 k).take 32=iv .u8 k:=tkL (by simp [hk])
 have g4:(iv .u8 k)[4]?=some (.int .u8 (k.getD 4 0)):=iv_getN _ _ _ (by omega)
 have g5:(iv .u8 k)[5]?=some (.int .u8 (k.getD 5 0)):=iv_getN _ _ _ (by omega)
 have g6:(iv .u8 k)[6]?=some (.int .u8 (k.getD 6 0)):=iv_getN _ _ _ (by omega)
 have g7:(iv .u8 k)[7]?=some (.int .u8 (k.getD 7 0)):=iv_getN _ _ _ (by omega)
 have hpl:plN k=k.getD 4 0*16777216+k.getD 5 0*65536+k.getD 6 0*256+k.getD 7 0:=rfl
 have hc:=fun (G:AH)=>name_rc (γ:=γ) (H:=G) (n:=plN k) (by omega)
 have lN:(nmL (plN k)).length=32:=rfl
 have htN:(iv .u8 (nmL (plN k))).take 32=iv .u8 (nmL (plN k)):=rfl
 have hkN:(nmL (plN k)==k)=decide (nmL (plN k)=k):=by rw [Bool.eq_iff_iff];simp
 generalize nmL (plN k)=N at *
 generalize plN k=p at *
 generalize k.getD 4 0=x4 at *
 generalize k.getD 5 0=x5 at *
 generalize k.getD 6 0=x6 at *
 generalize k.getD 7 0=x7 at *
 have w4:IntKind.i64.wrap x4=x4:=w64 (by omega)
 have w5:IntKind.i64.wrap x5=x5:=w64 (by omega)
 have w6:IntKind.i64.wrap x6=x6:=w64 (by omega)
 have w7:IntKind.i64.wrap x7=x7:=w64 (by omega)
 have v4:IntKind.i64.wrap (x4*16777216)=x4*16777216:=w64 (by omega)
 have v5:IntKind.i64.wrap (x5*65536)=x5*65536:=w64 (by omega)
 have v6:IntKind.i64.wrap (x6*256)=x6*256:=w64 (by omega)
 have o1:bitsOf .or .i64 (x4*16777216) (x5*65536)=x4*16777216+x5*65536:=or64i 24 16777216 rfl (by omega) (by omega) (by omega)
 have o2:bitsOf .or .i64 (x4*16777216+x5*65536) (x6*256)=x4*16777216+x5*65536+x6*256:=or64i 16 65536 rfl (by omega) (by omega) (by omega)
 have o3:bitsOf .or .i64 (x4*16777216+x5*65536+x6*256) x7=p:=by rw [hpl];exact or64i 8 256 rfl (by omega) (by omega) (by omega)
 refine ac_of_aw Tryd.func58 rfl Tryd.ntmps58 Tryd.results58 (by simp) ?_
 (refine aso fun K hK=>?_;simp (disch:=first|omega|simp only [lnS];try omega) [-getElem?_pos,-getElem?_neg,htk];refine hK _ _ ?_;clear hK K)
 (refine aso fun K hK=>?_;simp (disch:=first|omega|simp only [lnS];try omega) [-getElem?_pos,-getElem?_neg];refine hK _ _ ?_;clear hK K)
 refine aw_seq ?_
 (refine aw_plan [] [] [0,1,2,3,4,5,6,7,8,9,10,11,12,13,14,15,16,17,18,19,20,21,22,23,24,25] 26 0 (by kernel_rfl) (by kernel_rfl) (by kernel_rfl) (fun K hK=>?_));simp only [sel,gcS,gdZ];simp (disch:=first|omega|simp only [lnS];try omega) [-getElem?_pos,-getElem?_neg,g4,g5,g6,g7,w4,w5,w6,w7,v4,v5,v6,o1,o2,o3,Nat.add_assoc]
 refine hK _ _ ?_;clear hK K
 refine aw_seq ?_
 (refine aw_plan [] [] [0,1,2,3,4,5,6] 7 0 (by kernel_rfl) (by kernel_rfl) (by kernel_rfl) (fun K hK=>?_));simp only [sel,gcS,gdZ];simp (disch:=first|omega|simp only [lnS];try omega) [-getElem?_pos,-getElem?_neg,htk,Nat.add_assoc]
 refine PLc_call (by kernel_rfl) (fun L hL=>hc _) (by simp [pv_iv,pv_int,pv_bool,pv_string,pv_tup2,pv_tup3,iv_plain,p2_int,p2_bool,p2_string]) ?_
 try simp (disch:=first|omega|simp only [lnS];try omega) [-getElem?_pos,-getElem?_neg,htk,htN,lN,Nat.add_assoc]
 refine hK _ _ ?_;clear hK K
 (refine aw_ret ?_;simp (disch:=first|omega|simp only [lnS];try omega) [-getElem?_pos,-getElem?_neg,hkN])
end
section
def bA(l:List Int):ByteArray:=⟨(Lib.bytesOf l).toArray⟩
def cmpL(a b:List Int):Int:=Extern.BytealgCompare.cmp (bA a) (bA b)
theorem find_first{p:Nat→Bool}:∀ (n s i:Nat),s≤i→i<s+n→(∀k,s≤k→k<i→p k=false)→p i=true→(List.range' s n).find? p=some i
 | 0,s,i,h1,h2,_,_=>by omega
 | n+1,s,i,h1,h2,h3,h4=>by
  rw [List.range'_succ,List.find?_cons]
  by_cases e:s=i
  ·subst e;rw [h4]
  ·rw [h3 s (nlE _) (by omega)]
   exact find_first n (s+1) i (by omega) (by omega) (fun k hk hk2=>h3 k (by omega) hk2) h4
theorem find_none{p:Nat→Bool}:∀ (n s:Nat),(∀k,s≤k→k<s+n→p k=false)→(List.range' s n).find? p=none
 | 0,s,_=>rfl
 | n+1,s,h=>by
  rw [List.range'_succ,List.find?_cons,h s (nlE _) (by omega)]
  exact find_none n (s+1) fun k hk hk2=>h k (by omega) (by omega)
theorem bA_size(l:List Int):(bA l).size=l.length:=by simp [bA,Lib.bytesOf,ByteArray.size]
theorem bA_get{l:List Int}{i:Nat}{x:Int}(h:l[i]?=some x):(bA l)[i]! = x.toNat.toUInt8:=by
 have hi:=(gsI.1 h).1
 have hs:i<(bA l).size:=by rw [bA_size];exact hi
 rw [getElem!_pos (bA l) i hs]
 obtain⟨_,rfl⟩:=gsI.1 h
 simp [bA,Lib.bytesOf,ByteArray.getElem_eq_getElem_data]
theorem u8_ne{x y:Int}(hx:0≤x∧x≤255)(hy:0≤y∧y≤255):(x.toNat.toUInt8 != y.toNat.toUInt8)=decide (x≠y):=by
 have h:∀a b:Nat,a<256→b<256→(a.toUInt8=b.toUInt8↔a=b):=fun a b ha hb=>by
  constructor
  ·intro e
   have:=congrArg UInt8.toNat e
   simp at this;omega
  ·rintro rfl;rfl
 by_cases e:x=y
 ·subst e;simp
 ·have:¬ x.toNat.toUInt8=y.toNat.toUInt8:=fun e2=>e (by have:=(h _ _ (by omega) (by omega)).1 e2;omega)
  simp [this,e]
theorem u8_lt{x y:Int}(hx:0≤x∧x≤255)(hy:0≤y∧y≤255):(x.toNat.toUInt8<y.toNat.toUInt8)↔x<y:=by
 rw [UInt8.lt_iff_toNat_lt]
 simp only [Nat.toUInt8,UInt8.toNat_ofNat']
 omega
theorem cmpL_at{a b:List Int}(ha:By a)(hb:By b)(hl:a.length=b.length){i:Nat}{x y:Int}(hx:a[i]?=some x)(hy:b[i]?=some y)(hxy:x≠y)(hpre:a.take i=b.take i):cmpL a b=if x<y then -1 else 1:=by
 have hi:=(gsI.1 hx).1
 have hxb:=ha x (moG hx)
 have hyb:=hb y (moG hy)
 unfold cmpL Extern.BytealgCompare.cmp
 rw [bA_size,bA_size,List.range_eq_range',find_first (p:=fun i=>(bA a)[i]! != (bA b)[i]!) (min a.length b.length) 0 i (by omega) (by omega) (fun k _ hk=>?_) ?_]
 ·simp only [bA_get hx,bA_get hy]
  by_cases h:x<y
  ·rw [if_pos h,if_pos ((u8_lt hxb hyb).2 h)]
  ·rw [if_neg h,if_neg (fun h2=>h ((u8_lt hxb hyb).1 h2))]
 ·simp only [bA_get hx,bA_get hy]
  rw [u8_ne hxb hyb]
  simpa using hxy
 ·obtain⟨u,hu⟩:∃u,a[k]?=some u:=⟨_,geE (by omega)⟩
  have hv:b[k]?=some u:=by
   have h1:(a.take i)[k]?=some u:=by rw [List.getElem?_take_of_lt hk,hu]
   rw [hpre,List.getElem?_take_of_lt hk]at h1
   exact h1
  simp only [bA_get hu,bA_get hv]
  simp
theorem cmpL_eq{a:List Int}:cmpL a a=0:=by
 unfold cmpL Extern.BytealgCompare.cmp
 rw [List.range_eq_range',find_none _ 0 (fun k _ _=>by simp)]
 simp
theorem cmp0_ac{H:AH}{γ:Nat→Option Nat}{nro i j n:Nat}{a b:List Int}{t1 t2:TypeId}{e1 e2:Option Nat}(ha:hget H i=some ⟨iv .u8 a,t1,e1⟩)(hb:hget H j=some ⟨iv .u8 b,t2,e2⟩)(hal:a.length=n)(hbl:b.length=n) :
  AC Tryd.prog nro γ 73 #[.slice (some ⟨i,0,none⟩) n n,.slice (some ⟨j,0,none⟩) n n] H (fun v' H'=>v'=.int .i64 (cmpL a b)∧H'=H):=by
 intro m base w args' hR hsz hva
 obtain⟨y0,hy0,hv0⟩:=hva 0 _ rfl
 obtain⟨y1,hy1,hv1⟩:=hva 1 _ rfl
 obtain rfl:args'=#[y0,y1]:=by
  have h2:args'.size=2:=hsz
  apply Array.ext_getElem?
  intro k
  match k with
  | 0=>rw [hy0];rfl
  | 1=>rw [hy1];rfl
  | k+2=>rw [Array.getElem?_eq_none (by omega),Array.getElem?_eq_none (by simp)]
 obtain⟨en0,c0,_,hm0,_,_,rfl⟩:=hv0.sl_
 obtain⟨en1,c1,_,hm1,_,_,rfl⟩:=hv1.sl_
 have cell:∀ (k:Nat) (l:List Int) (t:TypeId) (e:Option Nat) (en:Ent),hget H k=some ⟨iv .u8 l,t,e⟩→m[k]?=some en→∀ (q:Nat) (x:Int),l[q]?=some x→w.cell? ((⟨en.b,en.o+0,none⟩:Addr).add q)=some (.int .u8 x):=fun k l t e en hk hm q x hx=>by
  obtain⟨y,hy,hv⟩:=hR.cell hk hm (off:=q) (x:=.int .u8 x) (by simp [iv,hx])
  have:=hv.eq rfl
  subst this
  have e:(⟨en.b,en.o+0,none⟩:Addr).add q=⟨en.b,en.o+q,none⟩:=by unfold Addr.add;split <;> simp_all
  rw [e,hy]
 have l0:=Lib.run_loadBytesX (P:=Tryd.prog) w a ⟨en0.b,en0.o+0,none⟩ .empty (cell i a t1 e1 en0 ha hm0)
 have l1:=Lib.run_loadBytesX (P:=Tryd.prog) w b ⟨en1.b,en1.o+0,none⟩ .empty (cell j b t2 e2 en1 hb hm1)
 have he:∀l:List Int,(⟨ByteArray.empty.data++(Lib.bytesOf l).toArray⟩:ByteArray)=bA l:=fun l=>by
  apply ByteArray.ext
  show (#[]:Array UInt8)++(Lib.bytesOf l).toArray=(Lib.bytesOf l).toArray
  simp
 rw [he,hal]at l0
 rw [he,hbl]at l1
 refine .inr ⟨.int .i64 (cmpL a b),?_,m,.int .i64 (cmpL a b),.int .i64 (cmpL a b),H,rfl,List.prefix_rfl,plainV_mk rfl,hR,.refl _ _,rfl,rfl⟩
 rw [run_callFunc_extern (fn:=Tryd.f73) (by kernel_rfl) (by kernel_rfl) (by kernel_rfl) (by kernel_rfl) (e:=Extern.BytealgCompare.compare) (by kernel_rfl)]
 have:(Extern.BytealgCompare.compare #[.slice (some ⟨en0.b,en0.o+0,none⟩) n c0,.slice (some ⟨en1.b,en1.o+0,none⟩) n c1]).run Tryd.prog w=.ok (.int .i64 (cmpL a b)) w:=by
  change Sem.run _ (do pure (goInt (Extern.BytealgCompare.cmp (←Extern.Bytes.bytesOf (.slice (some ⟨en0.b,en0.o+0,none⟩) n c0)) (←Extern.Bytes.bytesOf (.slice (some ⟨en1.b,en1.o+0,none⟩) n c1))))) w=_
  simp only [Extern.Bytes.bytesOf,Sem.run_bind,Sem.run_pure,l0,l1,Result.andThen]
  rfl
 rw [this]
 rfl
theorem compare_ac{H:AH}{γ:Nat→Option Nat}{nro i j n:Nat}{a b:List Int}{t1 t2:TypeId}{e1 e2:Option Nat}(ha:hget H i=some ⟨iv .u8 a,t1,e1⟩)(hb:hget H j=some ⟨iv .u8 b,t2,e2⟩)(hal:a.length=n)(hbl:b.length=n) :
  AC Tryd.prog nro γ 67 #[.slice (some ⟨i,0,none⟩) n n,.slice (some ⟨j,0,none⟩) n n] H (fun v' H'=>v'=.int .i64 (cmpL a b)∧H'=H):=by
 refine ac_of_aw Tryd.func67 rfl Tryd.ntmps67 Tryd.results67 (by simp) ?_
 (refine aso fun K hK=>?_;simp (disch:=first|omega|simp only [lnS];try omega);refine hK _ _ ?_;clear hK K)
 refine aso fun K hK=>?_
 simp (disch:=first|omega|simp only [lnS];try omega)
 refine⟨by kernel_rfl,(cmp0_ac ha hb hal hbl).mono ?_⟩
 rintro v1 G1 ⟨rfl,rfl⟩
 try simp (disch:=first|omega|simp only [lnS];try omega)
 refine hK _ _ ?_;clear hK K
 (refine aw_ret ?_;simp (disch:=first|omega|simp only [lnS];try omega))
end
end
section
theorem nt_ptrG(a:Option Addr):notTuple (.pointer a)=true:=rfl
theorem nt_intG(k:IntKind)(x:Int):notTuple (.int k x)=true:=rfl
theorem nt_slG(a:Option Addr)(n c:Nat):notTuple (.slice a n c)=true:=rfl
theorem nt_strG(s:ByteArray):notTuple (.string s)=true:=rfl
theorem nt_aggG(a:Array Value):notTuple (.agg a)=true:=rfl
theorem nt_boolG(b:Bool):notTuple (.bool b)=true:=rfl
end
section
attribute [local simp] wb_bool wb_undef with_lit XL_nil XL_cons XLc_val XLc_call step1_eq stepW_t stepW_f stepC_n stepC_s stepX_s stepX_n stepN_s calleeX xrecv oneV xop_eq xopR_s xopR_n wantedA_eq wantedG_n wantedG_s plain1_int plain1_bool plain1_string bits_i64 bits_u64 bits_u32 bits_u16 bits_u8 xeqA xagg xcmp xarr allK_iv num_iv calleeOf xread xeff xbin xint xnil xun xstr xload xconv xpart xfield xfieldAddr xindexAddr xindex bnd asInt? xslice xlen xmin xmax xbuild xfill xappend xapp2 xappstr xappmk xcap xcopy xcells eval_tmp eval_const put_at put_none fr0_at cells_agg cells_int cells_bool cells_string cells_ptr cells_slice notTuple tab iv_all hget_app hget_app0 hget_cons0 hget_cons set_app set_app0 setR setR_one QL_nil QL_cons QLc_val stepQ_t stepQ_f stepQC_n stepQC_s stepQX_s SL_nil SL_cons SLc_val stepS_t stepS_f ltT ltF leT leF eqT eqF ltTn ltFn leTn leFn eqTn eqFn beqT beqF bneT bneF wi64 wu64 wu32 wu16 wu8 tmodP tdivP hgetL hgetNe hgetEq setL nums_def nums_len Nat.succ_le_of_lt List.getElem?_cons_zero List.getElem?_cons_succ Option.getD_some Int.toNat_add Int.toNat_mul agM okM agB agI agS agP agL agA okB okI okS okP okSl okA nt_strG nt_boolG nt_aggG nt_intG nt_ptrG nt_slG
section
structure Acc (H:AH) (t e:TypeId) (v:Value) (n:Nat) (E:Nat→Value→Prop):Prop where
 nt:notTuple v=true
 cs:v.cells=#[v]
 len:xlen Tryd.prog t v=some (.int .i64 n)
 at_:∀i,i<n→∃p x,notTuple p=true∧xindexAddr Tryd.prog t v (.int .i64 (i:Nat))=some p∧notTuple x=true∧E i x∧∀G:AH,Low H.length H G→xload Tryd.prog e p G=some x
theorem InV.acc{H:AH}{v:Value}{l:List Int}(h:InV H v l):Acc H 39 3 v l.length (fun i x=>x=.int .i64 (l.getD i 0)):=by
 refine⟨(val_nt h).1,(val_nt h).2,?_,fun i hi=>?_⟩
 ·have:=val_len (P:=Tryd.prog) (t := 39) (e := 3) h (by simp)
  rw [List.length_map]at this
  exact this
 ·obtain⟨z,hz⟩:∃z,l[i]?=some z:=⟨_,geE hi⟩
  obtain⟨j,b,us,hv,hb,hle,hx,hus,hul,hle2,hc,hval⟩:=val_at (P:=Tryd.prog) (t := 39) (e := 3) (sz:=1) h (by simp) (by simp) (by omega) (fun row hr=>by
   obtain⟨y,_,rfl⟩:=List.mem_map.1 hr;rfl) (i:=i) (row:=[.int .i64 z]) (by rw [gmP,hz];rfl)
  obtain⟨u,r,rfl,v1,n1⟩:=hval.cons
  obtain rfl:=n1.nil
  have hcell:b.cells[i]?=some (.int .i64 z):=by
   have:=hc 0 (by omega)
   rw [Nat.mul_one,Nat.add_zero]at this
   rw [this,val_int v1];rfl
  refine⟨_,.int .i64 z,rfl,hx,rfl,by simp [gdD,hz],fun G hg=>?_⟩
  have hbG:hget G j=some b:=(hg.1 j (hget_lt hb)).trans hb
  simp [xload,hbG,hcell]
theorem KsV.acc{H:AH}{v:Value}{l:List (List Int)}(h:KsV H v l)(hl:∀k∈l,k.length=32):Acc H 34 41 v l.length (fun i x=>x=.agg (iv .u8 (l.getD i [])).toArray):=by
 refine⟨(val_nt h).1,(val_nt h).2,?_,fun i hi=>?_⟩
 ·have:=val_len (P:=Tryd.prog) (t := 34) (e := 41) h (by simp)
  rw [List.length_map]at this
  exact this
 ·obtain⟨z,hz⟩:∃z,l[i]?=some z:=⟨_,geE hi⟩
  obtain⟨j,b,us,hv,hb,hle,hx,hus,hul,hle2,hc,hval⟩:=val_at (P:=Tryd.prog) (t := 34) (e := 41) (sz:=32) h (by simp) (by simp) (by omega) (fun row hr=>by
   obtain⟨y,hy,rfl⟩:=List.mem_map.1 hr
   unfold kd
   rw [List.length_map]
   exact hl y hy) (i:=i) (row:=kd z) (by rw [gmP,hz];rfl)
  refine⟨_,.agg us.toArray,rfl,hx,rfl,by rw [hval.key];simp [gdD,hz],fun G hg=>?_⟩
  have hbG:hget G j=some b:=(hg.1 j (hget_lt hb)).trans hb
  exact load_at (P:=Tryd.prog) (e := 41) (i:=i) hbG (by simp) (by omega) (by simp) hus hle2
theorem BxV.acc{H:AH}{v:Value}{l:List BoxD}(h:BxV H v l)(hl:∀b∈l,b.Wf):Acc H 47 80 v l.length (fun i x=>∃us b,x=.agg us.toArray∧l[i]?=some b∧BoxC H us b):=by
 refine⟨(val_nt h).1,(val_nt h).2,?_,fun i hi=>?_⟩
 ·have:=val_len (P:=Tryd.prog) (t := 47) (e := 80) h (by simp)
  rw [List.length_map]at this
  exact this
 ·obtain⟨z,hz⟩:∃z,l[i]?=some z:=⟨_,geE hi⟩
  have hzw:=hl z (moG hz)
  obtain⟨j,b,us,hv,hb,hle,hx,hus,hul,hle2,hc,hval⟩:=val_at (P:=Tryd.prog) (t := 47) (e := 80) (sz:=36) h (by simp) (by simp) (by omega) (fun row hr=>by
   obtain⟨y,hy,rfl⟩:=List.mem_map.1 hr
   have:=(hl y hy).pub.1
   simp [BoxD.row,kd,this]) (i:=i) (row:=z.row) (by rw [gmP,hz];rfl)
  refine⟨_,.agg us.toArray,rfl,hx,rfl,⟨us,z,rfl,hz,box_c hzw hval⟩,fun G hg=>?_⟩
  have hbG:hget G j=some b:=(hg.1 j (hget_lt hb)).trans hb
  exact load_at (P:=Tryd.prog) (e := 80) (i:=i) hbG (by simp) (by omega) (by simp) hus hle2
end
end
section
theorem boxed{H:AH}(us:List Value)(t:TypeId):Low H.length H (H++[some ⟨us,t,none⟩])∧hget (H++[some ⟨us,t,none⟩]) H.length=some ⟨us,t,none⟩:=⟨Low.push (nlE _) _,by rw [hget_app0];rfl⟩
end
section
def wv(W:List Nat):List Value:=W.map fun x:Nat=>Value.int .u64 (x:Int)
end
section
attribute [local simp] wb_bool wb_undef with_lit XL_nil XL_cons XLc_val XLc_call step1_eq stepW_t stepW_f stepC_n stepC_s stepX_s stepX_n stepN_s calleeX xrecv oneV xop_eq xopR_s xopR_n wantedA_eq wantedG_n wantedG_s plain1_int plain1_bool plain1_string bits_i64 bits_u64 bits_u32 bits_u16 bits_u8 xeqA xagg xcmp xarr allK_iv num_iv calleeOf xread xeff xbin xint xnil xun xstr xload xconv xpart xfield xfieldAddr xindexAddr xindex bnd asInt? xslice xlen xmin xmax xbuild xfill xappend xapp2 xappstr xappmk xcap xcopy xcells eval_tmp eval_const put_at put_none fr0_at cells_agg cells_int cells_bool cells_string cells_ptr cells_slice notTuple tab iv_all hget_app hget_app0 hget_cons0 hget_cons set_app set_app0 setR setR_one QL_nil QL_cons QLc_val stepQ_t stepQ_f stepQC_n stepQC_s stepQX_s SL_nil SL_cons SLc_val stepS_t stepS_f ltT ltF leT leF eqT eqF ltTn ltFn leTn leFn eqTn eqFn beqT beqF bneT bneF wi64 wu64 wu32 wu16 wu8 tmodP tdivP hgetL hgetNe hgetEq setL nums_def nums_len Nat.succ_le_of_lt List.getElem?_cons_zero List.getElem?_cons_succ Option.getD_some Int.toNat_add Int.toNat_mul agM okM agB agI agS agP agL agA okB okI okS okP okSl okA nt_strG nt_boolG nt_aggG nt_intG nt_ptrG nt_slG thenQ_ret scopeQ_ret inBlockQ_ret RQ resL resV PL_nil plainB_lit PL_cons PLc_val PLc_new stepP_t stepP_f stepPC_n stepPC_s stepPX_s stepPX_n stepPV_n stepPV_s stepPA_t stepPA_c stepPA_l stepPN_s allocOp reloc_sl reloc_ptr
section
def OpD.no:OpD:=⟨0,0,[],0,[],[],[],ByteArray.empty,[]⟩
def NodeD.no:NodeD:=⟨[],OpD.no,[]⟩
def nd(l:List NodeD)(i:Nat):NodeD:=l.getD i NodeD.no
def kyv(k:List Int):Value:=.agg (iv .u8 k).toArray
theorem keyEq_kyv(a b:List Int):keyEq (kyv a) (kyv b)=(a==b):=by
 show ((iv .u8 a).toArray.toList.map num==(iv .u8 b).toArray.toList.map num)=_
 rw [List.toList_toArray,List.toList_toArray,num_iv,num_iv]
theorem iv_allK(l:List Int):allK .u8 (iv .u8 l)=true:=by
 induction l with
 | nil=>rfl
 | cons z l ih=>simp [iv,allK]at ih ⊢;try exact ih
theorem kyv_ok{k:List Int}(h:k.length=32):keyOk Tryd.prog 41 (kyv k)=true:=by
 unfold keyOk kyv
 have:und Tryd.prog 41 = .array 32 5 := by kernel_rfl
 rw [this]
 have h2:und Tryd.prog 5 = .int .u8:=by kernel_rfl
 simp only [h2]
 rw [iv_allK]
 have h3:gl Tryd.prog 41 = true:=by kernel_rfl
 have h4:szt Tryd.prog 5 = 1:=by kernel_rfl
 rw [h3,h4]
 simp [h,iv_length]
end
section
theorem own_inv{H:AH}{v:Value}{e:TypeId}{L:List Int}{F:List Nat}(h:OwnF H v e 1 (iv .i64 L) F):InV H v L:=by
 unfold InV
 rcases h with ⟨rfl,h,_⟩ | ⟨j,n,rfl,hb,hl,_⟩
 ·have:L=[]:=by
   cases L with
   | nil=>rfl
   | cons a L=>simp [iv]at h
  subst this
  exact .nil (fun x hx=>by cases hx)
 ·rw [iv_length,Nat.mul_one]at hl
  subst hl
  have:=CD.Val.sl (H:=H) (sz:=1) (j:=j) (rows:=L.map fun z=>[CD.int .i64 z]) hb (by simp [iv_length]) (fun row hr=>by
   obtain⟨y,_,rfl⟩:=List.mem_map.1 hr;rfl) (fun i row c d x hr hc hx=>by
   rw [gmP]at hr
   cases hL:L[i]? with
   | none=>rw [hL]at hr;cases hr
   | some z=>
    rw [hL]at hr
    cases hr
    cases c with
    | succ c=>cases c <;> cases hc
    | zero=>
     cases hc
     have hx2:(iv .i64 L)[i]?=some x:=by simpa using hx
     rw [iv,gmP,hL]at hx2
     cases hx2
     exact .int)
  rw [List.length_map]at this
  exact this
end
section
theorem keys_getD_ext{a b:List (List Int)}(hl:a.length=b.length)(h:∀k,k<a.length→a.getD k []=b.getD k []):a=b:=by
 refine List.ext_getElem hl fun k h1 h2=>?_
 have:=h k h1
 rw [gdD,gdD,geE h1,geE h2]at this
 exact this
theorem key_getD{a:List (List Int)}(h:∀k∈a,k.length=32){i:Nat}(hi:i<a.length):(a.getD i []).length=32:=by
 rw [gdD,geE hi]
 exact h _ (List.getElem_mem hi)
theorem sameKeys_rc{γ:Nat→Option Nat}{H:AH}{u v:Value}{a b:List (List Int)}(ha:KsV H u a)(hb:KsV H v b)(ka:∀k∈a,k.length=32)(kb:∀k∈b,k.length=32)(hm:a.length≤maxLen):AC Tryd.prog H.length γ 13 #[u,v] H (fun v' _=>v'=.bool (decide (a=b))):=by
 obtain⟨hnt,hvc,hxl,hat⟩:=ha.acc ka
 obtain⟨hnt2,hvc2,hxl2,hat2⟩:=hb.acc kb
 have hm63:a.length≤9223372036854775807:=by simp only [maxLen]at hm;omega
 refine ac_of_aw Tryd.func13 rfl Tryd.ntmps13 Tryd.results13 (by simp) ?_
 (refine aso fun K hK=>?_;simp (disch:=first|omega|simp only [lnS];try omega);refine hK _ _ ?_;clear hK K)
 refine aw_seq (aw_seq ?_)
 by_cases hab:a.length=b.length
 case neg=>
  have hne:((a.length:Int)==(b.length:Int))=false:=by
   rw [Bool.eq_false_iff];simp;omega
  (refine aoo fun K hK=>?_;simp (disch:=first|omega|simp only [lnS];try omega) [-notTuple,hnt,hvc,hnt2,hvc2,-xlen,hxl,hxl2,hab,hne];refine hK _ _ ?_;clear hK K)
  refine awt (by simp<;>omega) ?_
  (refine aso fun K hK=>?_;simp (disch:=first|omega|simp only [lnS];try omega);refine hK _ _ ?_;clear hK K)
  (refine aw_ret ?_;simp (disch:=first|omega|simp only [lnS];try omega))
  all_goals exact fun h=>hab (congrArg List.length h)
 (refine aoo fun K hK=>?_;simp (disch:=first|omega|simp only [lnS];try omega) [-notTuple,hnt,hvc,hnt2,hvc2,-xlen,hxl,hxl2,hab];refine hK _ _ ?_;clear hK K)
 refine awf (by simp<;>omega) ?_
 refine aw_skip ?_
 refine aw_seq (aw_seq ?_)
 (refine aoo fun K hK=>?_;simp (disch:=first|omega|simp only [lnS];try omega);refine hK _ _ ?_;clear hK K)
 refine aw_block ?_
 refine aw_loop (fun c α G=>∃i:Nat,i+c=a.length∧H=G∧α 0=u∧α 1=v∧α 5=.int .i64 (i:Nat)∧∀k,k<i→a.getD k []=b.getD k []) a.length ?_ ?_
 ·exact⟨0,by omega,rfl,by (first|simp;done|rfl),by (first|simp;done|rfl),by (first|simp;done|rfl),fun k hk=>by omega⟩
 rintro c α G ⟨i,hic,rfl,h0,h1,h5,hpre⟩
 refine aw_seq (aw_seq ?_)
 rw [←hab]at hxl2
 by_cases hi:i<a.length
 case neg=>
  (refine aoo fun K hK=>?_;simp (disch:=first|omega|simp only [lnS];try omega) [h0,h5,-notTuple,hnt,hvc,-xlen,hxl,hi];refine hK _ _ ?_;clear hK K)
  refine awf (by simp [hi]<;>omega) ?_
  refine aw_exit (aw_seq ?_)
  (refine aoo fun K hK=>?_;simp (disch:=first|omega|simp only [lnS];try omega);refine hK _ _ ?_;clear hK K)
  (refine aw_ret ?_;simp (disch:=first|omega|simp only [lnS];try omega))
  exact keys_getD_ext hab (fun k hk=>hpre k (by omega))
 (refine aoo fun K hK=>?_;simp (disch:=first|omega|simp only [lnS];try omega) [h0,h5,-notTuple,hnt,hvc,-xlen,hxl,hi];refine hK _ _ ?_;clear hK K)
 refine awt (by simp [hi]<;>omega) ?_
 refine aw_skip (aw_seq ?_)
 refine aw_block ?_
 obtain⟨p,x,q1,q2,q3,rfl,q4⟩:=hat i hi
 obtain⟨p2,x2,q12,q22,q32,rfl,q42⟩:=hat2 i (by omega)
 have q4:=q4 H (Low.refl (nlE _))
 have q42:=q42 H (Low.refl (nlE _))
 have ly:=key_getD ka hi
 have lz:=key_getD kb (i:=i) (by omega)
 obtain⟨y,hy⟩:∃y,y=a.getD i []:=⟨_,rfl⟩
 obtain⟨z,hz⟩:∃z,z=b.getD i []:=⟨_,rfl⟩
 rw [←hy]at q4 ly
 rw [←hz]at q42 lz
 refine aw_seq ?_
 by_cases hyz:y=z
 case neg=>
  have hyb:(y==z)=false:=by simp [hyz]
  (refine aw_plan [] [] [0,1,2,3,4,5,6,7,8] 9 0 (by kernel_rfl) (by kernel_rfl) (by kernel_rfl) (fun K hK=>?_));simp only [sel,gcS,gdZ];simp (disch:=first|omega|simp only [lnS];try omega) [h0,h1,h5,-notTuple,hnt,hvc,hnt2,hvc2,q1,q12,-xindexAddr,q2,q22,-xload,q4,q42,ly,lz,hyz,hyb,Nat.add_assoc]
  refine hK _ _ ?_;clear hK K
  refine awt (by simp<;>omega) ?_
  (refine aso fun K hK=>?_;simp (disch:=first|omega|simp only [lnS];try omega);refine hK _ _ ?_;clear hK K)
  (refine aw_ret ?_;simp (disch:=first|omega|simp only [lnS];try omega))
  intro h
  rw [hy,hz,h]at hyz
  exact hyz rfl
 have hyb:(y==z)=true:=by simp [hyz]
 (refine aw_plan [] [] [0,1,2,3,4,5,6,7,8] 9 0 (by kernel_rfl) (by kernel_rfl) (by kernel_rfl) (fun K hK=>?_));simp only [sel,gcS,gdZ];simp (disch:=first|omega|simp only [lnS];try omega) [h0,h1,h5,-notTuple,hnt,hvc,hnt2,hvc2,q1,q12,-xindexAddr,q2,q22,-xload,q4,q42,ly,lz,hyz,hyb,Nat.add_assoc]
 refine hK _ _ ?_;clear hK K
 refine awf (by simp<;>omega) ?_
 refine aw_skip ?_
 (refine aoo fun K hK=>?_;simp (disch:=first|omega|simp only [lnS];try omega) [h5];refine hK _ _ ?_;clear hK K)
 refine⟨c-1,by omega,i+1,by omega,rfl,by (first|simp [h0];done|rfl),by (first|simp [h1];done|rfl),by (first|simp;done|rfl),fun k hk=>?_⟩
 by_cases e:k=i
 ·subst e
  rw [←hy,←hz,hyz]
 ·exact hpre k (by omega)
end
section
def CD.flat:CD→Bool | .sl _=>false | _=>true
def CD.fv:CD→Value | .int k z=>.int k z | .str s=>.string s | .bool b=>.bool b | .sl _=>undef
theorem flat_val{H:AH}{d:CD}{x:Value}(hf:d.flat=true)(h:CD.Val H d x):x=d.fv:=by
 cases h with
 | int=>rfl
 | str=>rfl
 | bool=>rfl
 | nil _=>cases hf
 | sl _ _ _ _=>cases hf
theorem val_flat{H:AH}{d:CD}(hf:d.flat=true):CD.Val H d d.fv:=by
 cases d with
 | int=>exact .int
 | str=>exact .str
 | bool=>exact .bool
 | sl=>cases hf
theorem fl_at{β:Type}{L:List (List β)}{n i c:Nat}{row:List β}{d:β}(h:∀r∈L,r.length=n)(hi:L[i]?=some row)(hc:row[c]?=some d):L.flatten[i*n+c]?=some d:=by
 have hr:=h row (moG hi)
 have hcl:=(gsI.1 hc).1
 have:=fl_get h hi
 rw [←this]at hc
 rwa [List.getElem?_take_of_lt (by omega),List.getElem?_drop]at hc
def flatR(rows:List (List CD)):Prop:=∀row∈rows,∀d∈row,d.flat=true
theorem val_cells{H:AH}{rows:List (List CD)}{v:Value}{sz:Nat}(h0:0<sz)(h:CD.Val H (.sl rows) v)(hr:∀row∈rows,row.length=sz)(hf:flatR rows):xcells sz v H=some (rows.flatten.map CD.fv):=by
 cases h with
 | @nil a ha=>
  cases a with
  | none=>rfl
  | some x=>
   obtain⟨j,off,spot⟩:=x
   have hsp:spot=some 0:=ha _ rfl
   subst hsp
   rfl
 | @sl sz' j k _ h1 h2 h3 h4=>
  have hlen:rows.flatten.length=rows.length*sz:=fl_len hr
  have hle:rows.length*sz≤k.cells.length:=by
   cases rows with
   | nil=>simp
   | cons r rs=>
    have e1:=h3 r (by simp)
    have e2:=hr r (by simp)
    rw [←e2,e1];exact h2
  have hx:xcells sz (.slice (some ⟨j,0,none⟩) rows.length rows.length) H=some ((k.cells.drop 0).take (rows.length*sz)):=by
   unfold xcells
   simp only [h1]
   rw [if_pos (by omega)]
  rw [hx,List.drop_zero]
  congr 1
  apply List.ext_getElem?
  intro c
  rcases Nat.lt_or_ge c (rows.length*sz) with hc | hc
  ·have hi:c/sz<rows.length:=Nat.div_lt_of_lt_mul (by rw [Nat.mul_comm];exact hc)
   obtain⟨row,hrow⟩:∃row,rows[c/sz]?=some row:=⟨_,geE hi⟩
   have hrl:=hr row (moG hrow)
   have hrl':=h3 row (moG hrow)
   have hm:=Nat.mod_lt c h0
   obtain⟨d,hd⟩:∃d,row[c%sz]?=some d:=⟨_,geE (by omega)⟩
   have hce:c/sz*sz+c%sz=c:=by rw [Nat.mul_comm];exact Nat.div_add_mod c sz
   have hat:=fl_at hr hrow hd
   rw [hce]at hat
   have hkc:k.cells[c]?=some (k.cells[c]'(by omega)):=geE _
   have hv:=h4 (c/sz) row (c%sz) d _ hrow hd (by rw [show sz'=sz by omega,hce];exact hkc)
   rw [List.getElem?_take_of_lt hc,hkc,flat_val (hf row (moG hrow) d (moG hd)) hv,gmP,hat]
   rfl
  ·rw [List.getElem?_eq_none (by rw [List.length_take];omega),List.getElem?_eq_none (by rw [List.length_map,hlen];omega)]
theorem own_val{G:AH}{v:Value}{e:TypeId}{sz:Nat}{rows:List (List CD)}{F:List Nat}(h0:0<sz)(h:OwnF G v e sz (rows.flatten.map CD.fv) F)(hr:∀row∈rows,row.length=sz)(hf:flatR rows):CD.Val G (.sl rows) v:=by
 have hlen:rows.flatten.length=rows.length*sz:=fl_len hr
 rcases h with ⟨rfl,h1,_⟩ | ⟨j,len,rfl,h2,h3,_⟩
 ·have h4:=congrArg List.length h1
  rw [List.length_map,hlen,List.length_nil]at h4
  have:rows.length=0:=by
   rcases Nat.mul_eq_zero.1 h4 with h | h
   ·exact h
   ·omega
  rw [List.eq_nil_of_length_eq_zero this]
  exact .nil (fun x e=>by cases e)
 ·rw [List.length_map,hlen]at h3
  have:len=rows.length:=(Nat.eq_of_mul_eq_mul_right h0 h3).symm
  subst this
  refine .sl (sz:=sz) h2 (by show _≤(rows.flatten.map CD.fv).length;rw [List.length_map,hlen];exact nlE _) hr (fun i row c d x hi hc hx=>?_)
  have hat:=fl_at hr hi hc
  have hx':(rows.flatten.map CD.fv)[i*sz+c]?=some x:=hx
  rw [gmP,hat]at hx'
  cases hx'
  exact val_flat (hf row (moG hi) d (moG hc))
def clV(v:Value)(n:Nat):Value:=match v with | .slice none _ _=>.slice none 0 0 | .slice (some _) k _=>.slice (some ⟨n+1,0,none⟩) k k | _=>undef
def clN(v:Value):Nat:=match v with | .slice none _ _=>0 | _=>2
theorem val_shape{H:AH}{rows:List (List CD)}{v:Value}(h:CD.Val H (.sl rows) v):(v=.slice none 0 0∧rows=[])∨∃a,v=.slice (some a) rows.length rows.length:=by
 cases h with
 | @nil a ha=>
  cases a with
  | none=>exact .inl ⟨rfl,rfl⟩
  | some x=>exact .inr ⟨x,rfl⟩
 | sl _ _ _ _=>exact .inr ⟨_,rfl⟩
theorem clone_app{P:Program}{nro:Nat}{t e:TypeId}{sz:Nat}{cells:List Value}{H:AH}{a:Addr}{n:Nat}(hu:und P t=.slice e)(hs:szt P e=sz)(h0:0<sz)(hz:(zer P e).map (·.cells.size)=some sz)(hnro:nro≤H.length)
  (hx:xcells sz (.slice (some a) n n) (H++[some ⟨[],e,some sz⟩])=some cells) (hl:cells.length=n*sz) (hb:cells.length*byt P e≤140737488355328) (hm:cells.length≤maxLen) :
  xappend P nro t (.slice (some ⟨H.length,0,none⟩) 0 0) (.slice (some a) n n) (H++[some ⟨[],e,some sz⟩])=some (.slice (some ⟨H.length+1,0,none⟩) n n,H++[none,some ⟨cells,e,some sz⟩]):=by
 subst hs
 have hg:hget (H++[some ⟨[],e,some (szt P e)⟩]) H.length=some ⟨[],e,some (szt P e)⟩:=by rw [hget_app0];rfl
 unfold xappend
 simp only [hu,hx,hg]
 rw [if_pos ⟨trivial,h0,hz,hnro,trivial,trivial,by simp,by simpa using hb,by simpa using hm⟩,hl,Nat.mul_div_cancel _ h0]
 simp
def NewC(H:AH)(v:Value)(e:TypeId)(sz:Nat)(cells:List Value)(v':Value)(H':AH):Prop:=
 v'=clV v H.length∧H'.length=H.length+clN v∧Low H.length H H'∧∃F,OwnF H' v' e sz cells F∧∀j∈F,H.length≤j
theorem kd_flat(ps:List (List Int)):flatR (ps.map kd):=by
 intro row hr d hd
 obtain⟨k,_,rfl⟩:=List.mem_map.1 hr
 obtain⟨z,_,rfl⟩:=List.mem_map.1 hd
 rfl
theorem kd_len{ps:List (List Int)}(h:∀k∈ps,k.length=32):∀row∈ps.map kd,row.length=32:=by
 intro row hr
 obtain⟨k,hk,rfl⟩:=List.mem_map.1 hr
 rw [kd,List.length_map];exact h k hk
def ksC(ps:List (List Int)):List Value:=(ps.map kd).flatten.map CD.fv
theorem ksC_len{ps:List (List Int)}(h:∀k∈ps,k.length=32):(ksC ps).length=ps.length*32:=by unfold ksC;rw [List.length_map,fl_len (kd_len h),List.length_map]
theorem cloneK_ac{nro:Nat}{γ:Nat→Option Nat}{H:AH}{v:Value}{l:List (List Int)}(h:KsV H v l)(hk:∀k∈l,k.length=32)(hnro:nro≤H.length)(hm:l.length≤100000000000):AC Tryd.prog nro γ 32 #[v] H (NewC H v 41 32 (ksC l)):=by
 have hxc:∀G:AH,Low H.length H G→xcells 32 v G=some (ksC l):=fun G hG=>val_cells (by omega) (CD.Val.low (fun j hj=>hG.1 j hj) h) (kd_len hk) (kd_flat l)
 have hcl:=ksC_len hk
 have hsh:=val_shape h
 rw [List.length_map]at hsh
 generalize ksC l=cells at *
 have hb0:Low H.length H (H++[some ⟨[], 41,some 32⟩]):=Low.push (nlE _) _
 refine ac_of_aw Tryd.func32 rfl Tryd.ntmps32 Tryd.results32 (by simp) ?_
 (refine aso fun K hK=>?_;simp (disch:=first|omega|simp only [lnS];try omega);refine hK _ _ ?_;clear hK K)
 refine aw_seq (aw_seq ?_)
 rcases hsh with ⟨rfl,hl0⟩ | ⟨a,rfl⟩
 ·have hl0:l=[]:=List.map_eq_nil_iff.1 hl0
  subst hl0
  have hc0:cells=[]:=List.eq_nil_of_length_eq_zero (by simpa using hcl)
  subst hc0
  (refine aoo fun K hK=>?_;simp (disch:=first|omega|simp only [lnS];try omega);refine hK _ _ ?_;clear hK K)
  refine awt (by simp<;>omega) ?_
  (refine aso fun K hK=>?_;simp (disch:=first|omega|simp only [lnS];try omega);refine hK _ _ ?_;clear hK K)
  (refine aw_ret ?_;simp (disch:=first|omega|simp only [lnS];try omega))
  exact⟨rfl,rfl,Low.refl (nlE _),[],.inl ⟨rfl,rfl,rfl⟩,fun j hj=>by cases hj⟩
 ·have hap:=clone_app (P:=Tryd.prog) (nro:=nro) (t := 34) (e := 41) (sz:=32) (by simp) (by simp) (by omega) (by simp) hnro (hxc _ hb0) hcl (by rw [hcl];simp;omega) (by rw [hcl];simp only [maxLen];omega)
  (refine aoo fun K hK=>?_;simp (disch:=first|omega|simp only [lnS];try omega);refine hK _ _ ?_;clear hK K)
  refine awf (by simp<;>omega) ?_
  refine aw_skip (aw_seq ?_)
  (refine aoo fun K hK=>?_;simp (disch:=first|omega|simp only [lnS];try omega) [-xappend,hap,List.range_zero,List.map_nil];refine hK _ _ ?_;clear hK K)
  (refine aw_ret ?_;simp (disch:=first|omega|simp only [lnS];try omega))
  exact⟨rfl,by simp [clN],⟨fun j hj=>hget_left hj,by simp⟩,[H.length+1],.inr ⟨H.length+1,l.length,rfl,by rw [hget_app];rfl,hcl,rfl⟩,fun j hj=>by simp at hj;omega⟩
end
section
theorem below_grow(w:World)(k:Nat)(os:Array Obj):Below w.heap.size w (Sort.grow (w.drewN k) os):=
  ⟨rfl,rfl,rfl,by show w.heap.size≤(w.heap++os).size;simp,fun b hb=>by show (w.heap++os)[b]?=_;rw [Array.getElem?_append_left hb]⟩
def Pw(γ:Nat→Option Nat)(H:AH):Prop:=∃i ty,γ 1 = some i∧hget H i=some ⟨iv .u64 Lib.pow10Tab,ty,none⟩
theorem Pw.low{γ:Nat→Option Nat}{H G:AH}(h:Pw γ H)(hl:Low H.length H G):Pw γ G:=by
  obtain⟨i,ty,h1,h2⟩:=h
  exact⟨i,ty,h1,(hl.1 i (hget_lt h2)).trans h2⟩
def itoB(n:Int):ByteArray:=⟨(Lib.itoa n).toArray⟩
theorem itoB_size{n:Int}(h0:-9223372036854775808≤n)(h1:n≤9223372036854775807):(itoB n).size≤21:=by
  show (Lib.itoa n).toArray.size≤21
  simp only [List.size_toArray]
  exact Lib.itoa_length_le n h0 h1
theorem itoa_ac{nro:Nat}{γ:Nat→Option Nat}{H:AH}(hp:Pw γ H){n:Int}(h0:-9223372036854775808≤n)(h1:n≤9223372036854775807) :
    AC Tryd.prog nro γ 70 #[.int .i64 n] H (fun v' H'=>v'=.string (itoB n)∧H'=H):=by
  obtain⟨i,ty,hg,hb⟩:=hp
  intro m base w args' hR hsz hva
  obtain⟨y0,hy0,hv0⟩:=hva 0 _ rfl
  obtain rfl:=hv0.int_
  obtain rfl:=one_arg hsz hy0
  refine .inl ⟨by kernel_rfl,(Tryd.strconv_Itoa n h0 h1 w (hR.tab (by kernel_rfl) hg hb)).mono ?_⟩
  rintro e w' ⟨rfl,k,os,rfl⟩
  exact⟨m,_,_,H,rfl,List.prefix_refl _,plainV_mk rfl,hR.below (below_grow w k os),(below_grow w k os).mono hR.base_le,rfl,rfl⟩
theorem bl_bytes{nro:Nat}{γ:Nat→Option Nat}{H:AH}{i b:Nat}{s:ByteArray}{F:List Nat}{l:List Int}{ty:TypeId}(h:Bl H i s F)(hi:nro≤i)(hF:∀j∈F,nro≤j)(hl0:0<l.length)(hbl:By l)
    (hx:hget H b=some ⟨iv .u8 l,ty,none⟩) (hbi:b≠i) (hs1:s.size+l.length≤1000000000) :
    AC Tryd.prog nro γ 71 #[.pointer (some ⟨i,0,none⟩),.slice (some ⟨b,0,none⟩) l.length l.length] H (fun v' H'=>v'=.tuple #[.int .i64 l.length,.nilIface]∧∃F',Bl H' i (s++strOfNums l) F'∧H.length≤H'.length∧(∀j∈F',H.length≤j)∧∀j,j<H.length→j≠i→j∉F→hget H' j=hget H j):=by
  have hlt:=h.lt
  obtain⟨p,v,hp,hg,ho,hn,hz⟩:=h
  obtain⟨H1,hH1⟩:∃H1,H1=H.set i (some ⟨[.pointer (some ⟨i,0,none⟩),v], 117,none⟩):=⟨_,rfl⟩
  have hl1:H1.length=H.length:=by rw [hH1];simp
  have hg1:hget H1 i=some ⟨[.pointer (some ⟨i,0,none⟩),v], 117,none⟩:=by rw [hH1];exact hget_set_eq hlt.1
  have k1:∀j,j≠i→hget H1 j=hget H j:=fun j hj=>by rw [hH1];exact hget_set_ne (Ne.symm hj)
  have ho1:=ho.low (H':=H1) (fun j hj=>k1 j (fun e=>hn (e▸hj)))
  have hx1:=(k1 b hbi).trans hx
  have hxc:xcells 1 (.slice (some ⟨b,0,none⟩) l.length l.length) H1=some (iv .u8 l):=by
    unfold xcells
    simp only [hx1]
    rw [if_pos (by simp)]
    simp only [List.drop_zero,Nat.mul_one]
    rw [tkL (by simp)]
  obtain⟨v',H2,hap,ho2,hl2,hk⟩:=ownF_append (P:=Tryd.prog) (nro:=nro) (t := 96) (e := 5) (H:=H1) (v:=v) (x:=.slice (some ⟨b,0,none⟩) l.length l.length) (sz:=1) (cells:=iv .u8 (nums s)) (news:=iv .u8 l) (F:=F) (by simp) (by simp) (by omega) (by simp) ho1 hF
    (fun s e=>by cases e) hxc (by intro e;have:=congrArg List.length e;rw [iv_length,List.length_nil]at this;omega) (by simp [Nat.mod_one]) (by rw [iv_length,iv_length,nums_len];simp;omega) (by rw [iv_length,iv_length,nums_len];simp [maxLen];omega)
  have hs:=ownF_shape ho
  have hs':=ownF_shape ho2
  have hg2:hget H2 i=some ⟨[.pointer (some ⟨i,0,none⟩),v], 117,none⟩:=(hk i (by omega) hn).trans hg1
  have hiF:i∉[H1.length]:=fun hm=>by have:=msG.1 hm;have:=hlt.1;omega
  have hsn:(strOfNums l).size=l.length:=sn_size l
  have hnF:∀j∈[H1.length],H.length≤j:=fun j hj=>by have:=msG.1 hj;omega
  generalize [H1.length]=FN at *
  have hz2:(s++strOfNums l).size=0→v'=.slice none 0 0:=fun h0=>by
    rw [ByteArray.size_append]at h0
    omega
  refine ac_of_aw Tryd.func71 rfl Tryd.ntmps71 Tryd.results71 (by simp) ?_
  (refine aso fun K hK=>?_;simp (disch:=first|omega|simp only [lnS];try omega);refine hK _ _ ?_;clear hK K)
  refine aso fun K hK=>?_
  simp (disch:=first|omega|simp only [lnS];try omega)
  refine⟨by kernel_rfl,AC.mono (bl_check hp hg hi) ?_⟩
  rintro v1 G ⟨rfl,e⟩
  rw [←hH1]at e
  subst e
  clear hH1
  try simp (disch:=first|omega|simp only [lnS];try omega)
  refine hK _ _ ?_;clear hK K
  (refine aso fun K hK=>?_;simp (disch:=first|omega|simp only [lnS];try omega) [hg1,hg2,hs.1,hs'.1,hs'.2,-notTuple,-xappend,hap];refine hK _ _ ?_;clear hK K)
  (refine aso fun K hK=>?_;simp (disch:=first|omega|simp only [lnS];try omega);refine hK _ _ ?_;clear hK K)
  have hi2:i<H2.length:=hget_lt hg2
  have fin:∃F',Bl (H2.set i (some ⟨[.pointer (some ⟨i,0,none⟩),v'], 117,none⟩)) i (s++strOfNums l) F'∧H.length≤(H2.set i (some ⟨[.pointer (some ⟨i,0,none⟩),v'], 117,none⟩)).length∧(∀j∈F',H.length≤j)∧∀j,j<H.length→j≠i→j∉F→hget (H2.set i (some ⟨[.pointer (some ⟨i,0,none⟩),v'], 117,none⟩)) j=hget H j:=by
   refine⟨FN,⟨.pointer (some ⟨i,0,none⟩),v',.inr rfl,hget_set_eq hi2,?_,hiF,hz2⟩,by simp;omega,hnF,fun j hj hji hjF=>?_⟩
   · have:nums (s++strOfNums l)=nums s++l:=by simp [nums_appF,nums_of l hbl]
     rw [this,iv_append]
     exact ho2.low (fun j hj=>hget_set_ne (fun e=>hiF (e▸hj)))
   · rw [hget_set_ne (Ne.symm hji),hk j (by omega) hjF,k1 j hji]
  generalize H2.set i (some ⟨[.pointer (some ⟨i,0,none⟩),v'], 117,none⟩)=H3 at *
  (refine aw_ret ?_;simp (disch:=first|omega|simp only [lnS];try omega))
  obtain⟨F2,f1,f2,f3,f4⟩:=fin
  exact⟨F2,f1,f3,f4⟩
end
section
def tmKeys:List (List Int)→ByteArray
 | []=>⟨#[]⟩
 | k::r=>strOfNums k++tmKeys r
def tmSp:ByteArray:=⟨#[32]⟩
def tmHead(kind:Int)(s:ByteArray):ByteArray:=itoB kind++tmSp++itoB s.size++tmSp++s
def tmRec(kind:Int)(s:ByteArray)(ks:List (List Int)):ByteArray:=tmHead kind s++tmKeys ks
theorem ba_assoc(a b c:ByteArray):a++b++c=a++(b++c):=by
 apply ByteArray.ext
 simp
theorem ba_nil(a:ByteArray):a++(⟨#[]⟩:ByteArray)=a:=by
 apply ByteArray.ext
 simp
theorem tmKeys_app:∀a b:List (List Int),tmKeys (a++b)=tmKeys a++tmKeys b
 | [],b=>by
  apply ByteArray.ext
  simp [tmKeys]
 | k::r,b=>by
  show strOfNums k++tmKeys (r++b)=strOfNums k++tmKeys r++tmKeys b
  rw [tmKeys_app r b,ba_assoc]
theorem tmKeys_next{ks:List (List Int)}{i:Nat}{k:List Int}(h:ks[i]?=some k):tmKeys (ks.take (i+1))=tmKeys (ks.take i)++strOfNums k:=by
 rw [List.take_add_one,h,tmKeys_app]
 show _++(strOfNums k++(⟨#[]⟩:ByteArray))=_
 rw [ba_nil]
theorem tmKeys_size:∀ {ks:List (List Int)},(∀k∈ks,k.length=32)→(tmKeys ks).size=32*ks.length
 | [],_=>rfl
 | k::r,h=>by
  show (strOfNums k++tmKeys r).size=_
  rw [ByteArray.size_append,sn_size,h k (by simp),tmKeys_size (fun x hx=>h x (by simp [hx]))]
  simp only [List.length_cons]
  omega
theorem tmHead_size{kind:Int}(h0:-9223372036854775808≤kind)(h1:kind≤9223372036854775807){s:ByteArray}(hs:s.size≤100000000):(tmHead kind s).size≤s.size+44:=by
 unfold tmHead
 have e1:tmSp.size=1:=rfl
 have e2:=itoB_size h0 h1
 have e3:=itoB_size (n:=s.size) (by omega) (by omega)
 simp only [ByteArray.size_append]
 omega
theorem tm_new{H:AH}:Bl (H++[some ⟨[.pointer none,.slice none 0 0], 117,none⟩]) H.length ⟨#[]⟩ []:=
 ⟨.pointer none,.slice none 0 0,.inl rfl,by rw [hget_app0];rfl,.inl ⟨rfl,rfl,rfl⟩,by simp,fun _=>rfl⟩
theorem nil_ba(a:ByteArray):(⟨#[]⟩:ByteArray)++a=a:=by
 apply ByteArray.ext
 simp
theorem recipe_rc{γ:Nat→Option Nat}{H:AH}(hp:Pw γ H){kind:Int}(h0:-9223372036854775808≤kind)(h1:kind≤9223372036854775807){s:ByteArray}(hs:s.size≤100000000){v:Value}{ks:List (List Int)}(hK:KsV H v ks)(hk:∀k∈ks,k.length=32)(hy:∀k∈ks,By k)(hm:ks.length≤1000000) :
  AC Tryd.prog H.length γ 62 #[.int .i64 kind,.string s,v] H (fun v' _=>v'=.string (tmRec kind s ks)):=by
 obtain⟨hnt,hvc,hxl,hat⟩:=hK.acc hk
 have hit1:=fun (G:AH) (hl:Low H.length H G)=>itoa_ac (nro:=H.length) (hp.low hl) h0 h1
 have hit2:=fun (G:AH) (hl:Low H.length H G)=>itoa_ac (nro:=H.length) (hp.low hl) (n:=(s.size:Int)) (by omega) (by omega)
 have hhs:=tmHead_size h0 h1 hs
 have z1:=itoB_size h0 h1
 have z2:=itoB_size (n:=s.size) (by omega) (by omega)
 have hh:itoB kind++⟨#[32]⟩++itoB s.size++⟨#[32]⟩++s=tmHead kind s:=rfl
 have hrec:tmRec kind s ks=tmHead kind s++tmKeys ks:=rfl
 generalize tmHead kind s=hd at *
 generalize itoB kind=a1 at *
 generalize itoB s.size=a2 at *
 have sz:∀a b:ByteArray,(a++b).size=a.size+b.size:=fun _ _=>ByteArray.size_append
 have e1:(⟨#[32]⟩:ByteArray).size=1:=rfl
 have c1:a1.size+(⟨#[32]⟩:ByteArray).size≤9223372036854775807:=by rw [e1];omega
 have c2:(a1++(⟨#[32]⟩:ByteArray)).size+a2.size≤9223372036854775807:=by rw [sz,e1];omega
 have c3:(a1++(⟨#[32]⟩:ByteArray)++a2).size+(⟨#[32]⟩:ByteArray).size≤9223372036854775807:=by rw [sz,sz,e1];omega
 have c4:(a1++(⟨#[32]⟩:ByteArray)++a2++(⟨#[32]⟩:ByteArray)).size+s.size≤9223372036854775807:=by rw [sz,sz,sz,e1];omega
 have c5:s.size≤9223372036854775807:=by omega
 refine ac_of_aw Tryd.func62 rfl Tryd.ntmps62 Tryd.results62 (by simp) ?_
 (refine aso fun K hK=>?_;simp (disch:=first|omega|simp only [lnS];try omega);refine hK _ _ ?_;clear hK K)
 (refine aso fun K hK=>?_;simp (disch:=first|omega|simp only [lnS];try omega);refine hK _ _ ?_;clear hK K)
 refine aso fun K hK=>?_
 simp (disch:=first|omega|simp only [lnS];try omega)
 refine⟨by kernel_rfl,AC.mono (hit1 _ (Low.push (nlE _) _)) ?_⟩
 rintro _ G ⟨rfl,rfl⟩
 try simp (disch:=first|omega|simp only [lnS];try omega) [c1,c2,c3,c4,c5,hh]
 refine⟨by kernel_rfl,AC.mono (hit2 _ (Low.push (nlE _) _)) ?_⟩
 rintro _ G ⟨rfl,rfl⟩
 try simp (disch:=first|omega|simp only [lnS];try omega) [c1,c2,c3,c4,c5,hh]
 refine⟨by kernel_rfl,AC.mono (bl_write (t:=hd) (tm_new (H:=H)) (nlE _) (by simp) (by show 0+hd.size≤_;omega)) ?_⟩
 rintro _ G ⟨rfl,F,hbl,hlen,hF,hkeep⟩
 rw [nil_ba]at hbl
 rw [laP]at hlen hF hkeep
 have hlow:Low H.length H G:=⟨fun j hj=>(hkeep j (by omega) (by omega) (fun h=>by cases h)).trans (hget_left hj),by omega⟩
 have hF1:∀j∈F,H.length≤j:=fun j hj=>by have:=hF j hj;omega
 clear hkeep hF hlen
 try simp (disch:=first|omega|simp only [lnS];try omega)
 refine hK _ _ ?_;clear hK K
 refine aw_seq (aw_seq ?_)
 (refine aoo fun K hK=>?_;simp (disch:=first|omega|simp only [lnS];try omega) [-notTuple,hnt,hvc,-xlen,hxl];refine hK _ _ ?_;clear hK K)
 refine aw_block ?_
 refine aw_loop (fun c α G=>∃ (i:Nat) (F:List Nat),i+c=ks.length∧α 7=.pointer (some ⟨H.length,0,none⟩)∧α 21=v∧α 22=.int .i64 (ks.length:Nat)∧α 23=.int .i64 (i:Nat) ∧
  Low H.length H G∧Bl G H.length (hd++tmKeys (ks.take i)) F∧∀j∈F,H.length≤j) ks.length ?_ ?_
 ·refine⟨0,F,by omega,by (first|simp;done|rfl),by (first|simp;done|rfl),by (first|simp;done|rfl),by (first|simp;done|rfl),hlow,?_,hF1⟩
  rw [List.take_zero]
  show Bl G H.length (hd++(⟨#[]⟩:ByteArray)) F
  rw [ba_nil]
  exact hbl
 clear hbl hlow hF1 F G
 rintro c α G ⟨i,F,hic,g7,g21,g22,g23,hlow,hbl,hF⟩
 have hblt:=hbl.lt
 refine aw_seq ?_
 by_cases hi:i<ks.length
 case neg=>
  (refine aoo fun K hK=>?_;simp (disch:=first|omega|simp only [lnS];try omega) [g22,g23,hi];refine hK _ _ ?_;clear hK K)
  refine aw_seq ?_
  refine awf (by simp [hi]<;>omega) ?_
  refine aw_exit ?_
  have hall:ks.take i=ks:=tkL (by omega)
  rw [hall,←hrec]at hbl
  refine aso fun K hK=>?_
  simp (disch:=first|omega|simp only [lnS];try omega) [g7]
  refine⟨by kernel_rfl,AC.mono (bl_string hbl (nlE _) hF) ?_⟩
  rintro _ G2 ⟨rfl,_,_⟩
  try simp (disch:=first|omega|simp only [lnS];try omega)
  refine hK _ _ ?_;clear hK K
  (refine aw_ret ?_;simp (disch:=first|omega|simp only [lnS];try omega))
 (refine aoo fun K hK=>?_;simp (disch:=first|omega|simp only [lnS];try omega) [g22,g23,hi];refine hK _ _ ?_;clear hK K)
 refine aw_seq ?_
 refine awt (by simp [hi]<;>omega) ?_
 refine aw_skip (aw_seq ?_)
 refine aw_block ?_
 obtain⟨p,x,q1,q2,q3,rfl,q4⟩:=hat i hi
 have q4:=q4 G hlow
 have ly:=key_getD hk hi
 obtain⟨y,hy'⟩:∃y,y=ks.getD i []:=⟨_,rfl⟩
 have hky:ks[i]?=some y:=by rw [hy',gdD,geE hi];rfl
 have hby:By y:=hy y (moG hky)
 rw [←hy']at q4 ly
 have hnx:=tmKeys_next hky
 have tly:(iv .u8 y).take 32=iv .u8 y:=tkL (by simp [ly])
 have sly:setR (iv .u8 (zl 32)) 0 (iv .u8 y)=iv .u8 y:=setR_all _ _ (by simp [ly])
 (refine aso fun K hK=>?_;simp (disch:=first|omega|simp only [lnS];try omega) [g7,g21,g22,g23,-notTuple,hnt,hvc,q1,-xindexAddr,q2,-xload,q4,ly,tly,sly];refine hK _ _ ?_;clear hK K)
 refine aoo fun K hK=>?_
 simp (disch:=first|omega|simp only [lnS];try omega) [g7,ly,tly,sly]
 have hwr:=bl_bytes (nro:=H.length) (γ:=γ) (H:=G++[some ⟨iv .u8 y, 41,none⟩]) (i:=H.length) (b:=G.length) (s:=hd++tmKeys (ks.take i)) (F:=F) (l:=y) (ty := 41) (hbl.low (hget_left hblt.1) (fun j hj=>hget_left (hblt.2 j hj))) (nlE _) hF (by omega) hby (by rw [hget_app0];rfl) (by have:=hblt.1;omega)
  (by rw [ByteArray.size_append,tmKeys_size (fun k hk'=>hk k (List.mem_of_mem_take hk')),List.length_take];omega)
 rw [ly]at hwr
 refine⟨by kernel_rfl,AC.mono hwr ?_⟩
 rintro _ G2 ⟨rfl,F2,hbl2,hlen,hF2,hkeep⟩
 rw [laP]at hlen hF2 hkeep
 rw [ba_assoc,←hnx]at hbl2
 have hlow2:Low H.length H G2:=⟨fun j hj=>(hkeep j (by have:=hlow.2;omega) (by omega) (fun h=>by have:=hF j h;omega)).trans ((hget_left (by have:=hlow.2;omega)).trans (hlow.1 j hj)),by have:=hlow.2;omega⟩
 have hF3:∀j∈F2,H.length≤j:=fun j hj=>by have:=hF2 j hj;have:=hlow.2;omega
 clear hkeep hwr
 try simp (disch:=first|omega|simp only [lnS];try omega)
 refine hK _ _ ?_;clear hK K
 (refine aoo fun K hK=>?_;simp (disch:=first|omega|simp only [lnS];try omega) [g23];refine hK _ _ ?_;clear hK K)
 exact⟨c-1,by omega,i+1,F2,by omega,by (first|simp [g7];done|rfl),by (first|simp [g21];done|rfl),by (first|simp [g22];done|rfl),by (first|simp;done|rfl),hlow2,hbl2,hF3⟩
end
section
def opRow(o:OpD)(pv wv bv:Value):List Value:=[.int .i64 o.author,.int .u32 o.seq,pv,.int .i64 o.kind,wv]++(iv .u8 o.of++(iv .u8 o.check++[.string o.text,bv]))
theorem opRow_len{o:OpD}(hw:o.Wf)(pv wv bv:Value):(opRow o pv wv bv).length=71:=by
 have h1:=hw.of.1
 have h2:=hw.check.1
 simp [opRow,iv_length,h1,h2]
theorem OpC.row{H:AH}{us:List Value}{o:OpD}{pv wv bv:Value}(h:OpC H us o pv wv bv)(hw:o.Wf):us=opRow o pv wv bv:=by
 have hl:=h.len
 have e0:us.take 5=[.int .i64 o.author,.int .u32 o.seq,pv,.int .i64 o.kind,wv]:=by
  apply List.ext_getElem?
  intro i
  match i with
  | 0=>rw [List.getElem?_take_of_lt (by omega),h.c0];rfl
  | 1=>rw [List.getElem?_take_of_lt (by omega),h.c1];rfl
  | 2=>rw [List.getElem?_take_of_lt (by omega),h.c2];rfl
  | 3=>rw [List.getElem?_take_of_lt (by omega),h.c3];rfl
  | 4=>rw [List.getElem?_take_of_lt (by omega),h.c4];rfl
  | i+5=>rw [List.getElem?_eq_none (by rw [List.length_take];omega),List.getElem?_eq_none (by simp)]
 have e2:us.drop 69=[.string o.text,bv]:=by
  apply List.ext_getElem?
  intro i
  match i with
  | 0=>rw [List.getElem?_drop,h.c69];rfl
  | 1=>rw [List.getElem?_drop,h.c70];rfl
  | i+2=>rw [List.getElem?_eq_none (by rw [List.length_drop];omega),List.getElem?_eq_none (by simp)]
 have e1:us.drop 5=iv .u8 o.of++us.drop 37:=by
  have:=(List.take_append_drop 32 (us.drop 5)).symm
  rwa [h.of,List.drop_drop]at this
 have e3:us.drop 37=iv .u8 o.check++us.drop 69:=by
  have:=(List.take_append_drop 32 (us.drop 37)).symm
  rwa [h.check,List.drop_drop]at this
 have:=(List.take_append_drop 5 us).symm
 rwa [e0,e1,e3,e2]at this
theorem ValL.app{H:AH}{a b:List CD}{x y:List Value}(h1:ValL H a x)(h2:ValL H b y):ValL H (a++b) (x++y):=by
 refine⟨by rw [laP,laP,h1.1,h2.1],fun c d u hd hu=>?_⟩
 have hl:=h1.1
 rcases Nat.lt_or_ge c a.length with hc | hc
 ·rw [gaL hc]at hd
  rw [gaL (by omega)]at hu
  exact h1.2 c d u hd hu
 ·rw [gaR hc]at hd
  rw [gaR (by omega),hl]at hu
  exact h2.2 _ d u hd hu
theorem ValL.one{H:AH}{d:CD}{u:Value}{ds:List CD}{us:List Value}(h:CD.Val H d u)(h2:ValL H ds us):ValL H (d::ds) (u::us):=by
 refine⟨by simp [h2.1],fun c d' u' hd hu=>?_⟩
 cases c with
 | zero=>cases hd;cases hu;exact h
 | succ c=>exact h2.2 c d' u' (by simpa using hd) (by simpa using hu)
theorem ValL.none{H:AH}:ValL H [] []:=⟨rfl,fun c d u hd _=>by cases hd⟩
theorem ValL.kdv{H:AH}(k:List Int):ValL H (kd k) (iv .u8 k):=by
 induction k with
 | nil=>exact .none
 | cons z k ih=>exact ValL.one .int ih
theorem op_val{G:AH}{o:OpD}{pv wv bv:Value}(h1:KsV G pv o.parents)(h2:InV G wv o.who)(h3:BxV G bv o.boxes):ValL G o.row (opRow o pv wv bv):=
 ValL.app (.one .int (.one .int (.one h1 (.one .int (.one h2 .none))))) (ValL.app (.kdv _) (ValL.app (.kdv _) (.one .str (.one h3 .none))))
theorem opRow_2(o:OpD)(pv wv bv:Value):(opRow o pv wv bv)[2]?=some pv:=rfl
theorem opRow_4(o:OpD)(pv wv bv:Value):(opRow o pv wv bv)[4]?=some wv:=rfl
theorem opRow_cut{o:OpD}(hw:o.Wf)(pv wv bv:Value):∃A:List Value,A.length=70∧∀b,opRow o pv wv b=A++[b]:=by
 have h1:=hw.of.1
 have h2:=hw.check.1
 refine⟨[.int .i64 o.author,.int .u32 o.seq,pv,.int .i64 o.kind,wv]++(iv .u8 o.of++(iv .u8 o.check++[.string o.text])),by simp [iv_length,h1,h2],fun b=>?_⟩
 simp [opRow]
theorem opRow_70{o:OpD}(hw:o.Wf)(pv wv bv:Value):(opRow o pv wv bv)[70]?=some bv:=by
 obtain⟨A,hA,e⟩:=opRow_cut hw pv wv bv
 rw [e,gaR (by omega),hA];rfl
end
section
def kr(l:List (List Int)):List Value:=(l.map (iv .u8)).flatten
theorem ksC_kr(l:List (List Int)):ksC l=kr l:=by
 unfold ksC kr
 induction l with
 | nil=>rfl
 | cons k l ih=>
  rw [List.map_cons,List.flatten_cons,List.map_append,ih,List.map_cons,List.flatten_cons]
  congr 1
  simp [kd,iv,CD.fv]
theorem kr_app(a b:List (List Int)):kr (a++b)=kr a++kr b:=by simp [kr]
theorem kr_one(k:List Int):kr [k]=iv .u8 k:=by simp [kr]
def K32(l:List (List Int)):Prop:=∀k∈l,k.length=32
theorem kr_rows{l:List (List Int)}(h:K32 l):∀r∈l.map (iv .u8),r.length=32:=fun r hr=>by
 obtain⟨k,hk,rfl⟩:=List.mem_map.1 hr
 rw [iv_length];exact h k hk
theorem kr_len{l:List (List Int)}(h:K32 l):(kr l).length=l.length*32:=by unfold kr;rw [fl_len (kr_rows h),List.length_map]
theorem kr_get{l:List (List Int)}(h:K32 l){j:Nat}{k:List Int}(hj:l[j]?=some k):((kr l).drop (j*32)).take 32=iv .u8 k:=fl_get (kr_rows h) (by rw [gmP,hj];rfl)
theorem kr_addr{n b j:Nat}(hj:j<n):xindexAddr Tryd.prog 34 (.slice (some ⟨b,0,none⟩) n n) (.int .i64 (j:Nat))=some (.pointer (some ⟨b,j*32,none⟩)):=by
 have h1:und Tryd.prog 34 = .slice 41 := by kernel_rfl
 have h2:szt Tryd.prog 41 = 32:=by kernel_rfl
 unfold xindexAddr
 simp only [h1,h2]
 rw [if_pos ⟨by omega,by omega,by omega⟩]
 simp
theorem kr_load{G:AH}{b j:Nat}{l:List (List Int)}{k:List Int}(h:K32 l)(hj:l[j]?=some k)(hb:hget G b=some ⟨kr l, 41,some 32⟩):xload Tryd.prog 41 (.pointer (some ⟨b,j*32,none⟩)) G=some (.agg (iv .u8 k).toArray):=by
 have hl:=(gsI.1 hj).1
 refine load_at (sz:=32) hb (by kernel_rfl) (by omega) (by kernel_rfl) (kr_get h hj).symm ?_
 show _≤(kr l).length
 rw [kr_len h]
 have:(j+1)*32≤l.length*32:=Nat.mul_le_mul_right _ hl
 omega
end
section
def bodyAt(l:List BoxD)(k:Nat):ByteArray:=((l[k]?).map BoxD.body).getD ByteArray.empty
def greatO(o:OpD):Bool:=decide (30<o.parents.length)||(decide (30<o.who.length)||(decide (30<o.boxes.length)||(decide (600<o.text.size)||(List.range o.boxes.length).any fun k=>decide (600<(bodyAt o.boxes k).size))))
theorem BxV.body_at{H:AH}{v:Value}{l:List BoxD}(h:BxV H v l)(hl:∀b∈l,b.Wf){i:Nat}(hi:i<l.length):∃j q bb,xindexAddr Tryd.prog 47 v (.int .i64 (i:Nat))=some (.pointer (some ⟨j,q,none⟩))∧hget H j=some bb∧bb.cells[q+35]?=some (.string (bodyAt l i))∧(bodyAt l i).size≤maxLen:=by
 obtain⟨z,hz⟩:∃z,l[i]?=some z:=⟨_,geE hi⟩
 have hzw:=hl z (moG hz)
 obtain⟨j,b,us,hv,hb,hle,hx,hus,hul,hle2,hc,hval⟩:=val_at (P:=Tryd.prog) (t := 47) (e := 80) (sz:=36) h (by simp) (by simp) (by omega) (fun row hr=>by
  obtain⟨y,hy,rfl⟩:=List.mem_map.1 hr
  have:=(hl y hy).pub.1
  simp [BoxD.row,kd,this]) (i:=i) (row:=z.row) (by rw [gmP,hz];rfl)
 have hbody:bodyAt l i=z.body:=by simp [bodyAt,hz]
 rw [hbody]
 exact⟨j,i*36,b,hx,hb,(hc 35 (by omega)).trans (box_c hzw hval).c35,hzw.body⟩
theorem greatO_rc{γ:Nat→Option Nat}{H:AH}{us:List Value}{o:OpD}{pv wv bv:Value}(h:OpC H us o pv wv bv)(hw:o.Wf):AC Tryd.prog H.length γ 15 #[.agg us.toArray] H (fun v' _=>v'=.bool (greatO o)):=by
 have hlen:=h.len
 have c2:=h.c2
 have c4:=h.c4
 have c69:=h.c69
 have c70:=h.c70
 have pa:=h.parents.acc (fun k hk=>(hw.parents k hk).1)
 have wa:=h.who.acc
 have ba:=h.boxes.acc hw.boxes
 have p1:=pa.nt
 have p2:=pa.cs
 have p3:=pa.len
 have w1:=wa.nt
 have w2:=wa.cs
 have w3:=wa.len
 have b1:=ba.nt
 have b2:=ba.cs
 have b3:=ba.len
 have hbx:=h.boxes
 obtain⟨np,hnp⟩:∃n,n=o.parents.length:=⟨_,rfl⟩
 obtain⟨nw,hnw⟩:∃n,n=o.who.length:=⟨_,rfl⟩
 obtain⟨nb,hnb⟩:∃n,n=o.boxes.length:=⟨_,rfl⟩
 obtain⟨ts,hts⟩:∃t,t=o.text:=⟨_,rfl⟩
 have htz:ts.size≤9223372036854775807:=by rw [hts];have:=hw.text;simp only [maxLen]at this;omega
 have hnb63:nb≤9223372036854775807:=by rw [hnb];have:=hw.blen;simp only [maxLen]at this;omega
 have hG:greatO o=(decide (30<np)||(decide (30<nw)||(decide (30<nb)||(decide (600<ts.size)||(List.range nb).any fun k=>decide (600<(bodyAt o.boxes k).size))))):=by rw [hnp,hnw,hnb,hts];rfl
 rw [hG]
 rw [←hnp]at p3
 rw [←hnw]at w3
 rw [←hnb]at b3
 rw [←hts]at c69
 refine ac_of_aw Tryd.func15 rfl Tryd.ntmps15 Tryd.results15 (by simp) ?_
 (refine aso fun K hK=>?_;simp (disch:=first|omega|simp only [lnS];try omega) [-getElem?_pos,-getElem?_neg,hlen];refine hK _ _ ?_;clear hK K)
 obtain⟨hlow,hb⟩:=boxed (H:=H) us 49
 generalize H++[some ⟨us, 49,none⟩]=G at *
 obtain⟨g,hg⟩:∃g,g=H.length:=⟨_,rfl⟩
 rw [←hg]at hb ⊢
 refine aw_seq (aw_seq ?_)
 refine aw_cut (fun α G'=>G=G'∧α 1=.pointer (some ⟨g,0,none⟩)∧α 25=.bool (decide (30<np)||(decide (30<nw)||(decide (30<nb)||decide (600<ts.size))))) ?_ ?_
 ·by_cases h1:30<np
  ·(refine aoo fun K hK=>?_;simp (disch:=first|omega|simp only [lnS];try omega) [-getElem?_pos,-getElem?_neg,hb,hlen,c2,-notTuple,p1,p2,-xlen,p3,h1];refine hK _ _ ?_;clear hK K)
   exact⟨rfl,by (first|simp;done|rfl),by simp [put_at,h1]⟩
  ·by_cases h2:30<nw
   ·(refine aoo fun K hK=>?_;simp (disch:=first|omega|simp only [lnS];try omega) [-getElem?_pos,-getElem?_neg,hb,hlen,c2,c4,-notTuple,p1,p2,w1,w2,-xlen,p3,w3,h1,h2];refine hK _ _ ?_;clear hK K)
    exact⟨rfl,by (first|simp;done|rfl),by simp [put_at,h2]⟩
   ·by_cases h3:30<nb
    ·(refine aoo fun K hK=>?_;simp (disch:=first|omega|simp only [lnS];try omega) [-getElem?_pos,-getElem?_neg,hb,hlen,c2,c4,c70,-notTuple,p1,p2,w1,w2,b1,b2,-xlen,p3,w3,b3,h1,h2,h3];refine hK _ _ ?_;clear hK K)
     exact⟨rfl,by (first|simp;done|rfl),by simp [put_at,h3]⟩
    ·have hxt:xlen Tryd.prog 9 (.string ts)=some (.int .i64 ts.size):=by simp [xlen]
     by_cases h4:600<ts.size
     ·(refine aoo fun K hK=>?_;simp (disch:=first|omega|simp only [lnS];try omega) [-getElem?_pos,-getElem?_neg,hb,hlen,c2,c4,c70,c69,-notTuple,p1,p2,w1,w2,b1,b2,-xlen,p3,w3,b3,hxt,h1,h2,h3,h4];refine hK _ _ ?_;clear hK K)
      exact⟨rfl,by (first|simp;done|rfl),by simp [put_at,h4]⟩
     ·(refine aoo fun K hK=>?_;simp (disch:=first|omega|simp only [lnS];try omega) [-getElem?_pos,-getElem?_neg,hb,hlen,c2,c4,c70,c69,-notTuple,p1,p2,w1,w2,b1,b2,-xlen,p3,w3,b3,hxt,h1,h2,h3,h4];refine hK _ _ ?_;clear hK K)
      exact⟨rfl,by (first|simp;done|rfl),by simp [put_at,h1,h2,h3,h4]⟩
 rintro α G' ⟨rfl,h1,h25⟩
 obtain⟨B,hB⟩:∃B,B=(decide (30<np)||(decide (30<nw)||(decide (30<nb)||decide (600<ts.size)))):=⟨_,rfl⟩
 have hGB:(decide (30<np)||(decide (30<nw)||(decide (30<nb)||(decide (600<ts.size)||(List.range nb).any fun k=>decide (600<(bodyAt o.boxes k).size)))))=(B||(List.range nb).any fun k=>decide (600<(bodyAt o.boxes k).size)):=by
  rw [hB,Bool.or_assoc,Bool.or_assoc,Bool.or_assoc]
 rw [hGB]
 rw [←hB]at h25
 clear hB hGB hG
 cases B with
 | true=>
  refine awt (by simp [h25]<;>omega) ?_
  (refine aso fun K hK=>?_;simp (disch:=first|omega|simp only [lnS];try omega) [-getElem?_pos,-getElem?_neg];refine hK _ _ ?_;clear hK K)
  (refine aw_ret ?_;simp (disch:=first|omega|simp only [lnS];try omega) [-getElem?_pos,-getElem?_neg])
 | false=>
 rw [Bool.false_or]
 refine awf (by simp [h25]<;>omega) ?_
 refine aw_skip ?_
 refine aw_seq (aw_seq ?_)
 (refine aoo fun K hK=>?_;simp (disch:=first|omega|simp only [lnS];try omega) [-getElem?_pos,-getElem?_neg];refine hK _ _ ?_;clear hK K)
 refine aw_block ?_
 refine aw_loop (fun c α G'=>∃i:Nat,i+c=nb∧G=G'∧α 1=.pointer (some ⟨g,0,none⟩)∧α 3=.int .i64 (i:Nat)∧∀k,k<i→decide (600<(bodyAt o.boxes k).size)=false) nb ?_ ?_
 ·exact⟨0,by omega,rfl,by (first|simp [h1];done|rfl),by (first|simp;done|rfl),fun k hk=>by omega⟩
 clear h1 h25 α
 rintro c α G' ⟨i,hic,rfl,h1,h3,hpre⟩
 refine aw_seq (aw_seq ?_)
 by_cases hi:i<nb
 case neg=>
  (refine aoo fun K hK=>?_;simp (disch:=first|omega|simp only [lnS];try omega) [-getElem?_pos,-getElem?_neg,h1,h3,hb,hlen,c70,-notTuple,b1,b2,-xlen,b3,hi];refine hK _ _ ?_;clear hK K)
  refine awf (by simp [hi]<;>omega) ?_
  refine aw_exit (aw_seq ?_)
  (refine aoo fun K hK=>?_;simp (disch:=first|omega|simp only [lnS];try omega) [-getElem?_pos,-getElem?_neg];refine hK _ _ ?_;clear hK K)
  (refine aw_ret ?_;simp (disch:=first|omega|simp only [lnS];try omega) [-getElem?_pos,-getElem?_neg])
  intro k hk
  have:=hpre k (by omega)
  simp at this
  exact this
 obtain⟨j,q,bb,hx,hbb,hcb,hbm⟩:=hbx.body_at hw.boxes (i:=i) (by omega)
 have hbG:hget G j=some bb:=(hlow.1 j (hget_lt hbb)).trans hbb
 (refine aoo fun K hK=>?_;simp (disch:=first|omega|simp only [lnS];try omega) [-getElem?_pos,-getElem?_neg,h1,h3,hb,hlen,c70,-notTuple,b1,b2,-xlen,b3,hi];refine hK _ _ ?_;clear hK K)
 refine awt (by simp [hi]<;>omega) ?_
 refine aw_skip (aw_seq ?_)
 refine aw_block ?_
 obtain⟨bd,hbd⟩:∃b,b=bodyAt o.boxes i:=⟨_,rfl⟩
 rw [←hbd]at hcb hbm
 have hbz:bd.size≤9223372036854775807:=by simp only [maxLen]at hbm;omega
 have hxt:xlen Tryd.prog 9 (.string bd)=some (.int .i64 bd.size):=by simp [xlen]
 refine aw_seq ?_
 by_cases h6:600<bd.size
 ·(refine aoo fun K hK=>?_;simp (disch:=first|omega|simp only [lnS];try omega) [-getElem?_pos,-getElem?_neg,h1,h3,hb,hlen,c70,-notTuple,b1,b2,-xindexAddr,hx,hbG,hcb,-xlen,hxt,h6];refine hK _ _ ?_;clear hK K)
  refine awt (by simp [h6]<;>omega) ?_
  (refine aso fun K hK=>?_;simp (disch:=first|omega|simp only [lnS];try omega) [-getElem?_pos,-getElem?_neg];refine hK _ _ ?_;clear hK K)
  (refine aw_ret ?_;simp (disch:=first|omega|simp only [lnS];try omega) [-getElem?_pos,-getElem?_neg])
  exact⟨i,hi,by rw [←hbd];exact h6⟩
 ·(refine aoo fun K hK=>?_;simp (disch:=first|omega|simp only [lnS];try omega) [-getElem?_pos,-getElem?_neg,h1,h3,hb,hlen,c70,-notTuple,b1,b2,-xindexAddr,hx,hbG,hcb,-xlen,hxt,h6];refine hK _ _ ?_;clear hK K)
  refine awf (by simp [h6]<;>omega) ?_
  refine aw_skip ?_
  (refine aoo fun K hK=>?_;simp (disch:=first|omega|simp only [lnS];try omega) [-getElem?_pos,-getElem?_neg,h3];refine hK _ _ ?_;clear hK K)
  refine⟨c-1,by omega,i+1,by omega,rfl,by (first|simp [h1];done|rfl),by (first|simp;done|rfl),fun k hk=>?_⟩
  by_cases e:k=i
  ·subst e
   rw [←hbd]
   simpa using h6
  ·exact hpre k (by omega)
end
end
section
def valD(l:List UInt8):Nat:=l.foldl (fun a c=>10*a+(c.toNat-48)) 0
theorem valD_snoc(l:List UInt8)(c:UInt8):valD (l++[c])=10*valD l+(c.toNat-48):=by simp [valD]
theorem dig8{d:Nat}(h:d<10):(UInt8.ofNat (48+d)).toNat=48+d:=by
 rw [UInt8.toNat_ofNat']
 omega
theorem dec_val(u:Nat):valD (Lib.decDigits u)=u∧∀c∈Lib.decDigits u,c≠32:=by
 induction u using Nat.strongRecOn with
 | ind u ih=>
  rw [Lib.decDigits]
  by_cases h:u<10
  ·rw [dif_pos h]
   refine⟨?_,fun c hc=>?_⟩
   ·show 10*0+((UInt8.ofNat (48+u)).toNat-48)=u
    rw [dig8 h];omega
   ·rw [msG.1 hc]
    intro e
    have:=congrArg UInt8.toNat e
    rw [dig8 h]at this
    have h32:(32:UInt8).toNat=32:=rfl
    omega
  ·rw [dif_neg h]
   obtain⟨h1,h2⟩:=ih (u/10) (by omega)
   refine⟨?_,fun c hc=>?_⟩
   ·rw [valD_snoc,h1,dig8 (by omega)];omega
   ·rcases maP.1 hc with hc | hc
    ·exact h2 c hc
    ·rw [msG.1 hc]
     intro e
     have:=congrArg UInt8.toNat e
     rw [dig8 (by omega)]at this
     have h32:(32:UInt8).toNat=32:=rfl
     omega
theorem dec_inj{a b:Nat}(h:Lib.decDigits a=Lib.decDigits b):a=b:=by rw [←(dec_val a).1,h,(dec_val b).1]
theorem split_sp:∀ {a a' r r':List UInt8},(∀c∈a,c≠32)→(∀c∈a',c≠32)→a++32::r=a'++32::r'→a=a'∧r=r'
 | [],[],_,_,_,_,h=>⟨rfl,(List.cons.inj h).2⟩
 | [],c::a',_,_,_,h2,h=>absurd (List.cons.inj h).1.symm (h2 c (by simp))
 | c::a,[],_,_,h1,_,h=>absurd (List.cons.inj h).1 (h1 c (by simp))
 | c::a,d::a',r,r',h1,h2,h=>by
  obtain⟨e1,e2⟩:=List.cons.inj h
  obtain⟨e3,e4⟩:=split_sp (fun x hx=>h1 x (by simp [hx])) (fun x hx=>h2 x (by simp [hx])) e2
  exact⟨by rw [e1,e3],e4⟩
def baL(s:ByteArray):List UInt8:=s.data.toList
theorem baL_app(a b:ByteArray):baL (a++b)=baL a++baL b:=by simp [baL]
theorem baL_inj{a b:ByteArray}(h:baL a=baL b):a=b:=by
 apply ByteArray.ext
 exact Array.ext' h
theorem baL_len(a:ByteArray):(baL a).length=a.size:=rfl
theorem tmKeys_inj:∀ {a b:List (List Int)},(∀k∈a,k.length=32)→(∀k∈b,k.length=32)→(∀k∈a,By k)→(∀k∈b,By k)→baL (tmKeys a)=baL (tmKeys b)→a=b
 | [],[],_,_,_,_,_=>rfl
 | [],k::r,_,h2,_,_,h=>by
  have:=congrArg List.length h
  rw [baL_len,baL_len,tmKeys_size (by simp),tmKeys_size h2]at this
  simp at this
 | k::r,[],h1,_,_,_,h=>by
  have:=congrArg List.length h
  rw [baL_len,baL_len,tmKeys_size h1,tmKeys_size (by simp)]at this
  simp at this
 | k::r,k'::r',h1,h2,b1,b2,h=>by
  have e:baL (strOfNums k)++baL (tmKeys r)=baL (strOfNums k')++baL (tmKeys r'):=by
   rw [←baL_app,←baL_app];exact h
  obtain⟨e1,e2⟩:=List.append_inj e (by rw [baL_len,baL_len,sn_size,sn_size,h1 k (by simp),h2 k' (by simp)])
  have e3:=sn_inj (b1 k (by simp)) (b2 k' (by simp)) (baL_inj e1)
  rw [e3,tmKeys_inj (fun x hx=>h1 x (by simp [hx])) (fun x hx=>h2 x (by simp [hx])) (fun x hx=>b1 x (by simp [hx])) (fun x hx=>b2 x (by simp [hx])) e2]
theorem tmRec_list{k:Nat}{s:ByteArray}{ks:List (List Int)}:baL (tmRec k s ks)=Lib.decDigits k++32::(Lib.decDigits s.size++32::(baL s++baL (tmKeys ks))):=by
 unfold tmRec tmHead itoB
 rw [baL_app,baL_app,baL_app,baL_app,baL_app,Lib.itoa_nonneg,Lib.itoa_nonneg]
 show Lib.decDigits k++[32]++Lib.decDigits s.size++[32]++baL s++baL (tmKeys ks)=_
 simp
theorem tmRec_inj{k k':Nat}{s s':ByteArray}{ks ks':List (List Int)}(h1:∀k∈ks,k.length=32)(h2:∀k∈ks',k.length=32)(b1:∀k∈ks,By k)(b2:∀k∈ks',By k)(h:tmRec k s ks=tmRec k' s' ks'):k=k'∧s=s'∧ks=ks':=by
 have e:=congrArg baL h
 rw [tmRec_list,tmRec_list]at e
 obtain⟨e1,e2⟩:=split_sp (dec_val k).2 (dec_val k').2 e
 obtain⟨e3,e4⟩:=split_sp (dec_val _).2 (dec_val _).2 e2
 have e5:=dec_inj e3
 obtain⟨e6,e7⟩:=List.append_inj e4 (by rw [baL_len,baL_len,e5])
 exact⟨dec_inj e1,baL_inj e6,tmKeys_inj h1 h2 b1 b2 e7⟩
end
section
theorem opC_row{G:AH}{o:OpD}{pv wv bv:Value}(hw:o.Wf)(h1:KsV G pv o.parents)(h2:InV G wv o.who)(h3:BxV G bv o.boxes):OpC G (opRow o pv wv bv) o pv wv bv:=by
 obtain⟨pv',wv',bv',h⟩:=op_c hw (op_val h1 h2 h3)
 have e2:=h.c2
 have e4:=h.c4
 have e70:=h.c70
 rw [opRow_2]at e2
 rw [opRow_4]at e4
 rw [opRow_70 hw]at e70
 cases e2;cases e4;cases e70
 exact h
theorem kr_ksv{G:AH}{v:Value}{F:List Nat}{ps:List (List Int)}(h:OwnF G v 41 32 (kr ps) F)(hk:K32 ps):KsV G v ps:=by
 rw [←ksC_kr]at h
 exact own_val (by omega) h (kd_len hk) (kd_flat ps)
end
section
def sE:Nat→List ByteArray→List (Value×Value)
 | _,[]=>[]
 | n,s::L=>(.string s,.int .i64 (n:Nat))::sE (n+1) L
def idxS(s:ByteArray):List ByteArray→Option Nat
 | []=>none
 | x::L=>if s=x then some 0 else (idxS s L).map (·+1)
theorem idxS_some{s:ByteArray}:∀ {L:List ByteArray} {i:Nat},idxS s L=some i→L[i]?=some s
 | [],i,h=>by cases h
 | x::L,i,h=>by
  unfold idxS at h
  by_cases e:s=x
  ·rw [if_pos e]at h
   cases h
   rw [e];rfl
  ·rw [if_neg e]at h
   cases hr:idxS s L with
   | none=>rw [hr]at h;cases h
   | some j=>
    rw [hr]at h
    cases h
    rw [List.getElem?_cons_succ]
    exact idxS_some hr
theorem idxS_none{s:ByteArray}:∀ {L:List ByteArray},idxS s L=none→s∉L
 | [],_=>by simp
 | x::L,h=>by
  unfold idxS at h
  by_cases e:s=x
  ·rw [if_pos e]at h;cases h
  ·rw [if_neg e]at h
   cases hr:idxS s L with
   | some j=>rw [hr]at h;cases h
   | none=>
    have:=idxS_none hr
    simp [e,this]
theorem ba_beq(a b:ByteArray):(a==b)=decide (a=b):=by
 obtain⟨a⟩:=a
 obtain⟨b⟩:=b
 show (a==b)=_
 rw [Bool.eq_iff_iff]
 simp
theorem mfind_sE(s:ByteArray):∀ (L:List ByteArray) (n:Nat),mfind (.string s) (sE n L)=idxS s L
 | [],_=>rfl
 | x::L,n=>by
  have hm:mfind (.string s) (sE n (x::L))=if keyEq (.string s) (.string x)=true then some 0 else (mfind (.string s) (sE (n+1) L)).map (·+1):=rfl
  have hk:keyEq (.string s) (.string x)=(s==x):=rfl
  have hi:idxS s (x::L)=if s=x then some 0 else (idxS s L).map (·+1):=rfl
  rw [hm,hk,mfind_sE s L (n+1),hi,ba_beq]
  by_cases e:s=x
  ·rw [if_pos e,if_pos (by simp [e])]
  ·rw [if_neg e,if_neg (by simp [e])]
theorem sE_get:∀ (L:List ByteArray) (n i:Nat) (s:ByteArray),L[i]?=some s→(sE n L)[i]?=some (.string s,.int .i64 ((n+i:Nat):Int))
 | [],_,i,s,h=>by cases h
 | x::L,n,0,s,h=>by cases h;rfl
 | x::L,n,i+1,s,h=>by
  show (sE (n+1) L)[i]?=_
  rw [sE_get L (n+1) i s h]
  congr 4
  omega
theorem mget_sE(s:ByteArray)(L:List ByteArray):mget (.string s) (sE 0 L)=(idxS s L).map fun i=>.int .i64 (i:Nat):=by
 unfold mget
 rw [mfind_sE]
 cases h:idxS s L with
 | none=>rfl
 | some i=>
  show ((sE 0 L)[i]?).map (·.2)=_
  rw [sE_get L 0 i s (idxS_some h),Nat.zero_add];rfl
theorem sE_snoc:∀ (L:List ByteArray) (n:Nat) (s:ByteArray),sE n (L++[s])=sE n L++[(.string s,.int .i64 ((n+L.length:Nat):Int))]
 | [],n,s=>rfl
 | x::L,n,s=>by
  show (_::sE (n+1) (L++[s]))=_::(sE (n+1) L++_)
  rw [sE_snoc L (n+1) s,show n+1+L.length=n+(x::L).length by simp only [List.length_cons];omega]
theorem mput_sE{s:ByteArray}{L:List ByteArray}(h:idxS s L=none):mput (.string s) (.int .i64 (L.length:Nat)) (sE 0 L)=sE 0 (L++[s]):=by
 unfold mput
 rw [mfind_sE,h,sE_snoc,Nat.zero_add]
theorem str_ok(s:ByteArray):keyOk Tryd.prog 9 (.string s)=true:=by
 have h2:und Tryd.prog 9 = .string:=by kernel_rfl
 unfold keyOk
 simp only [h2]
theorem sE_ok:∀ (L:List ByteArray) (n:Nat),mapOk Tryd.prog 9 (sE n L)=true
 | [],_=>rfl
 | x::L,n=>by
  show (keyOk Tryd.prog 9 (.string x)&&mapOk Tryd.prog 9 (sE (n+1) L))=true
  rw [str_ok,sE_ok L (n+1)];rfl
theorem tm_make(H:AH):xmakeMap Tryd.prog 74 none H=some (.map (some H.length),H++[some (mblk 74 (sE 0 []))]):=by
 have h1:und Tryd.prog 74 = .map 9 3 := by kernel_rfl
 unfold xmakeMap
 simp only [h1]
 rfl
theorem tm_put{nro:Nat}{H:AH}{mb:Nat}{L:List ByteArray}{s:ByteArray}(hm:hget H mb=some (mblk 74 (sE 0 L)))(hn:nro≤mb)(h:idxS s L=none):xmapUpd Tryd.prog nro 74 (.map (some mb)) (.string s) (.int .i64 (L.length:Nat)) H=some (undef,H.set mb (some (mblk 74 (sE 0 (L++[s]))))):=by
 have h1:und Tryd.prog 74 = .map 9 3 := by kernel_rfl
 unfold xmapUpd
 simp only [h1,hm,ents_mblk,str_ok,sE_ok]
 rw [if_pos ⟨hn,trivial,trivial,rfl⟩,mblk_ty,mput_sE h]
theorem tm_look{H:AH}{mb:Nat}{L:List ByteArray}(hm:hget H mb=some (mblk 74 (sE 0 L)))(s:ByteArray):xlookup Tryd.prog 74 (.map (some mb)) (.string s) true H=some (match idxS s L with | some i=>.tuple #[.int .i64 (i:Nat),.bool true] | none=>.tuple #[.int .i64 0,.bool false]):=by
 have h1:und Tryd.prog 74 = .map 9 3 := by kernel_rfl
 have h4:zer Tryd.prog 3 = some (.int .i64 0):=by kernel_rfl
 have h5:plain2 (.int .i64 0)=true:=rfl
 unfold xlookup
 simp only [h1,hm,Option.bind_some,ents_mblk,str_ok,sE_ok,mget_sE]
 cases idxS s L with
 | none=>simp [h4,h5]
 | some i=>simp
structure TermD where
 kind:Nat
 text:ByteArray
 keys:List (List Int)
structure TermD.Wf (x:TermD):Prop where
 kind:x.kind≤6
 text:x.text.size≤100000000
 k32:∀k∈x.keys,k.length=32
 by_:∀k∈x.keys,By k
 many:x.keys.length≤1000000
 pub:x.kind=3→x.keys.length=1
 agree:x.kind=4→x.keys.length=2
 seal_:x.kind=6→2≤x.keys.length
def TermD.rec_(x:TermD):ByteArray:=tmRec x.kind x.text x.keys
theorem TermD.inj{x y:TermD}(hx:x.Wf)(hy:y.Wf)(h:x.rec_=y.rec_):x=y:=by
 obtain⟨a,b,c⟩:=x
 obtain⟨a',b',c'⟩:=y
 obtain⟨rfl,rfl,rfl⟩:=tmRec_inj hx.k32 hy.k32 hx.by_ hy.by_ h
 rfl
def placeT(x:TermD)(T:List TermD):Option Nat:=idxS x.rec_ (T.map TermD.rec_)
def addT(x:TermD)(T:List TermD):List TermD:=match placeT x T with | some _=>T | none=>T++[x]
def nameT(x:TermD)(T:List TermD):Nat:=match placeT x T with | some i=>i | none=>T.length
theorem place_some{x:TermD}{T:List TermD}{i:Nat}(hx:x.Wf)(hT:∀y∈T,y.Wf)(h:placeT x T=some i):T[i]?=some x:=by
 have:=idxS_some h
 rw [gmP]at this
 cases hy:T[i]? with
 | none=>rw [hy]at this;cases this
 | some y=>
  rw [hy]at this
  have e:y.rec_=x.rec_:=Option.some.inj this
  rw [TermD.inj (hT y (moG hy)) hx e]
def tmRow(kv:Value)(x:TermD):List Value:=[.int .i64 (x.kind:Nat),.string x.text,kv]
def tmRows(L:List (Value×TermD)):List Value:=(L.map fun p=>tmRow p.1 p.2).flatten
structure TblF (H:AH) (b mb:Nat) (tv:Value) (Ft F:List Nat) (L:List (Value×TermD)):Prop where
 hb:hget H b=some ⟨[tv,.map (some mb)], 76,none⟩
 hm:hget H mb=some (mblk 74 (sE 0 ((L.map (·.2)).map TermD.rec_)))
 rows:OwnF H tv 92 3 (tmRows L) Ft
 keys:∀p∈L,∃Fk,OwnF H p.1 41 32 (kr p.2.keys) Fk∧∀j∈Fk,j∈F
 wf:∀p∈L,p.2.Wf
 bm:b≠mb
 bt:b∉Ft
 mt:mb∉Ft
 fb:b∉F
 fm:mb∉F
 ft:∀j∈Ft,j∉F
def Tbl(H:AH)(b:Nat)(F:List Nat)(T:List TermD):Prop:=∃mb tv Ft Fk L,T=L.map (·.2)∧TblF H b mb tv Ft Fk L∧F=b::mb::(Ft++Fk)∧∀j∈F,j<H.length
theorem TblF.low{H G:AH}{b mb:Nat}{tv:Value}{Ft F:List Nat}{L:List (Value×TermD)}(h:TblF H b mb tv Ft F L)(hl:∀j∈b::mb::(Ft++F),hget G j=hget H j):TblF G b mb tv Ft F L:=
 ⟨(hl b (by simp)).trans h.hb,(hl mb (by simp)).trans h.hm,h.rows.low (fun j hj=>hl j (by simp [hj])),fun p hp=>by
  obtain⟨Fk,h1,h2⟩:=h.keys p hp
  exact⟨Fk,h1.low (fun j hj=>hl j (by simp [h2 j hj])),h2⟩,h.wf,h.bm,h.bt,h.mt,h.fb,h.fm,h.ft⟩
theorem Tbl.low{H G:AH}{b:Nat}{F:List Nat}{T:List TermD}(h:Tbl H b F T)(hl:∀j∈F,hget G j=hget H j)(hle:H.length≤G.length):Tbl G b F T:=by
 obtain⟨mb,tv,Ft,Fk,L,h1,h2,h3,h4⟩:=h
 subst h3
 exact⟨mb,tv,Ft,Fk,L,h1,h2.low hl,rfl,fun j hj=>Nat.lt_of_lt_of_le (h4 j hj) hle⟩
end
section
attribute [local simp] wb_bool wb_undef with_lit XL_nil XL_cons XLc_val XLc_call step1_eq stepW_t stepW_f stepC_n stepC_s stepX_s stepX_n stepN_s calleeX xrecv oneV xop_eq xopR_s xopR_n wantedA_eq wantedG_n wantedG_s plain1_int plain1_bool plain1_string bits_i64 bits_u64 bits_u32 bits_u16 bits_u8 xeqA xagg xcmp xarr allK_iv num_iv calleeOf xread xeff xbin xint xnil xun xstr xload xconv xpart xfield xfieldAddr xindexAddr xindex bnd asInt? xslice xlen xmin xmax xbuild xfill xappend xapp2 xappstr xappmk xcap xcopy xcells eval_tmp eval_const put_at put_none fr0_at cells_agg cells_int cells_bool cells_string cells_ptr cells_slice notTuple tab iv_all hget_app hget_app0 hget_cons0 hget_cons set_app set_app0 setR setR_one QL_nil QL_cons QLc_val stepQ_t stepQ_f stepQC_n stepQC_s stepQX_s SL_nil SL_cons SLc_val stepS_t stepS_f ltT ltF leT leF eqT eqF ltTn ltFn leTn leFn eqTn eqFn beqT beqF bneT bneF wi64 wu64 wu32 wu16 wu8 tmodP tdivP hgetL hgetNe hgetEq setL nums_def nums_len Nat.succ_le_of_lt List.getElem?_cons_zero List.getElem?_cons_succ Option.getD_some Int.toNat_add Int.toNat_mul agM okM agB agI agS agP agL agA okB okI okS okP okSl okA nt_strG nt_boolG nt_aggG nt_intG nt_ptrG nt_slG XO_s XO_z XLk_val XLk_call headsO behind List.length_cons List.length_nil List.mem_cons List.not_mem_nil or_false forall_eq_or_imp forall_eq List.contains_cons List.contains_nil thenQ_ret scopeQ_ret inBlockQ_ret RQ resL resV
section
theorem tmRows_rows(L:List (Value×TermD)):∀r∈L.map (fun p=>tmRow p.1 p.2),r.length=3:=fun r hr=>by
 obtain⟨p,_,rfl⟩:=List.mem_map.1 hr
 rfl
theorem tmRows_len(L:List (Value×TermD)):(tmRows L).length=L.length*3:=by
 unfold tmRows
 rw [fl_len (tmRows_rows L),List.length_map]
theorem tmRows_get{L:List (Value×TermD)}{i:Nat}{p:Value×TermD}(h:L[i]?=some p):((tmRows L).drop (i*3)).take 3=tmRow p.1 p.2:=
 fl_get (tmRows_rows L) (by rw [gmP,h];rfl)
theorem tmRows_snoc(L:List (Value×TermD))(p:Value×TermD):tmRows (L++[p])=tmRows L++tmRow p.1 p.2:=by simp [tmRows]
theorem tm_addr{n b j:Nat}(hj:j<n):xindexAddr Tryd.prog 30 (.slice (some ⟨b,0,none⟩) n n) (.int .i64 (j:Nat))=some (.pointer (some ⟨b,j*3,none⟩)):=by
 have h1:und Tryd.prog 30 = .slice 92 := by kernel_rfl
 have h2:szt Tryd.prog 92 = 3:=by kernel_rfl
 unfold xindexAddr
 simp only [h1,h2]
 rw [if_pos ⟨by omega,by omega,by omega⟩]
 simp
theorem tm_load{G:AH}{b j:Nat}{L:List (Value×TermD)}{p:Value×TermD}(hj:L[j]?=some p)(hb:hget G b=some ⟨tmRows L, 92,some 3⟩):xload Tryd.prog 92 (.pointer (some ⟨b,j*3,none⟩)) G=some (.agg (tmRow p.1 p.2).toArray):=by
 have hl:=(gsI.1 hj).1
 refine load_at (sz:=3) hb (by kernel_rfl) (by omega) (by kernel_rfl) (tmRows_get hj).symm ?_
 show _≤(tmRows L).length
 rw [tmRows_len]
 have:(j+1)*3≤L.length*3:=Nat.mul_le_mul_right _ hl
 omega
theorem TblF.at_{H:AH}{b mb:Nat}{tv:Value}{Ft F:List Nat}{L:List (Value×TermD)}(h:TblF H b mb tv Ft F L){i:Nat}{p:Value×TermD}(hi:L[i]?=some p):∃q,xindexAddr Tryd.prog 30 tv (.int .i64 (i:Nat))=some q∧notTuple q=true∧∀N:AH,xload Tryd.prog 92 q (H++N)=some (.agg (tmRow p.1 p.2).toArray):=by
 have hl:=(gsI.1 hi).1
 have hr:=tmRows_len L
 rcases h.rows with ⟨_,h2,_⟩ | ⟨j,len,rfl,h2,h3,_⟩
 ·rw [h2]at hr
  simp at hr
  omega
 ·have:len=L.length:=by omega
  subst this
  exact⟨_,tm_addr hl,rfl,fun N=>tm_load hi ((hget_left (hget_lt h2)).trans h2)⟩
theorem TblF.tvlen{H:AH}{b mb:Nat}{tv:Value}{Ft F:List Nat}{L:List (Value×TermD)}(h:TblF H b mb tv Ft F L):xlen Tryd.prog 30 tv=some (.int .i64 (L.length:Nat))∧notTuple tv=true∧tv.cells=#[tv]:=by
 refine⟨h.rows.len (by kernel_rfl) (tmRows_len L) (by omega),?_,?_⟩
 all_goals rcases h.rows with ⟨rfl,_,_⟩ | ⟨j,len,rfl,_,_,_⟩ <;> rfl
theorem TblF.key_nt{H:AH}{b mb:Nat}{tv:Value}{Ft F:List Nat}{L:List (Value×TermD)}(h:TblF H b mb tv Ft F L){p:Value×TermD}(hp:p∈L):notTuple p.1=true∧p.1.cells=#[p.1]:=by
 obtain⟨Fk,h1,_⟩:=h.keys p hp
 rcases h1 with ⟨e,_,_⟩ | ⟨j,len,e,_,_,_⟩ <;> rw [e] <;> exact⟨rfl,rfl⟩
theorem tlen_rc{γ:Nat→Option Nat}{H:AH}{b mb n:Nat}{tv:Value}(hb:hget H b=some ⟨[tv,.map (some mb)], 76,none⟩)(hl:xlen Tryd.prog 30 tv=some (.int .i64 (n:Nat)))(hnt:notTuple tv=true)(hcs:tv.cells=#[tv]):AC Tryd.prog H.length γ 14 #[.pointer (some ⟨b,0,none⟩)] H (fun v' _=>v'=.int .i64 (n:Nat)):=by
 refine ac_of_aw Tryd.func14 rfl Tryd.ntmps14 Tryd.results14 (by simp) ?_
 (refine aso fun K hK=>?_;simp (disch:=first|omega|simp only [lnS];try omega);refine hK _ _ ?_;clear hK K)
 refine aw_seq (aw_seq ?_)
 (refine aoo fun K hK=>?_;simp (disch:=first|omega|simp only [lnS];try omega);refine hK _ _ ?_;clear hK K)
 refine awf (by simp<;>omega) ?_
 refine aw_skip (aw_seq ?_)
 (refine aoo fun K hK=>?_;simp (disch:=first|omega|simp only [lnS];try omega) [hb,-notTuple,hnt,-xlen,hl];refine hK _ _ ?_;clear hK K)
 (refine aw_ret ?_;simp (disch:=first|omega|simp only [lnS];try omega))
theorem tnew_ac{nro:Nat}{γ:Nat→Option Nat}{H:AH}(hnro:nro≤H.length):AC Tryd.prog nro γ 24 #[] H (fun v' H'=>v'=.pointer (some ⟨H.length+1,0,none⟩)∧Low H.length H H'∧TblF H' (H.length+1) H.length (.slice none 0 0) [] [] []):=by
 have hmk:=tm_make
 refine ac_of_aw Tryd.func24 rfl Tryd.ntmps24 Tryd.results24 (by simp) ?_
 (refine aso fun K hK=>?_;simp (disch:=first|omega|simp only [lnS];try omega);refine hK _ _ ?_;clear hK K)
 (refine aso fun K hK=>?_;simp (disch:=first|omega|simp only [lnS];try omega) [hmk];refine hK _ _ ?_;clear hK K)
 (refine aw_ret ?_;simp (disch:=first|omega|simp only [lnS];try omega))
 have e:setR [Value.slice none 0 0,Value.map none] 1 (Value.map (some H.length)).cells.toList=[.slice none 0 0,.map (some H.length)]:=rfl
 rw [e]
 refine⟨⟨fun j hj=>hget_left hj,by simp⟩,⟨?_,?_,.inl ⟨rfl,rfl,rfl⟩,fun p hp=>(by cases hp),fun p hp=>(by cases hp),(by omega),(fun h=>by cases h),(fun h=>by cases h),(fun h=>by cases h),(fun h=>by cases h),(fun j h=>by cases h)⟩⟩
 ·rw [hget_app];rfl
 ·rw [hget_app0];rfl
def zkey:Value:=.agg #[.int .i64 0,.string ByteArray.empty,.slice none 0 0]
def findV(L:List (Value×TermD))(k:List Int):Value:=if (decide (nmL (plN k)=k)&&decide (plN k<L.length))=true then (match L[(plN k).toNat]? with | some p=>.tuple #[.agg (tmRow p.1 p.2).toArray,.bool true] | none=>.tuple #[zkey,.bool false]) else .tuple #[zkey,.bool false]
def findT(T:List TermD)(k:List Int):Option TermD:=if (decide (nmL (plN k)=k)&&decide (plN k<T.length))=true then T[(plN k).toNat]? else none
def lookT(T:List TermD)(k:List Int):TermD:=match findT T k with | some x=>x | none=>⟨0,⟨#[]⟩,[k]⟩
theorem findV_T(L:List (Value×TermD))(k:List Int):(∃p∈L,findV L k=.tuple #[.agg (tmRow p.1 p.2).toArray,.bool true]∧findT (L.map (·.2)) k=some p.2)∨(findV L k=.tuple #[zkey,.bool false]∧findT (L.map (·.2)) k=none):=by
 unfold findV findT
 rw [List.length_map]
 by_cases h:(decide (nmL (plN k)=k)&&decide (plN k<L.length))=true
 ·rw [if_pos h,if_pos h,gmP]
  cases hp:L[(plN k).toNat]? with
  | none=>exact .inr ⟨rfl,rfl⟩
  | some p=>exact .inl ⟨p,moG hp,rfl,rfl⟩
 ·rw [if_neg h,if_neg h]
  exact .inr ⟨rfl,rfl⟩
theorem find_rc{γ:Nat→Option Nat}{H:AH}{b mb:Nat}{tv:Value}{Ft F:List Nat}{L:List (Value×TermD)}(h:TblF H b mb tv Ft F L){k:List Int}(hk:k.length=32)(hb:By k):AC Tryd.prog H.length γ 66 #[.pointer (some ⟨b,0,none⟩),.agg (iv .u8 k).toArray] H (fun v' H'=>v'=findV L k∧Low H.length H H'):=by
 obtain⟨hl,hnt,hcs⟩:=h.tvlen
 have hgb:=h.hb
 have hbl:=hget_lt hgb
 have htk:(iv .u8 k).take 32=iv .u8 k:=tkL (by simp [hk])
 have hpl:=fun (G:AH)=>place_rc (γ:=γ) (H:=G) hk hb
 have hp0:0≤plN k:=by
  have b4:=hb.get 4
  have b5:=hb.get 5
  have b6:=hb.get 6
  have b7:=hb.get 7
  unfold plN
  omega
 unfold findV
 have hat:∀p,L[(plN k).toNat]?=some p→∃q,xindexAddr Tryd.prog 30 tv (.int .i64 (plN k))=some q∧notTuple q=true∧∀N:AH,xload Tryd.prog 92 q (H++N)=some (.agg (tmRow p.1 p.2).toArray):=fun p hp=>by
  have:=h.at_ hp
  rwa [Int.toNat_of_nonneg hp0]at this
 have hgl:plN k<L.length→∃p,L[(plN k).toNat]?=some p:=fun hlt=>⟨_,geE (by omega)⟩
 have hlen:=fun (G:AH) (hG:hget G b=hget H b)=>tlen_rc (γ:=γ) (hG.trans hgb) hl hnt hcs
 have p1:plain1 (.slice none 0 0)=true:=rfl
 obtain⟨ok,hok⟩:∃ok,ok=decide (nmL (plN k)=k):=⟨_,rfl⟩
 rw [←hok]at hpl
 rw [←hok]
 generalize plN k=p at *
 clear hok
 refine ac_of_aw Tryd.func66 rfl Tryd.ntmps66 Tryd.results66 (by simp) ?_
 (refine aso fun K hK=>?_;simp (disch:=first|omega|simp only [lnS];try omega) [htk];refine hK _ _ ?_;clear hK K)
 refine aso fun K hK=>?_
 simp (disch:=first|omega|simp only [lnS];try omega) [htk]
 refine⟨by kernel_rfl,ac_of_rc (hpl _) (by simp [pv_iv,pv_int,pv_bool,pv_string,pv_tup2,pv_tup3,iv_plain,p2_int,p2_bool,p2_string]) ?_⟩
 try simp (disch:=first|omega|simp only [lnS];try omega)
 refine hK _ _ ?_;clear hK K
 refine aw_seq (aw_seq ?_)
 cases ok with
 | false=>
  refine aoo fun K hK=>?_
  simp (disch:=first|omega|simp only [lnS];try omega)
  refine hK _ _ ?_;clear hK K
  refine awt (by simp<;>omega) ?_
  (refine aso fun K hK=>?_;simp (disch:=first|omega|simp only [lnS];try omega) [p1];refine hK _ _ ?_;clear hK K)
  (refine aw_ret ?_;simp (disch:=first|omega|simp only [lnS];try omega))
  exact⟨rfl,Low.push (nlE _) _⟩
 | true=>
  refine aoo fun K hK=>?_
  simp (disch:=first|omega|simp only [lnS];try omega)
  refine⟨by kernel_rfl,ac_of_rc (hlen _ (hget_left hbl)) (by simp [pv_iv,pv_int,pv_bool,pv_string,pv_tup2,pv_tup3,iv_plain,p2_int,p2_bool,p2_string]) ?_⟩
  by_cases hlt:p<L.length
  ·have hn:¬ ((L.length:Int)≤p):=by omega
   try simp (disch:=first|omega|simp only [lnS];try omega) [hn]
   refine hK _ _ ?_;clear hK K
   refine awf (by simp<;>omega) ?_
   refine aw_skip (aw_seq ?_)
   obtain⟨q,hq⟩:=hgl hlt
   obtain⟨a,a1,a2,a3⟩:=hat q hq
   obtain⟨k1,k2⟩:=h.key_nt (moG hq)
   rw [hq,if_pos (by simp [hlt])]
   obtain⟨kv,x⟩:=q
   unfold tmRow at *
   simp only at a3 k1 k2
   have ld:∀N:AH,xload Tryd.prog 30 (.pointer (some ⟨b,0,none⟩)) (H++N)=some tv:=fun N=>by
    have:=(hget_left (L:=N) hbl).trans hgb
    simp [xload,this]
   (refine aoo fun K hK=>?_;simp (disch:=first|omega|simp only [lnS];try omega) [-notTuple,hnt,a2,k1,k2,-xload,ld,-xindexAddr,a1,a3];refine hK _ _ ?_;clear hK K)
   (refine aw_ret ?_;simp (disch:=first|omega|simp only [lnS];try omega) [k1,k2])
   exact Low.push (nlE _) _
  ·have hn:(L.length:Int)≤p:=by omega
   try simp (disch:=first|omega|simp only [lnS];try omega) [hn]
   refine hK _ _ ?_;clear hK K
   refine awt (by simp<;>omega) ?_
   (refine aso fun K hK=>?_;simp (disch:=first|omega|simp only [lnS];try omega) [p1];refine hK _ _ ?_;clear hK K)
   (refine aw_ret ?_;simp (disch:=first|omega|simp only [lnS];try omega) [hlt])
   exact⟨rfl,Low.push (nlE _) _⟩
end
section
def TermQ(H:AH)(b:Nat)(F:List Nat)(T:List TermD)(x:TermD)(v':Value)(H':AH):Prop:=
 v'=.agg (iv .u8 (nmL (nameT x T))).toArray∧H.length≤H'.length∧(∀j,j<H.length→j∉F→hget H' j=hget H j)∧∃F',Tbl H' b F' (addT x T)∧∀j∈F',j∈F∨H.length≤j
theorem ownF_nt{H:AH}{v:Value}{e:TypeId}{sz:Nat}{cells:List Value}{F:List Nat}(h:OwnF H v e sz cells F):notTuple v=true∧v.cells=#[v]:=by
 rcases h with ⟨rfl,_,_⟩ | ⟨j,len,rfl,_,_,_⟩ <;> exact⟨rfl,rfl⟩
theorem TblF.lt{H:AH}{b mb:Nat}{tv:Value}{Ft F:List Nat}{L:List (Value×TermD)}(h:TblF H b mb tv Ft F L):b<H.length∧mb<H.length∧∀j∈Ft,j<H.length:=⟨hget_lt h.hb,hget_lt h.hm,h.rows.lt⟩
theorem term_ac{nro:Nat}{γ:Nat→Option Nat}{H:AH}(hp:Pw γ H){b:Nat}{F:List Nat}{T:List TermD}(h:Tbl H b F T)(hnro:∀j∈F,nro≤j)(hnH:nro≤H.length)
  {x:TermD} (hx:x.Wf) {v:Value} (hK:∀G:AH,H.length≤G.length→(∀j,j<H.length→j∉F→hget G j=hget H j)→KsV G v x.keys) (hT:T.length≤1000000) :
  AC Tryd.prog nro γ 46 #[.pointer (some ⟨b,0,none⟩),.int .i64 (x.kind:Nat),.string x.text,v] H (TermQ H b F T x):=by
 obtain⟨mb,tv,Ft,Fk,L,rfl,hL,rfl,hFl⟩:=h
 obtain⟨hl,hnt,hcs⟩:=hL.tvlen
 have hgb:=hL.hb
 have hgm:=hL.hm
 have hlt:=hL.lt
 rw [List.length_map]at hT
 have hv:=val_nt (hK H (nlE _) (fun _ _ _=>rfl))
 obtain⟨Z,hZ⟩:∃Z:Blk,Z=⟨iv .u8 (zl 32), 41,none⟩:=⟨_,rfl⟩
 have hrec:=fun (N:AH)=>recipe_rc (γ:=γ) (H:=H++N) (hp.low ⟨fun j hj=>hget_left hj,by simp⟩) (kind:=(x.kind:Nat)) (by omega) (by have:=hx.kind;omega) hx.text (hK _ (by simp) (fun j hj _=>hget_left hj)) hx.k32 hx.by_ hx.many
 have hr:tmRec (x.kind:Nat) x.text x.keys=x.rec_:=rfl
 rw [hr]at hrec
 have hlk:=fun (N:AH)=>tm_look ((hget_left (L:=N) hlt.2.1).trans hgm) x.rec_
 have hnm:=fun (G:AH) (hle:nameT x (L.map (·.2))≤L.length)=>name_rc (γ:=γ) (H:=G) (n:=(nameT x (L.map (·.2)):Nat)) ⟨by omega,by omega⟩
 refine ac_of_aw Tryd.func46 rfl Tryd.ntmps46 Tryd.results46 (by simp) ?_
 (refine aso fun K hK=>?_;simp (disch:=first|omega|simp only [lnS];try omega);refine hK _ _ ?_;clear hK K)
 refine aw_seq (aw_seq ?_)
 (refine aoo fun K hK=>?_;simp (disch:=first|omega|simp only [lnS];try omega);refine hK _ _ ?_;clear hK K)
 refine awf (by simp<;>omega) ?_
 refine aw_skip (aw_seq ?_)
 refine aoo fun K hK=>?_
 simp (disch:=first|omega|simp only [lnS];try omega) [-notTuple,hv.1]
 refine⟨by kernel_rfl,ac_of_rc (hrec _) (by simp [pv_iv,pv_int,pv_bool,pv_string,pv_tup2,pv_tup3,iv_plain,p2_int,p2_bool,p2_string]) ?_⟩
 try simp (disch:=first|omega|simp only [lnS];try omega)
 refine hK _ _ ?_;clear hK K
 have hpl:placeT x (L.map (·.2))=idxS x.rec_ ((L.map (·.2)).map TermD.rec_):=rfl
 refine aw_seq ?_
 cases hf:placeT x (L.map (·.2)) with
 | some i=>
  rw [←hpl,hf]at hlk
  have hnm1:nameT x (L.map (·.2))=i:=by unfold nameT;rw [hf]
  have had:addT x (L.map (·.2))=L.map (·.2):=by unfold addT;rw [hf]
  have hil:i≤L.length:=by
   have:=(gsI.1 (idxS_some (hpl▸hf))).1
   simp at this
   omega
  rw [hnm1]at hnm
  (refine aoo fun K hK=>?_;simp (disch:=first|omega|simp only [lnS];try omega) [hgb,hlt.1,hlk];refine hK _ _ ?_;clear hK K)
  refine aw_seq (aw_seq ?_)
  (refine aoo fun K hK=>?_;simp (disch:=first|omega|simp only [lnS];try omega);refine hK _ _ ?_;clear hK K)
  refine awf (by simp<;>omega) ?_
  refine aw_skip (aw_seq ?_)
  refine aoo fun K hK=>?_
  simp (disch:=first|omega|simp only [lnS];try omega)
  refine⟨by kernel_rfl,ac_of_rc (hnm _ hil) (by simp [pv_iv]) ?_⟩
  have fin:∀N:AH,TermQ H b (b::mb::(Ft++Fk)) (L.map (·.2)) x (.agg (iv .u8 (nmL (i:Nat))).toArray) (H++N):=fun N=>by
   refine⟨by rw [hnm1],by simp,fun j hj _=>hget_left hj,b::mb::(Ft++Fk),?_,fun j hj=>.inl hj⟩
   rw [had]
   exact⟨mb,tv,Ft,Fk,L,rfl,hL.low (fun j hj=>hget_left (hFl j hj)),rfl,fun j hj=>by have:=hFl j hj;simp;omega⟩
  have lN:(nmL (i:Nat)).length=32:=rfl
  generalize nmL (i:Nat)=N at *
  have ht:(iv .u8 N).take 32=iv .u8 N:=tkL (by simp [lN])
  have hs:setR (iv .u8 (zl 32)) 0 (iv .u8 N)=iv .u8 N:=setR_all _ _ (by simp [lN])
  try simp (disch:=first|omega|simp only [lnS];try omega) [hnH,lN,ht,hs]
  refine hK _ _ ?_;clear hK K
  (refine aw_ret ?_;simp (disch:=first|omega|simp only [lnS];try omega) [lN,ht])
  exact fin _
 | none=>
  rw [←hpl,hf]at hlk
  (refine aoo fun K hK=>?_;simp (disch:=first|omega|simp only [lnS];try omega) [hgb,hlt.1,hlk];refine hK _ _ ?_;clear hK K)
  refine aw_seq (aw_seq ?_)
  (refine aoo fun K hK=>?_;simp (disch:=first|omega|simp only [lnS];try omega);refine hK _ _ ?_;clear hK K)
  refine awt (by simp<;>omega) ?_
  have hn0:idxS x.rec_ ((L.map (·.2)).map TermD.rec_)=none:=hpl▸hf
  obtain⟨G,hput,hGl,hGm,hGo⟩:∃G:AH,xmapUpd Tryd.prog nro 74 (.map (some mb)) (.string x.rec_) (.int .i64 (L.length:Nat)) (H++[some ⟨iv .u8 (zl 32), 41,none⟩])=some (undef,G)∧G.length=H.length+1 ∧
    hget G mb=some (mblk 74 (sE 0 (((L++[(v,x)]).map (·.2)).map TermD.rec_)))∧∀j,j≠mb→hget G j=hget (H++[some ⟨iv .u8 (zl 32), 41,none⟩]) j:=by
   have:=tm_put (nro:=nro) ((hget_left (L:=[some ⟨iv .u8 (zl 32), 41,none⟩]) hlt.2.1).trans hgm) (hnro mb (by simp)) hn0
   simp only [List.length_map]at this
   refine⟨_,this,by simp,?_,fun j hj=>hget_set_ne (Ne.symm hj)⟩
   rw [hget_set_eq (by simp;have:=hlt.2.1;omega)]
   simp
  (refine aso fun K hK=>?_;simp (disch:=first|omega|simp only [lnS];try omega) [hgb,hlt.1,-notTuple,hnt,-xlen,hl];refine hK _ _ ?_;clear hK K)
  (refine aso fun K hK=>?_;simp (disch:=first|omega|simp only [lnS];try omega) [hgb,hlt.1,hput];refine hK _ _ ?_;clear hK K)
  have hGb:hget G b=some ⟨[tv,.map (some mb)], 76,none⟩:=(hGo b hL.bm).trans ((hget_left hlt.1).trans hgb)
  have hGk:KsV G v x.keys:=hK G (by omega) (fun j hj hn=>(hGo j (fun e=>hn (by simp [e]))).trans (hget_left hj))
  have hcl:=cloneK_ac (nro:=nro) (γ:=γ) hGk hx.k32 (by omega) (by have:=hx.many;omega)
  have hnr3:nro≤b:=hnro b (by simp)
  have p1:plain1 (.slice none 0 0)=true:=rfl
  have nt_strG:∀s:ByteArray,notTuple (.string s)=true:=fun _=>rfl
  have hHb:H.length≠b:=by have:=hlt.1;omega
  have hHm:H.length≠mb:=by have:=hlt.2.1;omega
  have hHt:H.length∉Ft:=fun hm=>by have:=hlt.2.2 _ hm;omega
  have hGH:hget G H.length=some ⟨iv .u8 (zl 32), 41,none⟩:=by rw [hGo _ hHm,hget_app0];rfl
  have hGj:∀j,j<H.length→j≠mb→hget G j=hget H j:=fun j hj hn=>(hGo j hn).trans (hget_left hj)
  have hnm2:nameT x (L.map (·.2))=L.length:=by unfold nameT;rw [hf,List.length_map]
  have had:addT x (L.map (·.2))=(L++[(v,x)]).map (·.2):=by unfold addT;rw [hf];simp
  have fin:∀ (G1:AH) (v1:Value) (F1:List Nat),Low G.length G G1→OwnF G1 v1 41 32 (ksC x.keys) F1→(∀j∈F1,G.length≤j)→∃v' G3,xappend Tryd.prog nro 30 tv (.slice (some ⟨G1.length,0,none⟩) 1 1) (G1++[some ⟨[.int .i64 (x.kind:Nat),.string x.text,v1], 92,some 3⟩])=some (v',G3) ∧
    notTuple v'=true∧v'.cells=#[v']∧hget G3 b=some ⟨[tv,.map (some mb)], 76,none⟩∧hget G3 H.length=some ⟨iv .u8 (zl 32), 41,none⟩ ∧
    ∀X:Option Blk,TermQ H b (b::mb::(Ft++Fk)) (L.map (·.2)) x (.agg (iv .u8 (nmL (L.length:Nat))).toArray) ((G3.set b (some ⟨[v',.map (some mb)], 76,none⟩)).set H.length X):=by
   intro G1 v1 F1 lw1 ho1 hF1
   have hle1:=lw1.2
   obtain⟨R,hR⟩:∃R:Option Blk,R=some ⟨[.int .i64 (x.kind:Nat),.string x.text,v1], 92,some 3⟩:=⟨_,rfl⟩
   rw [←hR]
   have hxc:xcells 3 (.slice (some ⟨G1.length,0,none⟩) 1 1) (G1++[R])=some (tmRow v1 x):=by
    unfold xcells
    simp only [hget_app0]
    rw [hR]
    rfl
   have hF1l:=ho1.lt
   obtain⟨v',G3,hap,ho2,hl3,hk3⟩:=ownF_append (P:=Tryd.prog) (nro:=nro) (t := 30) (e := 92) (H:=G1++[R]) (v:=tv) (x:=.slice (some ⟨G1.length,0,none⟩) 1 1) (sz:=3) (cells:=tmRows L) (news:=tmRow v1 x) (F:=Ft) (by kernel_rfl) (by kernel_rfl) (by omega) (by kernel_rfl)
    (hL.rows.low (fun j hj=>(hget_left (by have:=hlt.2.2 j hj;omega)).trans ((lw1.1 j (by have:=hlt.2.2 j hj;omega)).trans (hGj j (hlt.2.2 j hj) (fun e=>hL.mt (e▸hj))))))
    (fun j hj=>hnro j (by simp [hj])) (fun s e=>by cases e) hxc (by simp [tmRow]) (by simp [tmRow]) (by rw [tmRows_len];show (L.length*3+3)*byt Tryd.prog 92 ≤ _;rw [show byt Tryd.prog 92 = 48 by kernel_rfl];omega) (by rw [tmRows_len];show L.length*3+3≤_;simp [maxLen];omega)
   have hl2:(G1++[R]).length=G1.length+1:=by simp
   rw [hl2]at ho2 hl3 hk3
   obtain⟨n1,n2⟩:=ownF_nt ho2
   have h31:∀j,j<G1.length→j∉Ft→hget G3 j=hget G1 j:=fun j hj hn=>(hk3 j (by omega) hn).trans (hget_left hj)
   have h3H:∀j,j<H.length→j≠mb→j∉Ft→hget G3 j=hget H j:=fun j hj hm hn=>(h31 j (by omega) hn).trans ((lw1.1 j (by omega)).trans (hGj j hj hm))
   refine⟨v',G3,hap,n1,n2,(h3H b hlt.1 hL.bm hL.bt).trans hgb,(h31 _ (by omega) hHt).trans ((lw1.1 _ (by omega)).trans hGH),fun X=>?_⟩
   have hA:∀j,j≠b→j≠H.length→hget ((G3.set b (some ⟨[v',.map (some mb)], 76,none⟩)).set H.length X) j=hget G3 j:=fun j h1 h2=>by rw [hget_set_ne (Ne.symm h2),hget_set_ne (Ne.symm h1)]
   have hAl:((G3.set b (some ⟨[v',.map (some mb)], 76,none⟩)).set H.length X).length=G3.length:=by simp
   have hbA:hget ((G3.set b (some ⟨[v',.map (some mb)], 76,none⟩)).set H.length X) b=some ⟨[v',.map (some mb)], 76,none⟩:=by rw [hget_set_ne hHb,hget_set_eq (by have:=hlt.1;omega)]
   generalize (G3.set b (some ⟨[v',.map (some mb)], 76,none⟩)).set H.length X=A at *
   have hbl:=hlt.1
   have hml:=hlt.2.1
   have hFk:∀j∈Fk,j<H.length∧j≠b∧j≠mb∧j∉Ft:=fun j hj=>⟨hFl j (by simp [hj]),fun e=>hL.fb (e▸hj),fun e=>hL.fm (e▸hj),fun ht=>hL.ft j ht hj⟩
   refine⟨by rw [hnm2],by omega,fun j hj hn=>?_,b::mb::([G1.length+1]++(Fk++F1)),?_,fun j hj=>?_⟩
   ·have e1:j≠b:=fun e=>hn (by simp [e])
    have e2:j≠mb:=fun e=>hn (by simp [e])
    have e3:j∉Ft:=fun e=>hn (by simp [e])
    exact (hA j e1 (by omega)).trans (h3H j hj e2 e3)
   ·rw [had]
    refine⟨mb,v',[G1.length+1],Fk++F1,L++[(v1,x)],by simp,?_,rfl,fun j hj=>?_⟩
    ·refine⟨hbA,?_,?_,fun p hp=>?_,fun p hp=>?_,hL.bm,by simp;omega,by simp;omega,?_,?_,?_⟩
     ·rw [hA mb (Ne.symm hL.bm) (Ne.symm hHm),h31 mb (by omega) hL.mt,lw1.1 mb (by omega),hGm]
      simp
     ·rw [tmRows_snoc]
      exact ho2.low (fun j hj=>hA j (by have:=msG.1 hj;omega) (by have:=msG.1 hj;omega))
     ·rcases maP.1 hp with hp | hp
      ·obtain⟨F0,h1,h2⟩:=hL.keys p hp
       exact⟨F0,h1.low (fun j hj=>(hA j (hFk j (h2 j hj)).2.1 (by have:=(hFk j (h2 j hj)).1;omega)).trans (h3H j (hFk j (h2 j hj)).1 (hFk j (h2 j hj)).2.2.1 (hFk j (h2 j hj)).2.2.2)),fun j hj=>by simp [h2 j hj]⟩
      ·rw [msG]at hp
       subst hp
       refine⟨F1,?_,fun j hj=>by simp [hj]⟩
       rw [←ksC_kr]
       exact ho1.low (fun j hj=>(hA j (by have:=hF1 j hj;omega) (by have:=hF1 j hj;omega)).trans (h31 j (hF1l j hj) (fun ht=>by have:=hlt.2.2 j ht;have:=hF1 j hj;omega)))
     ·rcases maP.1 hp with hp | hp
      ·exact hL.wf p hp
      ·rw [msG]at hp
       subst hp
       exact hx
     ·intro hm
      rcases maP.1 hm with hm | hm
      ·exact hL.fb hm
      ·have:=hF1 _ hm;omega
     ·intro hm
      rcases maP.1 hm with hm | hm
      ·exact hL.fm hm
      ·have:=hF1 _ hm;omega
     ·intro j hj hm
      rw [msG]at hj
      rcases maP.1 hm with hm | hm
      ·have:=(hFk j hm).1;omega
      ·have:=hF1l j hm;omega
    ·simp only [List.mem_cons,maP,List.not_mem_nil,or_false]at hj
     rcases hj with rfl | rfl | rfl | hj | hj
     ·omega
     ·omega
     ·omega
     ·have:=(hFk j hj).1;omega
     ·have:=hF1l j hj;omega
   ·simp only [List.mem_cons,maP,List.not_mem_nil,or_false]at hj ⊢
    rcases hj with h | h | h | h | h
    ·exact .inl (.inl h)
    ·exact .inl (.inr (.inl h))
    ·exact .inr (by omega)
    ·exact .inl (.inr (.inr (.inr h)))
    ·exact .inr (by have:=hF1 j h;omega)
  rw [hnm2]at hnm
  have r3:List.range 3=[0,1,2]:=rfl
  (refine aw_ptree [0,1,2,3,5,6,7] 8 [[4,8,9,10,11,12,13,14],[8,4,9,10,11,12,13,14],[8,9,4,10,11,12,13,14],[8,9,10,4,11,12,13,14]] (by kernel_rfl) (by kernel_rfl) (by kernel_rfl) (fun K hK=>?_));simp only [sel,gcS];simp (disch:=first|omega|simp only [lnS];try omega) [hGb,-notTuple,hnt,hv.1,-xappend]
  refine⟨⟨by kernel_rfl,hcl.mono ?_⟩,by kernel_rfl,hcl.mono ?_⟩
  ·rintro v1 G1 ⟨hv1,hG1l,lw1,F1,ho1,hF1⟩
   obtain⟨n1,n2⟩:=ownF_nt ho1
   clear hv1 hG1l
   obtain⟨v',G3,hap,n3,n4,g3b,g3H,hfin⟩:=fin G1 v1 F1 lw1 ho1 hF1
   have hbl3:=hget_lt g3b
   have hHl3:=hget_lt g3H
   try simp (disch:=first|omega|simp only [lnS];try omega) [-notTuple,hnt,n1,n2,n3,n4,p1,r3,-xappend,hap,g3b,hnr3,hbl3]
   refine hK _ _ ?_;clear hK K
   refine aso fun K hK=>?_
   simp (disch:=first|omega|simp only [lnS];try omega)
   refine⟨by kernel_rfl,ac_of_rc (hnm _ (by omega)) (by simp [pv_iv]) ?_⟩
   have lN:(nmL (L.length:Nat)).length=32:=rfl
   generalize nmL (L.length:Nat)=N at *
   have ht:(iv .u8 N).take 32=iv .u8 N:=tkL (by simp [lN])
   have hs:setR (iv .u8 (zl 32)) 0 (iv .u8 N)=iv .u8 N:=setR_all _ _ (by simp [lN])
   have g4H:hget (G3.set b (some ⟨[v',.map (some mb)], 76,none⟩)) H.length=some ⟨iv .u8 (zl 32), 41,none⟩:=(hget_set_ne hHb.symm).trans g3H
   try simp (disch:=first|omega|simp only [lnS];try omega) [hnH,lN,ht,hs,g4H,hHl3]
   refine hK _ _ ?_;clear hK K
   (refine aw_ret ?_;simp (disch:=first|omega|simp only [lnS];try omega) [lN,ht,hHl3])
   exact hfin _
  ·rintro v1 G1 ⟨hv1,hG1l,lw1,F1,ho1,hF1⟩
   obtain⟨n1,n2⟩:=ownF_nt ho1
   clear hv1 hG1l
   have hG1b:=(lw1.1 b (hget_lt hGb)).trans hGb
   have hG1l:=hget_lt hG1b
   obtain⟨v',G3,hap,n3,n4,g3b,g3H,hfin⟩:=fin G1 v1 F1 lw1 ho1 hF1
   have hbl3:=hget_lt g3b
   have hHl3:=hget_lt g3H
   try simp (disch:=first|omega|simp only [lnS];try omega) [hG1b,hG1l,-notTuple,hnt,n1,n2,n3,n4,p1,r3,-xappend,hap,g3b,hnr3,hbl3]
   refine⟨?_,?_,?_⟩
   all_goals
    refine hK _ _ ?_;clear hK K
    refine aso fun K hK=>?_
    simp (disch:=first|omega|simp only [lnS];try omega)
    refine⟨by kernel_rfl,ac_of_rc (hnm _ (by omega)) (by simp [pv_iv]) ?_⟩
    have lN:(nmL (L.length:Nat)).length=32:=rfl
    generalize nmL (L.length:Nat)=N at *
    have ht:(iv .u8 N).take 32=iv .u8 N:=tkL (by simp [lN])
    have hs:setR (iv .u8 (zl 32)) 0 (iv .u8 N)=iv .u8 N:=setR_all _ _ (by simp [lN])
    have g4H:hget (G3.set b (some ⟨[v',.map (some mb)], 76,none⟩)) H.length=some ⟨iv .u8 (zl 32), 41,none⟩:=(hget_set_ne hHb.symm).trans g3H
    try simp (disch:=first|omega|simp only [lnS];try omega) [hnH,lN,ht,hs,g4H,hHl3]
    refine hK _ _ ?_;clear hK K
    (refine aw_ret ?_;simp (disch:=first|omega|simp only [lnS];try omega) [lN,ht,hHl3])
    exact hfin _
end
section
theorem TermQ.up{H N G A:AH}{b:Nat}{F:List Nat}{T:List TermD}{x:TermD}{v v2:Value}(h:TermQ (H++N) b F T x v G)(hF:∀j∈F,j<H.length)(hv:v2=v)(hA:A.length=G.length)(hk:∀j,(j<H.length∨(H++N).length≤j)→hget A j=hget G j):TermQ H b F T x v2 A:=by
 subst hv
 obtain⟨h1,h2,h3,F',h4,h5⟩:=h
 have hl:(H++N).length=H.length+N.length:=by simp
 refine⟨h1,by omega,fun j hj hn=>(hk j (.inl hj)).trans ((h3 j (by omega) hn).trans (hget_left hj)),F',h4.low (fun j hj=>hk j ?_) (by omega),fun j hj=>?_⟩
 ·rcases h5 j hj with h | h
  ·exact .inl (hF j h)
  ·exact .inr h
 ·rcases h5 j hj with h | h
  ·exact .inl h
  ·exact .inr (by omega)
theorem Tbl.bound{H:AH}{b:Nat}{F:List Nat}{T:List TermD}(h:Tbl H b F T):∀j∈F,j<H.length:=by
 obtain⟨_,_,_,_,_,_,_,_,h4⟩:=h
 exact h4
theorem Tbl.push{H:AH}{b:Nat}{F:List Nat}{T:List TermD}(h:Tbl H b F T)(N:AH):Tbl (H++N) b F T:=h.low (fun j hj=>hget_left (h.bound j hj)) (by simp)
theorem Pw.push{γ:Nat→Option Nat}{H:AH}(h:Pw γ H)(N:AH):Pw γ (H++N):=h.low ⟨fun j hj=>hget_left hj,by simp⟩
theorem ks_nil(G:AH):KsV G (.slice none 0 0) []:=.nil (fun x e=>by cases e)
theorem wf_0{k:Nat}(hk:k=1∨k=2){s:ByteArray}(hs:s.size≤100000000):TermD.Wf ⟨k,s,[]⟩:=by
 refine⟨?_,hs,fun k hk=>(by cases hk),fun k hk=>(by cases hk),(by show 0≤1000000;omega),fun h=>?_,fun h=>?_,fun h=>?_⟩
 ·show k≤6;omega
 all_goals
  have h:k=_:=h
  omega
theorem TermQ.lay{H G:AH}{b:Nat}{F:List Nat}{T:List TermD}{x:TermD}{v:Value}(h:TermQ (H++[some ⟨iv .u8 (zl 32), 41,none⟩]) b F T x v G)(hF:∀j∈F,j<H.length):∃N:List Int,N=nmL (nameT x T)∧N.length=32∧(iv .u8 N).take 32=iv .u8 N∧setR (iv .u8 (zl 32)) 0 (iv .u8 N)=iv .u8 N∧v=.agg (iv .u8 N).toArray∧H.length<G.length∧hget G H.length=some ⟨iv .u8 (zl 32), 41,none⟩∧∀X:Option Blk,TermQ H b F T x (.agg (iv .u8 N).toArray) (G.set H.length X):=by
 have h0:=h.1
 have hl:(H++([some ⟨iv .u8 (zl 32), 41,none⟩]:AH)).length=H.length+1:=by simp
 have hn:H.length∉F:=fun e=>by have:=hF _ e;omega
 have hg:=h.2.2.1 H.length (by omega) hn
 rw [hget_app0]at hg
 have hg:hget G H.length=some ⟨iv .u8 (zl 32), 41,none⟩:=hg
 refine⟨nmL (nameT x T),rfl,rfl,rfl,?_,h0,hget_lt hg,hg,fun X=>?_⟩
 ·exact setR_all _ _ (by simp [nmL_len])
 ·exact h.up hF h0.symm (by simp) (fun j hj=>hget_set_ne (by omega))
theorem hash_ac{nro:Nat}{γ:Nat→Option Nat}{H:AH}(hp:Pw γ H){b:Nat}{F:List Nat}{T:List TermD}(h:Tbl H b F T)(hnro:∀j∈F,nro≤j)(hnH:nro≤H.length){s:ByteArray}{ks:List (List Int)}(hx:TermD.Wf ⟨2,s,ks⟩){v:Value}
  (hK:∀G:AH,H.length≤G.length→(∀j,j<H.length→j∉F→hget G j=hget H j)→KsV G v ks) (hT:T.length≤1000000) :
  AC Tryd.prog nro γ 23 #[.pointer (some ⟨b,0,none⟩),.string s,v] H (TermQ H b F T ⟨2,s,ks⟩):=by
 have hv:=val_nt (hK H (nlE _) (fun _ _ _=>rfl))
 have hc:=term_ac (nro:=nro) (γ:=γ) (hp.push [some ⟨iv .u8 (zl 32), 41,none⟩]) (h.push [some ⟨iv .u8 (zl 32), 41,none⟩]) hnro (by simp;omega) hx (v:=v) (fun G hG hj=>hK G (by simp at hG;omega) (fun j h1 h2=>(hj j (by simp;omega) h2).trans (hget_left h1))) hT
 refine ac_of_aw Tryd.func23 rfl Tryd.ntmps23 Tryd.results23 (by simp) ?_
 (refine aso fun K hK=>?_;simp (disch:=first|omega|simp only [lnS];try omega);refine hK _ _ ?_;clear hK K)
 refine aso fun K hK=>?_
 simp (disch:=first|omega|simp only [lnS];try omega) [-notTuple,hv.1]
 refine⟨by kernel_rfl,AC.mono hc ?_⟩
 intro v' G hQ
 obtain⟨N,_,lN,ht,hs,rfl,hlt,hg,hfin⟩:=hQ.lay h.bound
 try simp (disch:=first|omega|simp only [lnS];try omega) [hnH,lN,ht,hs,hg,hlt]
 refine hK _ _ ?_;clear hK K
 (refine aw_ret ?_;simp (disch:=first|omega|simp only [lnS];try omega) [lN,ht,hlt])
 exact hfin _
theorem draw_ac{nro:Nat}{γ:Nat→Option Nat}{H:AH}(hp:Pw γ H){b:Nat}{F:List Nat}{T:List TermD}(h:Tbl H b F T)(hnro:∀j∈F,nro≤j)(hnH:nro≤H.length){s:ByteArray}(hs:s.size≤100000000)(hT:T.length≤1000000) :
  AC Tryd.prog nro γ 22 #[.pointer (some ⟨b,0,none⟩),.string s] H (TermQ H b F T ⟨1,s,[]⟩):=by
 have hc:=term_ac (nro:=nro) (γ:=γ) (hp.push [some ⟨iv .u8 (zl 32), 41,none⟩]) (h.push [some ⟨iv .u8 (zl 32), 41,none⟩]) hnro (by simp;omega) (x:=⟨1,s,[]⟩) (wf_0 (.inl rfl) hs) (v:=.slice none 0 0) (fun G _ _=>ks_nil G) hT
 refine ac_of_aw Tryd.func22 rfl Tryd.ntmps22 Tryd.results22 (by simp) ?_
 (refine aso fun K hK=>?_;simp (disch:=first|omega|simp only [lnS];try omega);refine hK _ _ ?_;clear hK K)
 refine aso fun K hK=>?_
 simp (disch:=first|omega|simp only [lnS];try omega)
 refine⟨by kernel_rfl,AC.mono hc ?_⟩
 intro v' G hQ
 obtain⟨N,_,lN,ht,hs,rfl,hlt,hg,hfin⟩:=hQ.lay h.bound
 try simp (disch:=first|omega|simp only [lnS];try omega) [hnH,lN,ht,hs,hg,hlt]
 refine hK _ _ ?_;clear hK K
 (refine aw_ret ?_;simp (disch:=first|omega|simp only [lnS];try omega) [lN,ht,hlt])
 exact hfin _
end
section
theorem TermQ.layN{H N G:AH}{b:Nat}{F:List Nat}{T:List TermD}{x:TermD}{v:Value}(h:TermQ (H++N) b F T x v G)(hF:∀j∈F,j<H.length){r:Nat}(hr0:H.length≤r)(hr:hget (H++N) r=some ⟨iv .u8 (zl 32), 41,none⟩):∃N:List Int,N=nmL (nameT x T)∧N.length=32∧(iv .u8 N).take 32=iv .u8 N∧setR (iv .u8 (zl 32)) 0 (iv .u8 N)=iv .u8 N∧v=.agg (iv .u8 N).toArray∧r<G.length∧hget G r=some ⟨iv .u8 (zl 32), 41,none⟩∧∀X:Option Blk,TermQ H b F T x (.agg (iv .u8 N).toArray) (G.set r X):=by
 have h0:=h.1
 have hl:=hget_lt hr
 have hn:r∉F:=fun e=>by have:=hF _ e;omega
 have hg:=(h.2.2.1 r hl hn).trans hr
 refine⟨nmL (nameT x T),rfl,rfl,rfl,?_,h0,hget_lt hg,hg,fun X=>?_⟩
 ·exact setR_all _ _ (by simp [nmL_len])
 ·exact h.up hF h0.symm (by simp) (fun j hj=>hget_set_ne (by omega))
theorem keys1{G:AH}{b:Nat}{k:List Int}(hk:k.length=32)(h:hget G b=some ⟨iv .u8 k, 41,some 32⟩):KsV G (.slice (some ⟨b,0,none⟩) 1 1) [k]:=
 kr_ksv (F:=[b]) (.inr ⟨b,1,rfl,by rw [kr_one];exact h,by rw [kr_one,iv_length,hk],rfl⟩) (fun y hy=>by rw [msG.1 hy];exact hk)
theorem keys2{G:AH}{b:Nat}{k l:List Int}(hk:k.length=32)(hl:l.length=32)(h:hget G b=some ⟨iv .u8 k++iv .u8 l, 41,some 32⟩):KsV G (.slice (some ⟨b,0,none⟩) 2 2) [k,l]:=
 kr_ksv (F:=[b]) (.inr ⟨b,2,rfl,by simpa [kr] using h,by simp [kr,hk,hl],rfl⟩) (fun y hy=>by
  rcases List.mem_cons.1 hy with rfl | hy
  ·exact hk
  ·rw [msG.1 hy];exact hl)
theorem wf_pub{k:List Int}(hk:k.length=32)(hb:By k):TermD.Wf ⟨3,⟨#[]⟩,[k]⟩:=by
 refine⟨(by show 3≤6;omega),(by show (0:Nat)≤_;omega),fun y hy=>?_,fun y hy=>?_,(by show 1≤1000000;omega),fun _=>rfl,fun h=>(by cases h),fun h=>(by cases h)⟩
 ·rw [msG.1 hy];exact hk
 ·rw [msG.1 hy];exact hb
theorem pubT_ac{nro:Nat}{γ:Nat→Option Nat}{H:AH}(hp:Pw γ H){b:Nat}{F:List Nat}{T:List TermD}(h:Tbl H b F T)(hnro:∀j∈F,nro≤j)(hnH:nro≤H.length){k:List Int}(hk:k.length=32)(hb:By k)(hT:T.length≤1000000) :
  AC Tryd.prog nro γ 29 #[.pointer (some ⟨b,0,none⟩),.agg (iv .u8 k).toArray] H (TermQ H b F T ⟨3,⟨#[]⟩,[k]⟩):=by
 have htk:(iv .u8 k).take 32=iv .u8 k:=tkL (by simp [hk])
 have hsr:setR (List.map (fun j=>(iv .u8 (zl 32))[j%32]?.getD undef) (List.range 32)) 0 (iv .u8 k)=iv .u8 k:=setR_all _ _ (by simp [hk])
 obtain⟨N3,hN3⟩:∃N3:AH,N3=[some ⟨iv .u8 k, 41,none⟩,some ⟨iv .u8 (zl 32), 41,none⟩,some ⟨iv .u8 k, 41,some 32⟩]:=⟨_,rfl⟩
 have g1:hget (H++N3) (H.length+1)=some ⟨iv .u8 (zl 32), 41,none⟩:=by rw [hget_app,hN3];rfl
 have g2:hget (H++N3) (H.length+2)=some ⟨iv .u8 k, 41,some 32⟩:=by rw [hget_app,hN3];rfl
 have hc:=term_ac (nro:=nro) (γ:=γ) (hp.push N3) (h.push N3) hnro (by simp;omega) (wf_pub hk hb) (v:=.slice (some ⟨H.length+2,0,none⟩) 1 1) (fun G hG hj=>keys1 hk ((hj _ (hget_lt g2) (fun e=>by have:=h.bound _ e;omega)).trans g2)) hT
 rw [hN3]at hc
 refine ac_of_aw Tryd.func29 rfl Tryd.ntmps29 Tryd.results29 (by simp) ?_
 (refine aso fun K hK=>?_;simp (disch:=first|omega|simp only [lnS];try omega) [-getElem?_pos,-getElem?_neg,htk];refine hK _ _ ?_;clear hK K)
 refine aso fun K hK=>?_
 simp (disch:=first|omega|simp only [lnS];try omega) [-getElem?_pos,-getElem?_neg,htk,hsr]
 refine⟨by kernel_rfl,AC.mono hc ?_⟩
 intro v' G hQ
 rw [←hN3]at hQ
 obtain⟨N,_,lN,ht,hs,rfl,hlt,hg,hfin⟩:=hQ.layN h.bound (Nat.le_succ _) g1
 have hn1:nro≤H.length+1:=by omega
 try simp (disch:=first|omega|simp only [lnS];try omega) [-getElem?_pos,-getElem?_neg,hnH,hn1,lN,ht,hs,hg,hlt]
 refine hK _ _ ?_;clear hK K
 (refine aw_ret ?_;simp (disch:=first|omega|simp only [lnS];try omega) [-getElem?_pos,-getElem?_neg,lN,ht,hlt])
 exact hfin _
end
section
def OwnK(lo:Nat)(H:AH)(v:Value)(ks:List (List Int)):Prop:=
  (v=.slice none 0 0∧ks=[])∨∃j cs,lo≤j∧v=.slice (some ⟨j,0,none⟩) ks.length ks.length∧hget H j=some ⟨cs, 41,some 32⟩∧kr ks <+: cs
theorem OwnK.nt{lo:Nat}{H:AH}{v:Value}{ks:List (List Int)}(h:OwnK lo H v ks):notTuple v=true∧v.cells=#[v]:=by
  rcases h with ⟨rfl,_⟩ | ⟨j,cs,_,rfl,_⟩ <;> exact⟨rfl,rfl⟩
theorem own_ksv{lo:Nat}{H:AH}{v:Value}{ks:List (List Int)}(h:OwnK lo H v ks)(hk:K32 ks):KsV H v ks:=by
  rcases h with ⟨rfl,rfl⟩ | ⟨j,cs,_,rfl,h3,h4⟩
  · exact ks_nil H
  · have hp:(kr ks).length≤cs.length:=h4.length_le
    rw [kr_len hk]at hp
    have hlen:(ks.map kd).flatten.length=(ks.map kd).length*32:=fl_len (kd_len hk)
    have hv:CD.Val H (.sl (ks.map kd)) (.slice (some ⟨j,0,none⟩) (ks.map kd).length (ks.map kd).length):=by
      refine .sl (sz:=32) h3 (by rw [List.length_map];exact hp) (kd_len hk) (fun i row c d x hi hc hx=>?_)
      have hat:=fl_at (kd_len hk) hi hc
      have hlt:=(gsI.1 hat).1
      obtain⟨r,rfl⟩:=h4
      have hx':(kr ks++r)[i*32+c]?=some x:=hx
      rw [gaL (by rw [kr_len hk];rw [hlen,List.length_map]at hlt;exact hlt),←ksC_kr]at hx'
      unfold ksC at hx'
      rw [gmP,hat]at hx'
      cases hx'
      exact val_flat (kd_flat ks row (moG hi) d (moG hc))
    rw [List.length_map]at hv
    exact hv
theorem OwnK.low{lo:Nat}{H G:AH}{v:Value}{ks:List (List Int)}(h:OwnK lo H v ks)(hl:∀j,lo≤j→j<H.length→hget G j=hget H j):OwnK lo G v ks:=by
  rcases h with h | ⟨j,cs,h1,h2,h3,h4⟩
  · exact .inl h
  · exact .inr ⟨j,cs,h1,h2,(hl j h1 (hget_lt h3)).trans h3,h4⟩
def PartK(H:AH)(lo:Nat)(x:Value)(ks:List (List Int)):Prop:=(∃a c,x=.slice a ks.length c)∧∀G:AH,(∀j,j<lo→hget G j=hget H j)→xcells 32 x G=some (kr ks)
theorem PartK.nt{H:AH}{lo:Nat}{x:Value}{ks:List (List Int)}(h:PartK H lo x ks):notTuple x=true:=by
  obtain⟨⟨a,c,rfl⟩,_⟩:=h;rfl
theorem PartK.len{H:AH}{lo:Nat}{x:Value}{ks:List (List Int)}(h:PartK H lo x ks):xlen Tryd.prog 34 x=some (.int .i64 (ks.length:Nat)):=by
  have hu:und Tryd.prog 34 = .slice 41 := by kernel_rfl
  obtain⟨⟨a,c,rfl⟩,_⟩:=h
  simp [xlen,hu]
theorem KsV.part{H:AH}{v:Value}{ks:List (List Int)}(h:KsV H v ks)(hk:∀k∈ks,k.length=32):PartK H H.length v ks:=by
  refine⟨?_,fun G hG=>?_⟩
  · rcases val_shape h with ⟨rfl,e⟩ | ⟨a,e⟩
    · have:ks=[]:=by simpa using e
      subst this
      exact⟨none,0,rfl⟩
    · rw [List.length_map]at e
      exact⟨some a,_,e⟩
  · have hG':KsV G v ks:=CD.Val.low hG h
    have:=val_cells (sz:=32) (by omega) hG' (kd_len hk) (kd_flat ks)
    rw [this,←ksC_kr]
    rfl
theorem ownK_append{nro lo:Nat}{H:AH}{v x:Value}{ks news:List (List Int)}(h1k:K32 ks)(h2k:K32 news)
    (hv:OwnK lo H v ks) (hnro:nro≤lo) (hlo:lo≤H.length) (hstr:∀s,x≠.string s) (hx:xcells 32 x H=some (kr news)) (hb:ks.length+news.length≤1000000000) :
    ∃v' H',xappend Tryd.prog nro 34 v x H=some (v',H')∧OwnK lo H' v' (ks++news)∧H.length≤H'.length∧(∀j,j<lo→hget H' j=hget H j):=by
  have hu:und Tryd.prog 34 = .slice 41 := by kernel_rfl
  have hs:szt Tryd.prog 41 = 32:=by kernel_rfl
  have hz:(zer Tryd.prog 41).map (·.cells.size)=some 32:=by kernel_rfl
  have hby:byt Tryd.prog 41 = 32:=by kernel_rfl
  have hnl:=kr_len h2k
  have hml:maxLen=9223372036854775807:=rfl
  rcases hv with ⟨rfl,rfl⟩ | ⟨j,cs,h1,rfl,h3,h4⟩
  · by_cases hn:news=[]
    · subst hn
      refine⟨.slice none 0 0,H,?_,.inl ⟨rfl,rfl⟩,nlE _,fun _ _=>rfl⟩
      have hx0:xcells 32 x H=some []:=hx
      unfold xappend
      cases x <;> first | (exact absurd rfl (hstr _)) | (simp only [hu,hs,hx0];rw [if_pos ⟨by omega,hz,by simp,by simp⟩];first | rw [if_pos rfl] | rw [if_pos trivial])
    · have hn0:0<news.length:=List.length_pos_iff.2 hn
      have hne:kr news≠[]:=fun e=>by rw [e]at hnl;simp at hnl;omega
      have hd:(kr news).length/32=news.length:=by rw [hnl];omega
      refine⟨.slice (some ⟨H.length,0,none⟩) news.length news.length,H++[some ⟨kr news, 41,some 32⟩],?_,.inr ⟨H.length,_,hlo,by simp,by rw [hget_app0];rfl,List.prefix_rfl⟩,by simp,fun i hi=>hget_left (by omega)⟩
      simp only [List.length_nil,Nat.zero_add]at hb
      unfold xappend
      cases x <;> first | (exact absurd rfl (hstr _)) | (simp only [hu,hs,hx];rw [if_pos ⟨by omega,hz,by rw [hby];omega,by omega⟩,if_neg hne,hd])
  · have hj:=hget_lt h3
    have hpl:=h4.length_le
    rw [kr_len h1k]at hpl
    have hpt:cs.take (ks.length*32)=kr ks:=by
      obtain⟨r,rfl⟩:=h4
      rw [←kr_len h1k];simp
    have hd:(kr news).length/32=news.length:=by rw [hnl];omega
    refine⟨.slice (some ⟨H.length,0,none⟩) (ks.length+news.length) (ks.length+news.length),H.set j none++[some ⟨kr ks++kr news, 41,some 32⟩],?_,.inr ⟨H.length,_,hlo,by simp,by rw [hga0];rfl,by rw [kr_app];exact List.prefix_rfl⟩,by simp,fun i hi=>?_⟩
    · have hc:True∧0<32∧(zer Tryd.prog 41).map (·.cells.size)=some 32∧nro≤j∧True∧True∧ks.length*32≤cs.length∧(ks.length*32+(kr news).length)*byt Tryd.prog 41 ≤ 140737488355328∧ks.length*32+(kr news).length≤maxLen:=
        ⟨trivial,by omega,hz,by omega,trivial,trivial,by omega,by rw [hby];omega,by omega⟩
      unfold xappend
      cases x <;> first | (exact absurd rfl (hstr _)) | (simp only [hu,hs,hx,h3];rw [if_pos hc,hpt,hd])
    · rw [hget_left (by simp;omega),hget_set_ne (by omega)]
def sumK(L:List (List (List Int)))(i:Nat):Nat:=((L.take i).map List.length).sum
theorem sumK_next{L:List (List (List Int))}{i:Nat}{c:List (List Int)}(h:L[i]?=some c):sumK L (i+1)=sumK L i+c.length:=by
  unfold sumK
  rw [List.take_add_one,h]
  simp
theorem flatK_len(L:List (List (List Int)))(i:Nat):((L.take i).flatten).length=sumK L i:=by
  unfold sumK
  rw [List.length_flatten]
theorem sumK_mono(L:List (List (List Int))){i j:Nat}(h:i≤j):sumK L i≤sumK L j:=by
  induction j with
  | zero => have : i = 0 := by omega
            subst this;exact nlE _
  | succ j ih=>
    rcases Nat.eq_or_lt_of_le h with rfl | h
    · exact nlE _
    · have:=ih (by omega)
      cases hc:L[j]? with
      | none=>unfold sumK at this ⊢;rw [List.take_add_one,hc];simpa using this
      | some c=>rw [sumK_next hc];omega
section
variable {H:AH} {γ:Nat→Option Nat} {nro:Nat}
theorem growK_ac(n:Nat)(hn:n≤1000000000)(hnro:nro≤H.length):AC Tryd.prog nro γ 53 #[.slice none 0 0,.int .i64 (n:Nat)] H (fun v' H'=>OwnK H.length H' v' []∧H.length≤H'.length∧(∀j,j<H.length→hget H' j=hget H j)):=by
  refine ac_of_aw Tryd.func53 rfl Tryd.ntmps53 Tryd.results53 (by simp) ?_
  (refine aso fun K hK=>?_;simp (disch:=first|omega|simp only [lnS];try omega) [-getElem?_pos,-getElem?_neg];refine hK _ _ ?_;clear hK K)
  refine aw_seq (aw_seq ?_)
  (refine aoo fun K hK=>?_;simp (disch:=first|omega|simp only [lnS];try omega) [-getElem?_pos,-getElem?_neg];refine hK _ _ ?_;clear hK K)
  refine awf (by simp<;>omega) ?_
  refine aw_skip ?_
  refine aw_seq (aw_seq ?_)
  (refine aoo fun K hK=>?_;simp (disch:=first|omega|simp only [lnS];try omega) [-getElem?_pos,-getElem?_neg];refine hK _ _ ?_;clear hK K)
  refine aw_seq ?_
  by_cases h0:0<n
  · (refine aoo fun K hK=>?_;simp (disch:=first|omega|simp only [lnS];try omega) [-getElem?_pos,-getElem?_neg,h0];refine hK _ _ ?_;clear hK K)
    refine awt (by simp [h0]<;>omega) ?_
    have hm1:(n:Int)≤maxLen:=by simp only [maxLen];omega
    (refine aoo fun K hK=>?_;simp (disch:=first|omega|simp only [lnS];try omega) [-getElem?_pos,-getElem?_neg,h0,hm1];refine hK _ _ ?_;clear hK K)
    (refine aso fun K hK=>?_;simp (disch:=first|omega|simp only [lnS];try omega) [-getElem?_pos,-getElem?_neg];refine hK _ _ ?_;clear hK K)
    (refine aw_ret ?_;simp (disch:=first|omega|simp only [lnS];try omega) [-getElem?_pos,-getElem?_neg])
    refine⟨.inr ⟨H.length,_,nlE _,by simp,by rw [hget_app0];rfl,List.nil_prefix⟩,fun j hj=>hget_left hj⟩
  · obtain rfl:n=0:=by omega
    (refine aoo fun K hK=>?_;simp (disch:=first|omega|simp only [lnS];try omega) [-getElem?_pos,-getElem?_neg];refine hK _ _ ?_;clear hK K)
    refine awf (by simp<;>omega) ?_
    refine aw_skip (aw_seq ?_)
    (refine aoo fun K hK=>?_;simp (disch:=first|omega|simp only [lnS];try omega) [-getElem?_pos,-getElem?_neg];refine hK _ _ ?_;clear hK K)
    (refine aw_ret ?_;simp (disch:=first|omega|simp only [lnS];try omega) [-getElem?_pos,-getElem?_neg])
    exact .inl ⟨rfl,rfl⟩
theorem concatK_ac{v:Value}{j:Nat}{xs:List Value}{L:List (List (List Int))}(hk:∀ks∈L,K32 ks)(hj:hget H j=some ⟨xs, 34,some 1⟩)(hxl:xs.length=L.length)(hp:∀ (i:Nat) (x:Value) (c:List (List Int)),xs[i]?=some x→L[i]?=some c→PartK H H.length x c)(hs:sumK L L.length≤100000000)(hl:L.length≤1000)(hnro:nro≤H.length) :
    AC Tryd.prog nro γ 33 #[.slice (some ⟨j,0,none⟩) L.length L.length] H (fun v' H'=>OwnK H.length H' v' L.flatten∧H.length≤H'.length∧∀j,j<H.length→hget H' j=hget H j):=by
  have hjl:=hget_lt hj
  have hkt:∀i,K32 (L.take i).flatten:=fun i k hm=>by
    obtain⟨ks,h1,h2⟩:=List.mem_flatten.1 hm
    exact hk ks (List.mem_of_mem_take h1) k h2
  refine ac_of_aw Tryd.func33 rfl Tryd.ntmps33 Tryd.results33 (by simp) ?_
  (refine aso fun K hK=>?_;simp (disch:=first|omega|simp only [lnS];try omega) [-getElem?_pos,-getElem?_neg];refine hK _ _ ?_;clear hK K)
  (refine aso fun K hK=>?_;simp (disch:=first|omega|simp only [lnS];try omega) [-getElem?_pos,-getElem?_neg];refine hK _ _ ?_;clear hK K)
  refine aw_seq (aw_seq ?_)
  (refine aoo fun K hK=>?_;simp (disch:=first|omega|simp only [lnS];try omega) [-getElem?_pos,-getElem?_neg];refine hK _ _ ?_;clear hK K)
  refine aw_block ?_
  refine aw_loop (fun c α G=>∃i:Nat,i+c=L.length∧α 11=.int .i64 (i:Nat)∧α 10=.int .i64 (L.length:Nat)∧α 9=.slice (some ⟨j,0,none⟩) L.length L.length∧α 0=.slice (some ⟨j,0,none⟩) L.length L.length∧α 3=.int .i64 (sumK L i:Nat)∧G=H) L.length ?_ ?_
  · exact⟨0,by omega,by (first|simp;done|rfl),by (first|simp;done|rfl),by (first|simp;done|rfl),by (first|simp;done|rfl),by (first|simp;done|rfl),rfl⟩
  rintro c α G ⟨i,hic,h11,h10,h9,h0,h3,rfl⟩
  (refine aso fun K hK=>?_;simp (disch:=first|omega|simp only [lnS];try omega) [-getElem?_pos,-getElem?_neg,h11,h10];refine hK _ _ ?_;clear hK K)
  refine aw_seq ?_
  by_cases hi:i<L.length
  · refine awt (by simp [hi]<;>omega) ?_
    obtain⟨x,hx⟩:∃x,xs[i]?=some x:=⟨_,geE (by omega)⟩
    obtain⟨cc,hcc⟩:∃cc,L[i]?=some cc:=⟨_,geE hi⟩
    have hpt:=hp i x cc hx hcc
    have hnt:=hpt.nt
    have hln:=hpt.len
    have hsn:=sumK_next hcc
    have hsm:=sumK_mono L (i:=i+1) (j:=L.length) (by omega)
    refine aw_skip (aw_seq ?_)
    refine aw_block ?_
    (refine aso fun K hK=>?_;simp (disch:=first|omega|simp only [lnS];try omega) [-getElem?_pos,-getElem?_neg,h9,h11,hj,hx];refine hK _ _ ?_;clear hK K)
    (refine aso fun K hK=>?_;simp (disch:=first|omega|simp only [lnS];try omega) [-getElem?_pos,-getElem?_neg,h3,-xlen,hln];refine hK _ _ ?_;clear hK K)
    (refine aso fun K hK=>?_;simp (disch:=first|omega|simp only [lnS];try omega) [-getElem?_pos,-getElem?_neg];refine hK _ _ ?_;clear hK K)
    refine awf (by simp<;>omega) ?_
    refine aw_skip ?_
    (refine aoo fun K hK=>?_;simp (disch:=first|omega|simp only [lnS];try omega) [-getElem?_pos,-getElem?_neg,h11];refine hK _ _ ?_;clear hK K)
    exact⟨c-1,by omega,i+1,by omega,by (first|simp;done|rfl),by (first|simp [h10];done|rfl),by (first|simp [h9];done|rfl),by (first|simp [h0];done|rfl),by simp [put_at,hsn],rfl⟩
  · obtain rfl:i=L.length:=by omega
    refine awf (by simp<;>omega) ?_
    refine aw_exit ?_
    have hgr:=growK_ac (H:=G) (γ:=γ) (nro:=nro) (sumK L L.length) (by omega) hnro
    refine aso fun K hK=>?_
    simp (disch:=first|omega|simp only [lnS];try omega) [-getElem?_pos,-getElem?_neg,h3]
    refine⟨by kernel_rfl,hgr.mono ?_⟩
    rintro v1 G1 ⟨ho1,hl1,hk1⟩
    have hnt1:=ho1.nt
    try simp (disch:=first|omega|simp only [lnS];try omega) [-getElem?_pos,-getElem?_neg]
    refine hK _ _ ?_;clear hK K
    refine aw_seq (aw_seq ?_)
    (refine aoo fun K hK=>?_;simp (disch:=first|omega|simp only [lnS];try omega) [-getElem?_pos,-getElem?_neg,h0];refine hK _ _ ?_;clear hK K)
    refine aw_block ?_
    have hj1:hget G1 j=_:=(hk1 j hjl).trans hj
    refine aw_loop (fun c α G2=>∃i:Nat,i+c=L.length∧α 27=.int .i64 (i:Nat)∧α 26=.int .i64 (L.length:Nat)∧α 25=.slice (some ⟨j,0,none⟩) L.length L.length∧OwnK G.length G2 (α 6) (L.take i).flatten∧G.length≤G2.length∧(∀j,j<G.length→hget G2 j=hget G j)) L.length ?_ ?_
    · exact⟨0,by omega,by (first|simp;done|rfl),by (first|simp;done|rfl),by (first|simp [h0];done|rfl),by simp only [put_at];simpa using ho1,hl1,hk1⟩
    clear h11 h10 h9 h0 h3 ho1 hl1 hk1 hj1 hnt1 hgr
    rintro c2 α G2 ⟨i,hic,h27,h26,h25,ho,hl2,hk2⟩
    have hj2:hget G2 j=_:=(hk2 j hjl).trans hj
    obtain⟨v6,h6⟩:∃v6,α 6=v6:=⟨_,rfl⟩
    rw [h6]at ho
    have hnt6:=ho.nt.1
    (refine aso fun K hK=>?_;simp (disch:=first|omega|simp only [lnS];try omega) [-getElem?_pos,-getElem?_neg,h27,h26];refine hK _ _ ?_;clear hK K)
    refine aw_seq ?_
    by_cases hi:i<L.length
    · refine awt (by simp [hi]<;>omega) ?_
      obtain⟨x,hx⟩:∃x,xs[i]?=some x:=⟨_,geE (by omega)⟩
      obtain⟨cc,hcc⟩:∃cc,L[i]?=some cc:=⟨_,geE hi⟩
      have hpt:=hp i x cc hx hcc
      have hnt:=hpt.nt
      have hfl:=flatK_len L i
      have hsn:=sumK_next hcc
      have hsm:=sumK_mono L (i:=i+1) (j:=L.length) (by omega)
      obtain⟨v7,G3,hap,ho3,hl3,hk3⟩:=ownK_append (nro:=nro) (hkt i) (hk cc (moG hcc)) ho hnro hl2 (fun s e=>by obtain⟨⟨a,c,e2⟩,_⟩:=hpt;rw [e2]at e;cases e) (hpt.2 G2 hk2) (by omega)
      have hnt7:=ho3.nt.1
      refine aw_skip (aw_seq ?_)
      refine aw_block ?_
      (refine aso fun K hK=>?_;simp (disch:=first|omega|simp only [lnS];try omega) [-getElem?_pos,-getElem?_neg,h25,h27,hj2,hx];refine hK _ _ ?_;clear hK K)
      (refine aoo fun K hK=>?_;simp (disch:=first|omega|simp only [lnS];try omega) [-getElem?_pos,-getElem?_neg,h6,-xappend,hap];refine hK _ _ ?_;clear hK K)
      (refine aoo fun K hK=>?_;simp (disch:=first|omega|simp only [lnS];try omega) [-getElem?_pos,-getElem?_neg,h27];refine hK _ _ ?_;clear hK K)
      refine⟨c2-1,by omega,i+1,by omega,by (first|simp;done|rfl),by (first|simp [h26];done|rfl),by (first|simp [h25];done|rfl),?_,by omega,fun j hj=>(hk3 j hj).trans (hk2 j hj)⟩
      simp only [put_at]
      rw [List.take_add_one,hcc]
      simpa using ho3
    · obtain rfl:i=L.length:=by omega
      refine awf (by simp<;>omega) ?_
      refine aw_exit (aw_seq ?_)
      (refine aoo fun K hK=>?_;simp (disch:=first|omega|simp only [lnS];try omega) [-getElem?_pos,-getElem?_neg,h6];refine hK _ _ ?_;clear hK K)
      (refine aw_ret ?_;simp (disch:=first|omega|simp only [lnS];try omega) [-getElem?_pos,-getElem?_neg])
      rw [List.take_length]at ho
      exact⟨ho,hk2⟩
end
end
end
section
def pk(k:List Int):Option Nat:=if nmL (plN k)=k then some (plN k).toNat else none
theorem pl_nm0(n:Int):0≤plN (nmL n):=by
 show 0≤n/16777216%256*16777216+n/65536%256*65536+n/256%256*256+n%256
 omega
theorem pk_nm{i:Nat}(h:i<4294967296):pk (nmL i)=some i:=by
 unfold pk
 rw [plN_nm (by omega)]
 simp
theorem pk_some{k:List Int}{p:Nat}(h:pk k=some p):nmL p=k:=by
 unfold pk at h
 by_cases e:nmL (plN k)=k
 ·rw [if_pos e]at h
  cases h
  have h0:0≤plN k:=by rw [←e];exact pl_nm0 _
  rw [Int.toNat_of_nonneg h0]
  exact e
 ·rw [if_neg e]at h
  cases h
def kw(kn:List Bool)(p:Nat):Bool:=kn.getD p false
def fol(kn:List Bool)(k:List Int):Bool:=match pk k with | none=>true | some p=>kw kn p
abbrev FSt:=List Bool×List Nat
def lrn(s:FSt)(k:List Int):FSt:=match pk k with | none=>s | some p=>if p<s.1.length∧kw s.1 p=false then (s.1.set p true,s.2++[p]) else s
def trm(T:List TermD)(i:Nat):TermD:=T.getD i ⟨0,⟨#[]⟩,[]⟩
def k0(x:TermD):List Int:=x.keys.getD 0 []
def k1(x:TermD):List Int:=x.keys.getD 1 []
def pubK(T:List TermD)(kn:List Bool)(k:List Int):Bool:=match placeT ⟨3,⟨#[]⟩,[k]⟩ T with | none=>false | some p=>kw kn p
def agrS(T:List TermD)(kn:List Bool)(a b:List Int):Bool:=fol kn a&&(fol kn b||pubK T kn b)
def mks(T:List TermD)(kn:List Bool)(x:TermD):Bool:=
 if x.kind=2∨x.kind=3∨x.kind=5∨x.kind=6 then x.keys.all (fol kn)
 else if x.kind=4 then agrS T kn (k0 x) (k1 x)||agrS T kn (k1 x) (k0 x) else false
def tryS(T:List TermD)(s:FSt)(i:Nat):FSt:=if kw s.1 i=false∧mks T s.1 (trm T i)=true then lrn s (nmL i) else s
def opnS(T:List TermD)(s:FSt)(i:Nat):FSt:=if (trm T i).kind=6∧kw s.1 i=true∧fol s.1 (k0 (trm T i))=true then ((trm T i).keys.drop 2).foldl lrn s else s
def usersF(k:List Int):Nat→List TermD→List Nat
 | _,[]=>[]
 | n,x::T=>(x.keys.filter (·=k)).map (fun _=>n)++usersF k (n+1) T
def useS(T:List TermD)(s:FSt)(i:Nat):FSt:=
 let s2:=(usersF (nmL i) 0 T).foldl (fun s u=>opnS T (tryS T s u) u) (opnS T s i)
 if (trm T i).kind=3 then (usersF (k0 (trm T i)) 0 T).foldl (tryS T) s2 else s2
def runS(T:List TermD):Nat→FSt→FSt
 | 0,s=>s
 | f+1,s=>match s.2.getLast? with | none=>s | some i=>runS T f (useS T (s.1,s.2.dropLast) i)
def seedS(n:Nat)(seen:List (List Int)):FSt:=seen.foldl lrn (List.replicate n false,[])
def passS(T:List TermD)(seen:List (List Int)):FSt:=(List.range T.length).foldl (tryS T) (seedS T.length seen)
def folL(T:List TermD)(seen:List (List Int)):List Bool:=(runS T T.length (passS T seen)).1
def muF(s:FSt):Nat:=s.1.count false+s.2.length
structure FExt (s t:FSt):Prop where
 len:t.1.length=s.1.length
 le:∀p,kw s.1 p=true→kw t.1 p=true
 new:∃L,t.2=s.2++L∧(∀p,kw t.1 p=true→kw s.1 p=true∨p∈L)∧(∀p∈L,kw t.1 p=true∧p<s.1.length)
 mu:muF t=muF s
theorem FExt.refl(s:FSt):FExt s s:=⟨rfl,fun _ h=>h,⟨[],by simp,fun p h=>.inl h,by simp⟩,rfl⟩
theorem FExt.trans{s t u:FSt}(h:FExt s t)(g:FExt t u):FExt s u:=by
 obtain⟨L,e,f,a⟩:=h.new
 obtain⟨M,e2,f2,a2⟩:=g.new
 refine⟨g.len.trans h.len,fun p hp=>g.le p (h.le p hp),⟨L++M,by rw [e2,e,List.append_assoc],fun p hp=>?_,fun p hp=>?_⟩,g.mu.trans h.mu⟩
 ·rcases f2 p hp with h1 | h1
  ·rcases f p h1 with h2 | h2
   ·exact .inl h2
   ·exact .inr (by simp [h2])
  ·exact .inr (by simp [h1])
 ·rcases maP.1 hp with h1 | h1
  ·exact⟨g.le p (a p h1).1,(a p h1).2⟩
  ·exact⟨(a2 p h1).1,by have:=(a2 p h1).2;rw [h.len]at this;exact this⟩
theorem kw_set{kn:List Bool}{p:Nat}(hp:p<kn.length)(q:Nat):kw (kn.set p true) q=(decide (q=p)||kw kn q):=by
 unfold kw
 rw [gdD,List.getElem?_set,gdD]
 by_cases e:p=q
 ·subst e;simp [hp]
 ·simp [e,Ne.symm e]
theorem kw_lt{kn:List Bool}{p:Nat}(h:kw kn p=true):p<kn.length:=by
 unfold kw at h
 rw [gdD]at h
 by_cases e:p<kn.length
 ·exact e
 ·rw [List.getElem?_eq_none (by omega)]at h
  cases h
theorem count_set{kn:List Bool}:∀ {p:Nat},p<kn.length→kw kn p=false→(kn.set p true).count false+1=kn.count false:=by
 induction kn with
 | nil=>intro p hp;simp at hp
 | cons a kn ih=>
  intro p hp hf
  cases p with
  | zero=>
   have:a=false:=by simpa [kw] using hf
   subst this
   simp
  | succ p=>
   have:=ih (p:=p) (by simpa using hp) (by simpa [kw] using hf)
   rw [List.set_cons_succ,List.count_cons,List.count_cons]
   omega
theorem lrn_ext(s:FSt)(k:List Int):FExt s (lrn s k):=by
 unfold lrn
 cases hp:pk k with
 | none=>exact FExt.refl s
 | some p=>
  dsimp only
  by_cases h:p<s.1.length∧kw s.1 p=false
  ·rw [if_pos h]
   refine⟨by simp,fun q hq=>by rw [kw_set h.1,hq];simp,⟨[p],rfl,fun q hq=>?_,fun q hq=>?_⟩,?_⟩
   ·rw [kw_set h.1]at hq
    rcases Bool.or_eq_true _ _▸hq with e | e
    ·exact .inr (by simpa using e)
    ·exact .inl e
   ·rw [msG]at hq
    subst hq
    exact⟨by rw [kw_set h.1];simp,h.1⟩
   ·show (s.1.set p true).count false+(s.2++[p]).length=s.1.count false+s.2.length
    have:=count_set h.1 h.2
    simp
    omega
  ·rw [if_neg h]
   exact FExt.refl s
theorem lrn_has{s:FSt}{k:List Int}{p:Nat}(hk:pk k=some p)(hp:p<s.1.length):kw (lrn s k).1 p=true:=by
 unfold lrn
 rw [hk]
 dsimp only
 by_cases h:kw s.1 p=false
 ·rw [if_pos ⟨hp,h⟩]
  rw [kw_set hp]
  simp
 ·rw [if_neg (fun c=>h c.2)]
  simpa using h
theorem foldl_ext{α:Type}{f:FSt→α→FSt}(hf:∀s a,FExt s (f s a)):∀ (l:List α) (s:FSt),FExt s (l.foldl f s)
 | [],s=>FExt.refl s
 | a::l,s=>(hf s a).trans (foldl_ext hf l (f s a))
theorem foldl_at{α:Type}{f:FSt→α→FSt}(hf:∀s a,FExt s (f s a)):∀ {l:List α} {a:α} (s:FSt),a∈l→∃t,FExt s t∧FExt (f t a) (l.foldl f s)
 | b::l,a,s,h=>by
  rcases List.mem_cons.1 h with rfl | h
  ·exact⟨s,FExt.refl s,foldl_ext hf l _⟩
  ·obtain⟨t,h1,h2⟩:=foldl_at hf (f s b) h
   exact⟨t,(hf s b).trans h1,h2⟩
theorem tryS_ext(T:List TermD)(s:FSt)(i:Nat):FExt s (tryS T s i):=by
 unfold tryS
 split
 ·exact lrn_ext _ _
 ·exact FExt.refl s
theorem opnS_ext(T:List TermD)(s:FSt)(i:Nat):FExt s (opnS T s i):=by
 unfold opnS
 split
 ·exact foldl_ext lrn_ext _ _
 ·exact FExt.refl s
theorem step_ext(T:List TermD)(s:FSt)(u:Nat):FExt s (opnS T (tryS T s u) u):=(tryS_ext T s u).trans (opnS_ext T _ u)
theorem useS_ext(T:List TermD)(s:FSt)(i:Nat):FExt s (useS T s i):=by
 unfold useS
 dsimp only
 have h:=(opnS_ext T s i).trans (foldl_ext (step_ext T) (usersF (nmL i) 0 T) _)
 split
 ·exact h.trans (foldl_ext (tryS_ext T) _ _)
 ·exact h
theorem mem_users{k:List Int}{x:TermD}(hk:k∈x.keys):∀ {T:List TermD} {n j:Nat},T[j]?=some x→n+j∈usersF k n T
 | [],n,j,h=>by simp at h
 | y::T,n,0,h=>by
  cases h
  unfold usersF
  refine maP.2 (.inl (List.mem_map.2 ⟨k,?_,rfl⟩))
  simp [hk]
 | y::T,n,j+1,h=>by
  have:=mem_users hk (T:=T) (n:=n+1) (j:=j) h
  unfold usersF
  refine maP.2 (.inr ?_)
  rwa [show n+(j+1)=n+1+j by omega]
def kle(a b:List Bool):Prop:=∀p,kw a p=true→kw b p=true
theorem fol_mono{a b:List Bool}(h:kle a b){k:List Int}(hk:fol a k=true):fol b k=true:=by
 unfold fol at *
 split <;> rename_i he <;> rw [he]at hk
 exact h _ hk
theorem pubK_mono{T:List TermD}{a b:List Bool}(h:kle a b){k:List Int}(hk:pubK T a k=true):pubK T b k=true:=by
 unfold pubK at *
 split <;> rename_i he <;> rw [he]at hk
 ·cases hk
 ·exact h _ hk
theorem agrS_mono{T:List TermD}{a b:List Bool}(h:kle a b){k l:List Int}(hk:agrS T a k l=true):agrS T b k l=true:=by
 unfold agrS at *
 simp only [Bool.and_eq_true,Bool.or_eq_true]at *
 exact⟨fol_mono h hk.1,hk.2.elim (fun e=>.inl (fol_mono h e)) (fun e=>.inr (pubK_mono h e))⟩
theorem mks_mono{T:List TermD}{a b:List Bool}(h:kle a b){x:TermD}(hk:mks T a x=true):mks T b x=true:=by
 unfold mks at *
 split <;> rename_i he
 ·rw [if_pos he]at hk
  exact alT.2 fun k hm=>fol_mono h (alT.1 hk k hm)
 ·rw [if_neg he]at hk
  split <;> rename_i h4
  ·rw [if_pos h4]at hk
   simp only [Bool.or_eq_true]at *
   exact hk.elim (fun e=>.inl (agrS_mono h e)) (fun e=>.inr (agrS_mono h e))
  ·rw [if_neg h4]at hk
   cases hk
structure Cl (T:List TermD) (C:List Bool):Prop where
 made:∀i,i<T.length→mks T C (trm T i)=true→kw C i=true
 shown:∀i,i<T.length→(trm T i).kind=6→kw C i=true→fol C (k0 (trm T i))=true→∀k∈(trm T i).keys.drop 2,∀p,pk k=some p→p<T.length→kw C p=true
theorem lrn_le{s:FSt}{C:List Bool}(h:kle s.1 C){k:List Int}(hk:∀p,pk k=some p→p<s.1.length→kw C p=true):kle (lrn s k).1 C:=by
 unfold lrn
 cases hp:pk k with
 | none=>exact h
 | some p=>
  dsimp only
  split
  ·rename_i hc
   intro q hq
   rw [kw_set hc.1]at hq
   rcases Bool.or_eq_true _ _▸hq with e | e
   ·rw [of_decide_eq_true e];exact hk p hp hc.1
   ·exact h q e
  ·exact h
theorem lrns_le{C:List Bool}:∀ {l:List (List Int)} {s:FSt},kle s.1 C→(∀k∈l,∀p,pk k=some p→p<s.1.length→kw C p=true)→kle (l.foldl lrn s).1 C
 | [],s,h,_=>h
 | k::l,s,h,hk=>lrns_le (l:=l) (s:=lrn s k) (lrn_le h (hk k (by simp))) (fun k' hk' p h1 h2=>hk k' (by simp [hk']) p h1 (by rw [(lrn_ext s k).len]at h2;exact h2))
theorem tryS_le{T:List TermD}(hm:T.length≤1000000){s:FSt}{C:List Bool}(hn:s.1.length=T.length)(hC:Cl T C)(h:kle s.1 C)(i:Nat)(hi:i<T.length):kle (tryS T s i).1 C:=by
 unfold tryS
 split
 ·rename_i hc
  refine lrn_le h fun p hp hl=>?_
  rw [pk_nm (by omega)]at hp
  cases hp
  exact hC.made i hi (mks_mono h hc.2)
 ·exact h
theorem opnS_le{T:List TermD}{s:FSt}{C:List Bool}(hn:s.1.length=T.length)(hC:Cl T C)(h:kle s.1 C)(i:Nat):kle (opnS T s i).1 C:=by
 unfold opnS
 split
 ·rename_i hc
  have hi:i<T.length:=by have:=kw_lt hc.2.1;omega
  refine lrns_le h fun k hk p h1 h2=>?_
  rw [hn]at h2
  exact hC.shown i hi hc.1 (h i hc.2.1) (fol_mono h hc.2.2) k hk p h1 h2
 ·exact h
theorem users_lt{k:List Int}:∀ {T:List TermD} {n u:Nat},u∈usersF k n T→u<n+T.length
 | [],n,u,h=>by simp [usersF]at h
 | x::T,n,u,h=>by
  unfold usersF at h
  rcases maP.1 h with h | h
  ·obtain⟨_,_,rfl⟩:=List.mem_map.1 h
   simp
  ·have:=users_lt h
   simp
   omega
theorem fold_le{T:List TermD}{C:List Bool}{f:FSt→Nat→FSt}(hf:∀s i,s.1.length=T.length→i<T.length→kle s.1 C→kle (f s i).1 C)(hx:∀s a,FExt s (f s a)):∀ {l:List Nat} {s:FSt},(∀i∈l,i<T.length)→s.1.length=T.length→kle s.1 C→kle (l.foldl f s).1 C
 | [],s,_,_,h=>h
 | i::l,s,hl,hn,h=>fold_le hf hx (l:=l) (s:=f s i) (fun j hj=>hl j (by simp [hj])) ((hx s i).len.trans hn) (hf s i hn (hl i (by simp)) h)
theorem useS_le{T:List TermD}(hm:T.length≤1000000){s:FSt}{C:List Bool}(hn:s.1.length=T.length)(hC:Cl T C)(h:kle s.1 C)(i:Nat):kle (useS T s i).1 C:=by
 unfold useS
 dsimp only
 have h1:=opnS_le hn hC h i
 have n1:=(opnS_ext T s i).len.trans hn
 have hu:∀k,∀u∈usersF k 0 T,u<T.length:=fun k u hu=>by have:=users_lt hu;omega
 have h2:=fold_le (C:=C) (f:=fun s u=>opnS T (tryS T s u) u) (fun s i a b c=>opnS_le ((tryS_ext T s i).len.trans a) hC (tryS_le hm a hC c i b) i) (step_ext T) (hu (nmL i)) n1 h1
 have n2:=(foldl_ext (step_ext T) (usersF (nmL i) 0 T) (opnS T s i)).len.trans n1
 split
 ·exact fold_le (fun s i a b c=>tryS_le hm a hC c i b) (tryS_ext T) (hu _) n2 h2
 ·exact h2
theorem runS_le{T:List TermD}(hm:T.length≤1000000){C:List Bool}(hC:Cl T C):∀ (f:Nat) {s:FSt},s.1.length=T.length→kle s.1 C→kle (runS T f s).1 C
 | 0,s,_,h=>h
 | f+1,s,hn,h=>by
  unfold runS
  split
  ·exact h
  ·exact runS_le hm hC f ((useS_ext T _ _).len.trans hn) (useS_le (s:=(s.1,s.2.dropLast)) hm hn hC h _)
theorem zero_le(n:Nat)(C:List Bool):kle (List.replicate n false) C:=fun p hp=>by
 unfold kw at hp
 rw [gdD,List.getElem?_replicate]at hp
 split at hp <;> cases hp
theorem pass_len(T:List TermD)(seen:List (List Int)):(passS T seen).1.length=T.length:=by
 unfold passS seedS
 rw [(foldl_ext (tryS_ext T) _ _).len,(foldl_ext lrn_ext _ _).len]
 simp
theorem fol_sound{T:List TermD}(hm:T.length≤1000000){C:List Bool}(hC:Cl T C){seen:List (List Int)}(hs:∀k∈seen,∀p,pk k=some p→p<T.length→kw C p=true):kle (folL T seen) C:=by
 refine runS_le hm hC _ (pass_len T seen) ?_
 refine fold_le (fun s i a b c=>tryS_le hm a hC c i b) (tryS_ext T) (fun i hi=>List.mem_range.1 hi) ?_ (lrns_le (zero_le _ _) ?_)
 ·unfold seedS
  rw [(foldl_ext lrn_ext _ _).len]
  simp
 ·intro k hk p h1 h2
  exact hs k hk p h1 (by simpa using h2)
def FDone(s:FSt)(D:List Bool):Prop:=∀p,kw D p=true↔kw s.1 p=true∧p∉s.2
structure FInv (T:List TermD) (s:FSt):Prop where
 len:s.1.length=T.length
 wait:∀p∈s.2,kw s.1 p=true
 cons:∀D,FDone s D→(∀i,i<T.length→mks T D (trm T i)=true→kw s.1 i=true)∧(∀i,i<T.length→(trm T i).kind=6→kw D i=true→fol D (k0 (trm T i))=true→∀k∈(trm T i).keys.drop 2,∀p,pk k=some p→p<T.length→kw s.1 p=true)
def dn(s:FSt):List Bool:=(List.range s.1.length).map fun p=>kw s.1 p&&decide (p∉s.2)
theorem dn_done(s:FSt):FDone s (dn s):=fun p=>by
 unfold dn
 by_cases h:p<s.1.length
 ·have:kw ((List.range s.1.length).map fun p=>kw s.1 p&&decide (p∉s.2)) p=(kw s.1 p&&decide (p∉s.2)):=by
   conv=>lhs;unfold kw
   rw [gdD,gmP,List.getElem?_range h]
   rfl
  rw [this]
  simp
 ·have h2:kw s.1 p=false:=by
   cases hk:kw s.1 p with
   | false=>rfl
   | true=>exact absurd (kw_lt hk) h
  have h3:kw ((List.range s.1.length).map fun p=>kw s.1 p&&decide (p∉s.2)) p=false:=by
   cases hk:kw ((List.range s.1.length).map fun p=>kw s.1 p&&decide (p∉s.2)) p with
   | false=>rfl
   | true=>exact absurd (by simpa using kw_lt hk) h
  rw [h2,h3]
  simp
theorem fol_less{a b:List Bool}{i:Nat}(h:∀p,kw a p=true→kw b p=true∨p=i){k:List Int}(hk:fol a k=true):fol b k=true∨k=nmL i:=by
 unfold fol at *
 cases hp:pk k with
 | none=>exact .inl rfl
 | some p=>
  rw [hp]at hk
  rcases h p hk with e | e
  ·exact .inl e
  ·subst e
   exact .inr (pk_some hp).symm
theorem all_less{a b:List Bool}{i:Nat}(h:∀p,kw a p=true→kw b p=true∨p=i){l:List (List Int)}(hk:l.all (fol a)=true):l.all (fol b)=true∨nmL i∈l:=by
 by_cases hm:nmL i∈l
 ·exact .inr hm
 ·refine .inl (alT.2 fun k hkl=>?_)
  rcases fol_less h (alT.1 hk k hkl) with e | e
  ·exact e
  ·exact absurd (e▸hkl) hm
theorem trm_get{T:List TermD}{i:Nat}(hi:i<T.length):T[i]?=some (trm T i):=by
 unfold trm
 rw [gdD,geE hi]
 rfl
theorem trm_of{T:List TermD}{i:Nat}{x:TermD}(h:T[i]?=some x):trm T i=x:=by
 unfold trm
 rw [gdD,h]
 rfl
structure TWf (T:List TermD):Prop where
 wf:∀x∈T,x.Wf
 len:T.length≤1000000
 two:∀x∈T,x.kind=4→∃a b,x.keys=[a,b]∧TermD.Wf ⟨3,⟨#[]⟩,[a]⟩∧TermD.Wf ⟨3,⟨#[]⟩,[b]⟩
theorem agr_less{T:List TermD}(hT:TWf T){a b:List Bool}{i:Nat}(h:∀p,kw a p=true→kw b p=true∨p=i){k l:List Int}(hw:TermD.Wf ⟨3,⟨#[]⟩,[l]⟩)(hk:agrS T a k l=true):agrS T b k l=true∨k=nmL i∨l=nmL i∨((trm T i).kind=3∧k0 (trm T i)=l):=by
 unfold agrS at *
 simp only [Bool.and_eq_true,Bool.or_eq_true]at *
 rcases fol_less h hk.1 with e1 | e1
 ·rcases hk.2 with e2 | e2
  ·rcases fol_less h e2 with e3 | e3
   ·exact .inl ⟨e1,.inl e3⟩
   ·exact .inr (.inr (.inl e3))
  ·unfold pubK at e2 ⊢
   cases hp:placeT ⟨3,⟨#[]⟩,[l]⟩ T with
   | none=>rw [hp]at e2;cases e2
   | some p=>
    rw [hp]at e2
    rcases h p e2 with e3 | e3
    ·exact .inl ⟨e1,.inr e3⟩
    ·subst e3
     have:=trm_of (place_some hw hT.wf hp)
     exact .inr (.inr (.inr (by rw [this];exact⟨rfl,rfl⟩)))
 ·exact .inr (.inl e1)
theorem use_tries{T:List TermD}{s:FSt}{i j:Nat}(hj:j∈usersF (nmL i) 0 T):∃t,FExt s t∧FExt (opnS T (tryS T t j) j) (useS T s i):=by
 obtain⟨t,h1,h2⟩:=foldl_at (step_ext T) (opnS T s i) hj
 refine⟨t,(opnS_ext T s i).trans h1,?_⟩
 unfold useS
 dsimp only
 split
 ·exact h2.trans (foldl_ext (tryS_ext T) _ _)
 ·exact h2
theorem use_pub{T:List TermD}{s:FSt}{i j:Nat}(h3:(trm T i).kind=3)(hj:j∈usersF (k0 (trm T i)) 0 T):∃t,FExt s t∧FExt (tryS T t j) (useS T s i):=by
 obtain⟨t,h1,h2⟩:=foldl_at (tryS_ext T) ((usersF (nmL i) 0 T).foldl (fun s u=>opnS T (tryS T s u) u) (opnS T s i)) hj
 refine⟨t,((opnS_ext T s i).trans (foldl_ext (step_ext T) _ _)).trans h1,?_⟩
 unfold useS
 dsimp only
 rw [if_pos h3]
 exact h2
theorem use_open{T:List TermD}{s:FSt}{i:Nat}:FExt (opnS T s i) (useS T s i):=by
 unfold useS
 dsimp only
 split
 ·exact (foldl_ext (step_ext T) _ _).trans (foldl_ext (tryS_ext T) _ _)
 ·exact foldl_ext (step_ext T) _ _
theorem tryS_has{T:List TermD}(hm:T.length≤1000000){s:FSt}(hn:s.1.length=T.length){i:Nat}(hi:i<T.length)(h:mks T s.1 (trm T i)=true):kw (tryS T s i).1 i=true:=by
 unfold tryS
 by_cases hk:kw s.1 i=false
 ·rw [if_pos ⟨hk,h⟩]
  exact lrn_has (pk_nm (by omega)) (by omega)
 ·rw [if_neg (fun c=>hk c.1)]
  simpa using hk
theorem opnS_has{T:List TermD}{s:FSt}(hn:s.1.length=T.length){i:Nat}(h6:(trm T i).kind=6)(hk:kw s.1 i=true)(hf:fol s.1 (k0 (trm T i))=true){k:List Int}(hm:k∈(trm T i).keys.drop 2){p:Nat}(hp:pk k=some p)(hl:p<T.length):kw (opnS T s i).1 p=true:=by
 unfold opnS
 rw [if_pos ⟨h6,hk,hf⟩]
 obtain⟨t,h1,h2⟩:=foldl_at lrn_ext s hm
 exact h2.le p (lrn_has hp (by rw [h1.len];omega))
theorem inv_use{T:List TermD}(hT:TWf T){kn:List Bool}{td:List Nat}{i:Nat}(h:FInv T (kn,td++[i])):FInv T (useS T (kn,td) i):=by
 have hx:=useS_ext T (kn,td) i
 have hle:kle kn (useS T (kn,td) i).1:=hx.le
 obtain⟨L,hL1,hL2,hL3⟩:=hx.new
 have hlen:=hx.len.trans h.len
 have hki:kw kn i=true:=h.wait i (by simp)
 have hii:i<T.length:=by have:=kw_lt hki;have:=h.len;simp at this;omega
 refine⟨hlen,fun p hp=>?_,fun D hD=>?_⟩
 ·rw [hL1]at hp
  rcases maP.1 hp with h1 | h1
  ·exact hle p (h.wait p (by simp [show p∈td from h1]))
  ·exact (hL3 p h1).1
 have hD0:=dn_done (kn,td++[i])
 obtain⟨c1,c2⟩:=h.cons _ hD0
 have hless:∀p,kw D p=true→kw (dn (kn,td++[i])) p=true∨p=i:=fun p hp=>by
  obtain⟨a1,a2⟩:=(hD p).1 hp
  rw [hL1]at a2
  rcases hL2 p a1 with b | b
  ·by_cases e:p=i
   ·exact .inr e
   ·exact .inl ((hD0 p).2 ⟨b,fun hm=>by
     rcases maP.1 hm with hm | hm
     ·exact a2 (maP.2 (.inl hm))
     ·exact e (by simpa using hm)⟩)
  ·exact absurd (maP.2 (.inr b)) a2
 have hDk:kle D kn:=fun p hp=>by
  rcases hless p hp with e | e
  ·exact ((hD0 p).1 e).1
  ·rw [e];exact hki
 have hus:∀ {j:Nat} {k:List Int},j<T.length→k∈(trm T j).keys→j∈usersF k 0 T:=fun {j k} hj hk=>by
  have:=mem_users hk (n:=0) (trm_get hj)
  rwa [Nat.zero_add]at this
 have hn2:∀ {t:FSt},FExt (kn,td) t→t.1.length=T.length:=fun h1=>h1.len.trans h.len
 have viaUser:∀j,j<T.length→nmL i∈(trm T j).keys→mks T D (trm T j)=true→kw (useS T (kn,td) i).1 j=true:=fun j hj hk hmk=>by
  obtain⟨t,h1,h2⟩:=use_tries (s:=(kn,td)) (hus hj hk)
  exact h2.le j ((opnS_ext T _ j).le j (tryS_has hT.len (hn2 h1) hj (mks_mono (fun p hp=>h1.le p (hDk p hp)) hmk)))
 refine⟨fun j hj hmk=>?_,fun j hj h6 hdj hf k hk p hp hl=>?_⟩
 ·by_cases hold:mks T (dn (kn,td++[i])) (trm T j)=true
  ·exact hle j (c1 j hj hold)
  ·by_cases hu:nmL i∈(trm T j).keys
   ·exact viaUser j hj hu hmk
   ·have hmk0:=hmk
    unfold mks at hmk hold
    by_cases hkd:(trm T j).kind=2∨(trm T j).kind=3∨(trm T j).kind=5∨(trm T j).kind=6
    ·rw [if_pos hkd]at hmk hold
     rcases all_less hless hmk with e | e
     ·exact absurd e hold
     ·exact absurd e hu
    ·rw [if_neg hkd]at hmk hold
     by_cases h4:(trm T j).kind=4
     ·rw [if_pos h4]at hmk hold
      obtain⟨a,b,hab,wa,wb⟩:=hT.two _ (moG (trm_get hj)) h4
      have e0:k0 (trm T j)=a:=by unfold k0;rw [hab];rfl
      have e1:k1 (trm T j)=b:=by unfold k1;rw [hab];rfl
      have ha:a∈(trm T j).keys:=by rw [hab];simp
      have hb:b∈(trm T j).keys:=by rw [hab];simp
      rw [e0,e1]at hmk hold
      simp only [Bool.or_eq_true]at hmk hold
      have viaPub:∀l,l∈(trm T j).keys→(trm T i).kind=3→k0 (trm T i)=l→kw (useS T (kn,td) i).1 j=true:=fun l hl h3 he=>by
       obtain⟨t,h1,h2⟩:=use_pub (s:=(kn,td)) h3 (hus hj (he▸hl))
       exact h2.le j (tryS_has hT.len (hn2 h1) hj (mks_mono (fun p hp=>h1.le p (hDk p hp)) hmk0))
      rcases hmk with e | e
      ·rcases agr_less hT hless wb e with f | f | f | ⟨f,g⟩
       ·exact absurd (.inl f) hold
       ·exact absurd (f▸ha) hu
       ·exact absurd (f▸hb) hu
       ·exact viaPub b hb f g
      ·rcases agr_less hT hless wa e with f | f | f | ⟨f,g⟩
       ·exact absurd (.inr f) hold
       ·exact absurd (f▸hb) hu
       ·exact absurd (f▸ha) hu
       ·exact viaPub a ha f g
     ·rw [if_neg h4]at hmk
      cases hmk
 ·rcases hless j hdj with e | e
  ·rcases fol_less hless hf with f | f
   ·exact hle p (c2 j hj h6 e f k hk p hp hl)
   ·by_cases h0:(trm T j).keys=[]
    ·rw [h0]at hk;simp at hk
    have hu:nmL i∈(trm T j).keys:=by
     rw [←f]
     unfold k0
     cases hks:(trm T j).keys with
     | nil=>exact absurd hks h0
     | cons a l=>simp
    obtain⟨t,h1,h2⟩:=use_tries (s:=(kn,td)) (hus hj hu)
    refine h2.le p (opnS_has ((tryS_ext T t j).len.trans (hn2 h1)) h6 ((tryS_ext T t j).le j (h1.le j (hDk j hdj))) (fol_mono (fun q hq=>(tryS_ext T t j).le q (h1.le q (hDk q hq))) hf) hk hp hl)
  ·subst e
   exact use_open.le p (opnS_has (s:=(kn,td)) h.len h6 hki (fol_mono hDk hf) hk hp hl)
theorem inv_pass{T:List TermD}(hT:TWf T)(seen:List (List Int)):FInv T (passS T seen)∧muF (passS T seen)=T.length:=by
 have hx:FExt (List.replicate T.length false,[]) (passS T seen):=by
  unfold passS seedS
  exact (foldl_ext lrn_ext _ _).trans (foldl_ext (tryS_ext T) _ _)
 obtain⟨L,hL1,hL2,hL3⟩:=hx.new
 have hno:∀p,kw (List.replicate T.length false) p=true→False:=fun p hp=>by
  have:=zero_le T.length (List.replicate 0 false) p hp
  have:=kw_lt this
  simp at this
 refine⟨⟨pass_len T seen,fun p hp=>?_,fun D hD=>⟨fun i hi hmk=>?_,fun i hi h6 hd=>?_⟩⟩,?_⟩
 ·rw [hL1]at hp
  exact (hL3 p (by simpa using hp)).1
 ·have hDe:∀p,kw D p=true→False:=fun p hp=>by
   obtain⟨a,b⟩:=(hD p).1 hp
   rw [hL1]at b
   rcases hL2 p a with e | e
   ·exact hno p e
   ·exact b (by simpa using e)
  unfold passS
  obtain⟨t,h1,h2⟩:=foldl_at (tryS_ext T) (seedS T.length seen) (List.mem_range.2 hi)
  refine h2.le i (tryS_has hT.len ?_ hi (mks_mono (fun p hp=>(hDe p hp).elim) hmk))
  rw [h1.len]
  unfold seedS
  rw [(foldl_ext lrn_ext _ _).len]
  simp
 ·exfalso
  obtain⟨a,b⟩:=(hD i).1 hd
  rw [hL1]at b
  rcases hL2 i a with e | e
  ·exact hno i e
  ·exact b (by simpa using e)
 ·rw [hx.mu]
  show (List.replicate T.length false).count false+0=_
  rw [List.count_replicate_self]
  rfl
theorem last_split{l:List Nat}{i:Nat}(h:l.getLast?=some i):l=l.dropLast++[i]:=by
 have hne:l≠[]:=fun e=>by rw [e]at h;cases h
 rw [List.getLast?_eq_some_getLast hne]at h
 cases h
 exact (List.dropLast_concat_getLast hne).symm
theorem run_end{T:List TermD}(hT:TWf T):∀ (f:Nat) {s:FSt},muF s≤f→FInv T s→FInv T (runS T f s)∧(runS T f s).2=[]
 | 0,s,hm,h=>by
  refine⟨h,?_⟩
  have:s.2.length=0:=by unfold muF at hm;omega
  exact List.eq_nil_of_length_eq_zero this
 | f+1,s,hm,h=>by
  unfold runS
  split
  ·rename_i e
   exact⟨h,List.getLast?_eq_none_iff.1 e⟩
  ·rename_i i e
   have e2:=last_split e
   have h':FInv T (s.1,s.2.dropLast++[i]):=by rw [←e2];exact h
   refine run_end hT f ?_ (inv_use hT h')
   rw [(useS_ext T _ i).mu]
   have:s.2.length=s.2.dropLast.length+1:=by rw [congrArg List.length e2];simp
   show s.1.count false+s.2.dropLast.length≤f
   unfold muF at hm
   omega
theorem fol_closed{T:List TermD}(hT:TWf T)(seen:List (List Int)):Cl T (folL T seen):=by
 obtain⟨h1,h2⟩:=inv_pass hT seen
 obtain⟨h3,h4⟩:=run_end hT T.length (Nat.le_of_eq h2) h1
 have hd:FDone (runS T T.length (passS T seen)) (folL T seen):=fun p=>by
  rw [h4]
  simp [folL]
 obtain⟨c1,c2⟩:=h3.cons _ hd
 exact⟨c1,c2⟩
theorem runS_ext1(T:List TermD):∀ (f:Nat) (s:FSt),(runS T f s).1.length=s.1.length∧kle s.1 (runS T f s).1
 | 0,s=>⟨rfl,fun _ h=>h⟩
 | f+1,s=>by
  unfold runS
  split
  ·exact⟨rfl,fun _ h=>h⟩
  ·rename_i i e
   have h:=runS_ext1 T f (useS T (s.1,s.2.dropLast) i)
   have hx:=useS_ext T (s.1,s.2.dropLast) i
   exact⟨h.1.trans hx.len,fun p hp=>h.2 p (hx.le p hp)⟩
theorem fol_len(T:List TermD)(seen:List (List Int)):(folL T seen).length=T.length:=((runS_ext1 T _ _).1).trans (pass_len T seen)
theorem fol_seen{T:List TermD}{seen:List (List Int)}{k:List Int}(hk:k∈seen){p:Nat}(hp:pk k=some p)(hl:p<T.length):kw (folL T seen) p=true:=by
 refine (runS_ext1 T _ _).2 p ?_
 unfold passS
 refine (foldl_ext (tryS_ext T) _ _).le p ?_
 unfold seedS
 obtain⟨t,h1,h2⟩:=foldl_at lrn_ext (List.replicate T.length false,[]) hk
 exact h2.le p (lrn_has hp (by rw [h1.len];simpa using hl))
end
section
theorem find_ac{nro:Nat}{γ:Nat→Option Nat}{H:AH}{b mb:Nat}{tv:Value}{Ft F:List Nat}{L:List (Value×TermD)}(h:TblF H b mb tv Ft F L){k:List Int}(hk:k.length=32)(hb:By k):AC Tryd.prog nro γ 66 #[.pointer (some ⟨b,0,none⟩),.agg (iv .u8 k).toArray] H (fun v' H'=>v'=findV L k∧Low H.length H H'):=
 (find_rc h hk hb).thaw (fun v H' hq=>⟨hq.2.2,hq.2.1⟩)
end
section
attribute [local simp] wb_bool wb_undef with_lit XL_nil XL_cons XLc_val XLc_call step1_eq stepW_t stepW_f stepC_n stepC_s stepX_s stepX_n stepN_s calleeX xrecv oneV xop_eq xopR_s xopR_n wantedA_eq wantedG_n wantedG_s plain1_int plain1_bool plain1_string bits_i64 bits_u64 bits_u32 bits_u16 bits_u8 xeqA xagg xcmp xarr allK_iv num_iv calleeOf xread xeff xbin xint xnil xun xstr xload xconv xpart xfield xfieldAddr xindexAddr xindex bnd asInt? xslice xlen xmin xmax xbuild xfill xappend xapp2 xappstr xappmk xcap xcopy xcells eval_tmp eval_const put_at put_none fr0_at cells_agg cells_int cells_bool cells_string cells_ptr cells_slice notTuple tab iv_all hget_app hget_app0 hget_cons0 hget_cons set_app set_app0 setR setR_one QL_nil QL_cons QLc_val stepQ_t stepQ_f stepQC_n stepQC_s stepQX_s SL_nil SL_cons SLc_val stepS_t stepS_f ltT ltF leT leF eqT eqF ltTn ltFn leTn leFn eqTn eqFn beqT beqF bneT bneF wi64 wu64 wu32 wu16 wu8 tmodP tdivP hgetL hgetNe hgetEq setL nums_def nums_len Nat.succ_le_of_lt List.getElem?_cons_zero List.getElem?_cons_succ Option.getD_some Int.toNat_add Int.toNat_mul agM okM agB agI agS agP agL agA okB okI okS okP okSl okA nt_strG nt_boolG nt_aggG nt_intG nt_ptrG nt_slG thenQ_ret scopeQ_ret inBlockQ_ret RQ resL resV
section
def bsC(l:List Bool):List Value:=l.map .bool
def tdC(l:List Nat):List Value:=l.map fun p=>.int .i64 (p:Nat)
def Tdo(H:AH)(v:Value)(td:List Nat)(Fd:List Nat):Prop:=
 (v=.slice none 0 0∧td=[]∧Fd=[])∨∃j cs,Fd=[j]∧v=.slice (some ⟨j,0,none⟩) td.length td.length∧hget H j=some ⟨cs, 3,some 1⟩∧tdC td <+: cs
theorem Tdo.low{H G:AH}{v:Value}{td Fd:List Nat}(h:Tdo H v td Fd)(hl:∀j∈Fd,hget G j=hget H j):Tdo G v td Fd:=by
 rcases h with h | ⟨j,cs,rfl,h2,h3,h4⟩
 ·exact .inl h
 ·exact .inr ⟨j,cs,rfl,h2,(hl j (by simp)).trans h3,h4⟩
theorem Tdo.nt{H:AH}{v:Value}{td Fd:List Nat}(h:Tdo H v td Fd):notTuple v=true∧v.cells=#[v]∧(∀j∈Fd,j<H.length)∧xlen Tryd.prog 39 v=some (.int .i64 (td.length:Nat)):=by
 have hu:und Tryd.prog 39 = .slice 3 := by kernel_rfl
 rcases h with ⟨rfl,rfl,rfl⟩ | ⟨j,cs,rfl,rfl,h3,h4⟩
 ·refine⟨rfl,rfl,by simp,?_⟩
  unfold xlen
  simp only [hu]
  rfl
 ·refine⟨rfl,rfl,fun i hi=>?_,?_⟩
  ·rw [msG.1 hi];exact hget_lt h3
  ·unfold xlen
   simp only [hu]
theorem tdC_len(l:List Nat):(tdC l).length=l.length:=by simp [tdC]
theorem bsC_get{l:List Bool}{p:Nat}{b:Bool}(h:l[p]?=some b):(bsC l)[p]?=some (.bool b):=by simp [bsC,h]
theorem kw_get{l:List Bool}{p:Nat}(h:p<l.length):l[p]?=some (kw l p):=by
 unfold kw
 rw [gdD,geE h]
 rfl
theorem bsC_set(l:List Bool)(p:Nat):setR (bsC l) p [.bool true]=bsC (l.set p true):=by
 unfold bsC
 rw [setR_one,List.map_set]
theorem tdo_push{nro:Nat}{H:AH}{v:Value}{td Fd:List Nat}(h:Tdo H v td Fd)(hnro:∀j∈Fd,nro≤j)(p:Nat)(hm:td.length≤10000000000000) :
  ∃v' G,xappend Tryd.prog nro 39 v (.slice (some ⟨H.length,0,none⟩) 1 1) (H++[some ⟨[.int .i64 (p:Nat)], 3,some 1⟩])=some (v',G)∧Tdo G v' (td++[p]) [H.length+1]∧notTuple v'=true∧v'.cells=#[v']∧G.length=H.length+2∧∀j,j<H.length→j∉Fd→hget G j=hget H j:=by
 have hu:und Tryd.prog 39 = .slice 3 := by kernel_rfl
 have hs:szt Tryd.prog 3 = 1:=by kernel_rfl
 have hz:(zer Tryd.prog 3).map (·.cells.size)=some 1:=by kernel_rfl
 have hby:byt Tryd.prog 3 = 8:=by kernel_rfl
 have hx:xcells 1 (.slice (some ⟨H.length,0,none⟩) 1 1) (H++[some ⟨[.int .i64 (p:Nat)], 3,some 1⟩])=some [.int .i64 (p:Nat)]:=by
  unfold xcells
  simp only [hget_app0]
  rfl
 have htd:tdC (td++[p])=tdC td++[.int .i64 (p:Nat)]:=by simp [tdC]
 have hl1:(H++[some (⟨[.int .i64 (p:Nat)], 3,some 1⟩:Blk)]).length=H.length+1:=by simp
 rcases h with ⟨rfl,rfl,rfl⟩ | ⟨j,cs,rfl,rfl,h3,h4⟩
 ·refine⟨.slice (some ⟨H.length+1,0,none⟩) 1 1,(H++[some ⟨[.int .i64 (p:Nat)], 3,some 1⟩])++[some ⟨[.int .i64 (p:Nat)], 3,some 1⟩],?_,.inr ⟨H.length+1,_,rfl,rfl,?_,List.prefix_rfl⟩,rfl,rfl,by simp,fun j hj _=>by rw [hget_left (by rw [hl1];omega),hget_left hj]⟩
  ·unfold xappend
   simp only [hu,hs,hx]
   rw [if_pos ⟨by omega,hz,by rw [hby];simp,by simp [maxLen]⟩,if_neg (by simp)]
   simp
  ·rw [←hl1,hget_app0]
   rfl
 ·have hj:=hget_lt h3
  have hpl:=h4.length_le
  rw [tdC_len]at hpl
  have hpt:cs.take td.length=tdC td:=by
   obtain⟨r,rfl⟩:=h4
   rw [←tdC_len td];simp
  have h3':hget (H++[some ⟨[.int .i64 (p:Nat)], 3,some 1⟩]) j=some ⟨cs, 3,some 1⟩:=(hget_left hj).trans h3
  refine⟨.slice (some ⟨H.length+1,0,none⟩) (td.length+1) (td.length+1),(H++[some (⟨[.int .i64 (p:Nat)], 3,some 1⟩:Blk)]).set j none++[some ⟨tdC td++[.int .i64 (p:Nat)], 3,some 1⟩],?_,.inr ⟨H.length+1,_,rfl,by simp,?_,by rw [htd];exact List.prefix_rfl⟩,rfl,rfl,by simp,fun i hi hn=>?_⟩
  ·have hc:True∧0<1∧(zer Tryd.prog 3).map (·.cells.size)=some 1∧nro≤j∧True∧True∧td.length*1≤cs.length∧(td.length*1+[Value.int .i64 (p:Nat)].length)*byt Tryd.prog 3 ≤ 140737488355328∧td.length*1+[Value.int .i64 (p:Nat)].length≤maxLen:=
    ⟨trivial,by omega,hz,hnro j (by simp),trivial,trivial,by omega,by rw [hby];simp;omega,by simp [maxLen];omega⟩
   unfold xappend
   simp only [hu,hs,hx,h3']
   rw [if_pos hc,Nat.mul_one,hpt]
   simp
  ·rw [show H.length+1=((H++[some (⟨[.int .i64 (p:Nat)], 3,some 1⟩:Blk)]).set j none).length by simp,hget_app0]
   rfl
  ·rw [hget_left (by simp;omega),hget_set_ne (fun e=>hn (by simp [e])),hget_left hi]
def SrD(H:AH)(n sb kb mb ub:Nat)(tv:Value)(F:List Nat)(s:FSt):Prop:=
 ∃tdv Fd,F=sb::kb::Fd∧hget H sb=some ⟨[tv,.map (some mb),.map (some ub),.slice (some ⟨kb,0,none⟩) n n,tdv], 88,none⟩∧hget H kb=some ⟨bsC s.1, 4,some 1⟩∧s.1.length=n∧Tdo H tdv s.2 Fd∧sb≠kb∧sb∉Fd∧kb∉Fd∧muF s≤1000000
def SrQ(H:AH)(n sb kb mb ub:Nat)(tv:Value)(F:List Nat)(s:FSt)(v':Value)(H':AH):Prop:=
 v'=.tuple #[]∧H.length≤H'.length∧(∀j,j<H.length→j∉F→hget H' j=hget H j)∧∃F',SrD H' n sb kb mb ub tv F' s∧∀j∈F',j∈F∨H.length≤j
theorem SrD.bound{H:AH}{n sb kb mb ub:Nat}{tv:Value}{F:List Nat}{s:FSt}(h:SrD H n sb kb mb ub tv F s):∀j∈F,j<H.length:=by
 obtain⟨tdv,Fd,rfl,h1,h2,_,h4,_⟩:=h
 intro j hj
 simp only [List.mem_cons]at hj
 rcases hj with rfl | rfl | hj
 ·exact hget_lt h1
 ·exact hget_lt h2
 ·exact h4.nt.2.2.1 j hj
theorem SrD.low{H G:AH}{n sb kb mb ub:Nat}{tv:Value}{F:List Nat}{s:FSt}(h:SrD H n sb kb mb ub tv F s)(hl:∀j∈F,hget G j=hget H j):SrD G n sb kb mb ub tv F s:=by
 obtain⟨tdv,Fd,rfl,h1,h2,h3,h4,h5⟩:=h
 exact⟨tdv,Fd,rfl,(hl sb (by simp)).trans h1,(hl kb (by simp)).trans h2,h3,h4.low (fun j hj=>hl j (by simp [hj])),h5⟩
theorem SrD.same{H G:AH}{n sb kb mb ub:Nat}{tv:Value}{F:List Nat}{s:FSt}(h:SrD H n sb kb mb ub tv F s)(lw:Low H.length H G):SrQ H n sb kb mb ub tv F s (.tuple #[]) G:=
 ⟨rfl,lw.2,fun j hj _=>lw.1 j hj,F,h.low (fun j hj=>lw.1 j (h.bound j hj)),fun j hj=>.inl hj⟩
theorem pk_cases(k:List Int)(hb:By k)(hk:k.length=32):∃p:Nat,plN k=(p:Int)∧((decide (nmL (plN k)=k)=false∧pk k=none)∨(decide (nmL (plN k)=k)=true∧pk k=some p)):=by
 have h0:0≤plN k:=by
  have b4:=hb.get 4
  have b5:=hb.get 5
  have b6:=hb.get 6
  have b7:=hb.get 7
  unfold plN
  omega
 obtain⟨p,hp⟩:=Int.eq_ofNat_of_zero_le h0
 refine⟨p,hp,?_⟩
 unfold pk
 by_cases e:nmL (plN k)=k
 ·exact .inr ⟨by simp [e],by rw [if_pos e,hp];rfl⟩
 ·exact .inl ⟨by simp [e],by rw [if_neg e]⟩
theorem pl_bound{k:List Int}(hb:By k):plN k<4294967296:=by
 have b4:=hb.get 4
 have b5:=hb.get 5
 have b6:=hb.get 6
 have b7:=hb.get 7
 unfold plN
 omega
theorem follows_rc{γ:Nat→Option Nat}{H:AH}{kb n:Nat}{kn:List Bool}(hg:hget H kb=some ⟨bsC kn, 4,some 1⟩)(hl:kn.length=n)(hn:n≤1000000){k:List Int}(hk:k.length=32)(hb:By k) :
  AC Tryd.prog H.length γ 45 #[.slice (some ⟨kb,0,none⟩) n n,.agg (iv .u8 k).toArray] H (fun v' _=>v'=.bool (fol kn k)):=by
 have htk:(iv .u8 k).take 32=iv .u8 k:=tkL (by simp [hk])
 have hpl:=fun (G:AH)=>place_rc (γ:=γ) (H:=G) hk hb
 have hbd:=pl_bound hb
 have hgl:=hget_lt hg
 have hbl:(bsC kn).length=n:=by simp [bsC,hl]
 obtain⟨p,hp,hc⟩:=pk_cases k hb hk
 unfold fol
 generalize decide (nmL (plN k)=k)=ok at *
 generalize plN k=pz at *
 subst hp
 rcases hc with ⟨rfl,hc⟩ | ⟨rfl,hc⟩
 ·rw [hc]
  refine ac_of_aw Tryd.func45 rfl Tryd.ntmps45 Tryd.results45 (by simp) ?_
  (refine aso fun K hK=>?_;simp (disch:=first|omega|simp only [lnS];try omega) [-getElem?_pos,-getElem?_neg,htk];refine hK _ _ ?_;clear hK K)
  refine aso fun K hK=>?_
  simp (disch:=first|omega|simp only [lnS];try omega) [-getElem?_pos,-getElem?_neg,htk]
  refine⟨by kernel_rfl,ac_of_rc (hpl _) (by simp [pv_iv,pv_int,pv_bool,pv_string,pv_tup2,pv_tup3,iv_plain,p2_int,p2_bool,p2_string]) ?_⟩
  try simp (disch:=first|omega|simp only [lnS];try omega) [-getElem?_pos,-getElem?_neg]
  refine hK _ _ ?_;clear hK K
  (refine aso fun K hK=>?_;simp (disch:=first|omega|simp only [lnS];try omega) [-getElem?_pos,-getElem?_neg];refine hK _ _ ?_;clear hK K)
  (refine aw_ret ?_;simp (disch:=first|omega|simp only [lnS];try omega) [-getElem?_pos,-getElem?_neg])
 ·rw [hc]
  by_cases hlt:p<n
  ·have hcell:(bsC kn)[p]?=some (.bool (kw kn p)):=bsC_get (kw_get (by omega))
   dsimp only
   generalize kw kn p=b at *
   refine ac_of_aw Tryd.func45 rfl Tryd.ntmps45 Tryd.results45 (by simp) ?_
   (refine aso fun K hK=>?_;simp (disch:=first|omega|simp only [lnS];try omega) [-getElem?_pos,-getElem?_neg,htk];refine hK _ _ ?_;clear hK K)
   refine aso fun K hK=>?_
   simp (disch:=first|omega|simp only [lnS];try omega) [-getElem?_pos,-getElem?_neg,htk]
   refine⟨by kernel_rfl,ac_of_rc (hpl _) (by simp [pv_iv,pv_int,pv_bool,pv_string,pv_tup2,pv_tup3,iv_plain,p2_int,p2_bool,p2_string]) ?_⟩
   try simp (disch:=first|omega|simp only [lnS];try omega) [-getElem?_pos,-getElem?_neg]
   refine hK _ _ ?_;clear hK K
   (refine aso fun K hK=>?_;simp (disch:=first|omega|simp only [lnS];try omega) [-getElem?_pos,-getElem?_neg,hlt,hg,hbl,hcell];refine hK _ _ ?_;clear hK K)
   (refine aw_ret ?_;simp (disch:=first|omega|simp only [lnS];try omega) [-getElem?_pos,-getElem?_neg])
  ·have hf:kw kn p=false:=by
    cases h:kw kn p with
    | false=>rfl
    | true=>have:=kw_lt h;omega
   dsimp only
   rw [hf]
   refine ac_of_aw Tryd.func45 rfl Tryd.ntmps45 Tryd.results45 (by simp) ?_
   (refine aso fun K hK=>?_;simp (disch:=first|omega|simp only [lnS];try omega) [-getElem?_pos,-getElem?_neg,htk];refine hK _ _ ?_;clear hK K)
   refine aso fun K hK=>?_
   simp (disch:=first|omega|simp only [lnS];try omega) [-getElem?_pos,-getElem?_neg,htk]
   refine⟨by kernel_rfl,ac_of_rc (hpl _) (by simp [pv_iv,pv_int,pv_bool,pv_string,pv_tup2,pv_tup3,iv_plain,p2_int,p2_bool,p2_string]) ?_⟩
   try simp (disch:=first|omega|simp only [lnS];try omega) [-getElem?_pos,-getElem?_neg]
   refine hK _ _ ?_;clear hK K
   (refine aso fun K hK=>?_;simp (disch:=first|omega|simp only [lnS];try omega) [-getElem?_pos,-getElem?_neg,hlt,hg,hbl];refine hK _ _ ?_;clear hK K)
   (refine aw_ret ?_;simp (disch:=first|omega|simp only [lnS];try omega) [-getElem?_pos,-getElem?_neg])
theorem learn_ac{nro:Nat}{γ:Nat→Option Nat}{H:AH}{n sb kb mb ub:Nat}{tv:Value}{F:List Nat}{s:FSt}(h:SrD H n sb kb mb ub tv F s)(hnro:∀j∈F,nro≤j)(hnH:nro≤H.length)(hn:n≤1000000)(htv:notTuple tv=true∧tv.cells=#[tv]){k:List Int}(hk:k.length=32)(hb:By k) :
  AC Tryd.prog nro γ 41 #[.pointer (some ⟨sb,0,none⟩),.agg (iv .u8 k).toArray] H (SrQ H n sb kb mb ub tv F (lrn s k)):=by
 have hsame:=fun (G:AH) (lw:Low H.length H G)=>h.same lw
 have hmu:=(lrn_ext s k).mu
 obtain⟨tdv,Fd,rfl,hsb,hkb,hsl,htd,hne,hsF,hkF,hm⟩:=h
 have htk:(iv .u8 k).take 32=iv .u8 k:=tkL (by simp [hk])
 have hpl:=fun (G:AH)=>place_rc (γ:=γ) (H:=G) hk hb
 have hbd:=pl_bound hb
 have hgs:=hget_lt hsb
 have hgk:=hget_lt hkb
 have hbl:(bsC s.1).length=n:=by simp [bsC,hsl]
 have htn:=htd.nt
 obtain⟨p,hp,hc⟩:=pk_cases k hb hk
 unfold lrn
 generalize decide (nmL (plN k)=k)=ok at *
 generalize plN k=pz at *
 subst hp
 rcases hc with ⟨rfl,hc⟩ | ⟨rfl,hc⟩
 ·rw [hc]
  dsimp only
  refine ac_of_aw Tryd.func41 rfl Tryd.ntmps41 Tryd.results41 (by simp) ?_
  (refine aso fun K hK=>?_;simp (disch:=first|omega|simp only [lnS];try omega) [-getElem?_pos,-getElem?_neg,htk];refine hK _ _ ?_;clear hK K)
  refine aso fun K hK=>?_
  simp (disch:=first|omega|simp only [lnS];try omega) [-getElem?_pos,-getElem?_neg,htk]
  refine⟨by kernel_rfl,ac_of_rc (hpl _) (by simp [pv_iv,pv_int,pv_bool,pv_string,pv_tup2,pv_tup3,iv_plain,p2_int,p2_bool,p2_string]) ?_⟩
  try simp (disch:=first|omega|simp only [lnS];try omega) [-getElem?_pos,-getElem?_neg]
  refine hK _ _ ?_;clear hK K
  (refine aso fun K hK=>?_;simp (disch:=first|omega|simp only [lnS];try omega) [-getElem?_pos,-getElem?_neg];refine hK _ _ ?_;clear hK K)
  refine awf (by simp<;>omega) ?_
  refine aw_skip ?_
  exact⟨[],_,rfl,rfl,hsame _ (Low.push (nlE _) _)⟩
 ·rw [hc]
  dsimp only
  by_cases hlt:p<n
  ·have hcell:(bsC s.1)[p]?=some (.bool (kw s.1 p)):=bsC_get (kw_get (by omega))
   by_cases hkw:¬ kw s.1 p=false
   ·have hkt:kw s.1 p=true:=by simpa using hkw
    rw [hkt]at hcell
    rw [if_neg (fun c=>hkw c.2)]
    refine ac_of_aw Tryd.func41 rfl Tryd.ntmps41 Tryd.results41 (by simp) ?_
    (refine aso fun K hK=>?_;simp (disch:=first|omega|simp only [lnS];try omega) [-getElem?_pos,-getElem?_neg,htk];refine hK _ _ ?_;clear hK K)
    refine aso fun K hK=>?_
    simp (disch:=first|omega|simp only [lnS];try omega) [-getElem?_pos,-getElem?_neg,htk]
    refine⟨by kernel_rfl,ac_of_rc (hpl _) (by simp [pv_iv,pv_int,pv_bool,pv_string,pv_tup2,pv_tup3,iv_plain,p2_int,p2_bool,p2_string]) ?_⟩
    try simp (disch:=first|omega|simp only [lnS];try omega) [-getElem?_pos,-getElem?_neg]
    refine hK _ _ ?_;clear hK K
    (refine aso fun K hK=>?_;simp (disch:=first|omega|simp only [lnS];try omega) [-getElem?_pos,-getElem?_neg,hlt,hsb,hgs,hkb,hgk,hbl,hcell,-notTuple,htv.1,htn.1];refine hK _ _ ?_;clear hK K)
    refine awf (by simp<;>omega) ?_
    refine aw_skip ?_
    exact⟨[],_,rfl,rfl,hsame _ (Low.push (nlE _) _)⟩
   ·have hkw:kw s.1 p=false:=by simpa using hkw
    rw [hkw]at hcell
    rw [if_pos ⟨by omega,hkw⟩]
    refine ac_of_aw Tryd.func41 rfl Tryd.ntmps41 Tryd.results41 (by simp) ?_
    (refine aso fun K hK=>?_;simp (disch:=first|omega|simp only [lnS];try omega) [-getElem?_pos,-getElem?_neg,htk];refine hK _ _ ?_;clear hK K)
    refine aso fun K hK=>?_
    simp (disch:=first|omega|simp only [lnS];try omega) [-getElem?_pos,-getElem?_neg,htk]
    refine⟨by kernel_rfl,ac_of_rc (hpl _) (by simp [pv_iv,pv_int,pv_bool,pv_string,pv_tup2,pv_tup3,iv_plain,p2_int,p2_bool,p2_string]) ?_⟩
    try simp (disch:=first|omega|simp only [lnS];try omega) [-getElem?_pos,-getElem?_neg]
    refine hK _ _ ?_;clear hK K
    (refine aso fun K hK=>?_;simp (disch:=first|omega|simp only [lnS];try omega) [-getElem?_pos,-getElem?_neg,hlt,hsb,hgs,hkb,hgk,hbl,hcell,-notTuple,htv.1,htn.1];refine hK _ _ ?_;clear hK K)
    refine awt (by simp<;>omega) ?_
    refine aw_seq ?_
    have hnk:nro≤kb:=hnro kb (by simp)
    (refine aoo fun K hK=>?_;simp (disch:=first|omega|simp only [lnS];try omega) [-getElem?_pos,-getElem?_neg,hlt,hsb,hgs,hkb,hgk,hbl,hcell,-notTuple,htv.1,htn.1];refine hK _ _ ?_;clear hK K)
    obtain⟨G,hG⟩:∃G:AH,G=List.set H kb (some ⟨(bsC s.1).set p (.bool true), 4,some 1⟩)++[some (⟨iv .u8 k, 41,none⟩:Blk)]:=⟨_,rfl⟩
    have hGl:G.length=H.length+1:=by rw [hG];simp
    have hGs:hget G sb=some ⟨[tv,.map (some mb),.map (some ub),.slice (some ⟨kb,0,none⟩) n n,tdv], 88,none⟩:=by rw [hG,hget_left (by simp;omega),hget_set_ne (Ne.symm hne)];exact hsb
    have hGk:hget G kb=some ⟨bsC (s.1.set p true), 4,some 1⟩:=by rw [hG,hget_left (by simp;omega),hget_set_eq hgk,←setR_one,bsC_set]
    have hGj:∀j,j<H.length→j≠kb→hget G j=hget H j:=fun j hj hn=>by rw [hG,hget_left (by simp;omega),hget_set_ne (Ne.symm hn)]
    have hGt:Tdo G tdv s.2 Fd:=htd.low (fun j hj=>hGj j (htn.2.2.1 j hj) (fun e=>hkF (e▸hj)))
    have hmt:s.2.length≤1000000:=by unfold muF at hm;omega
    obtain⟨v',G2,hap,ht2,hn2,hc2,hl2,hk2⟩:=tdo_push (nro:=nro) hGt (fun j hj=>hnro j (by simp [hj])) p (by omega)
    have hgs2:G.length=H.length+1:=hGl
    have h2s:hget G2 sb=some ⟨[tv,.map (some mb),.map (some ub),.slice (some ⟨kb,0,none⟩) n n,tdv], 88,none⟩:=(hk2 sb (by omega) hsF).trans hGs
    have h2k:=(hk2 kb (by omega) hkF).trans hGk
    have l2s:=hget_lt h2s
    have hns:nro≤sb:=hnro sb (by simp)
    have lGs:=hget_lt hGs
    have r1:List.range 1=[0]:=rfl
    rw [←hG]
    clear hG
    (refine aoo fun K hK=>?_;simp (disch:=first|omega|simp only [lnS];try omega) [-getElem?_pos,-getElem?_neg,hGs,lGs,h2s,l2s,-notTuple,htv.1,htn.1,hn2,hc2,-xappend,hap,r1];refine hK _ _ ?_;clear hK K)
    have hns2:sb<G2.length:=l2s
    refine⟨[],_,rfl,rfl,rfl,by simp;omega,fun j hj hn=>?_,sb::kb::[G.length+1],⟨v',[G.length+1],rfl,hget_set_eq l2s,?_,by simp [hsl],ht2.low (fun j hj=>?_),hne,by simp;omega,by simp;omega,?_⟩,fun j hj=>?_⟩
    ·simp only [List.mem_cons,not_or]at hn
     rw [hget_set_ne (Ne.symm hn.1),hk2 j (by omega) hn.2.2]
     exact hGj j hj hn.2.1
    ·rw [hget_set_ne hne]
     exact h2k
    ·rw [hget_set_ne (by rw [msG.1 hj];omega)]
    ·have e:lrn s k=(s.1.set p true,s.2++[p]):=by
      unfold lrn
      rw [hc]
      exact if_pos ⟨by omega,hkw⟩
     rw [e]at hmu
     exact Nat.le_trans (Nat.le_of_eq hmu) hm
    ·simp only [mcN]at hj ⊢
     rcases hj with h | h | h
     ·exact .inl (.inl h)
     ·exact .inl (.inr (.inl h))
     ·exact .inr (by omega)
  ·have hf:kw s.1 p=false:=by
    cases h:kw s.1 p with
    | false=>rfl
    | true=>have:=kw_lt h;omega
   rw [if_neg (fun c=>by have:=c.1;omega)]
   refine ac_of_aw Tryd.func41 rfl Tryd.ntmps41 Tryd.results41 (by simp) ?_
   (refine aso fun K hK=>?_;simp (disch:=first|omega|simp only [lnS];try omega) [-getElem?_pos,-getElem?_neg,htk];refine hK _ _ ?_;clear hK K)
   refine aso fun K hK=>?_
   simp (disch:=first|omega|simp only [lnS];try omega) [-getElem?_pos,-getElem?_neg,htk]
   refine⟨by kernel_rfl,ac_of_rc (hpl _) (by simp [pv_iv,pv_int,pv_bool,pv_string,pv_tup2,pv_tup3,iv_plain,p2_int,p2_bool,p2_string]) ?_⟩
   try simp (disch:=first|omega|simp only [lnS];try omega) [-getElem?_pos,-getElem?_neg]
   refine hK _ _ ?_;clear hK K
   (refine aso fun K hK=>?_;simp (disch:=first|omega|simp only [lnS];try omega) [-getElem?_pos,-getElem?_neg,hlt,hsb,hgs,-notTuple,htv.1,htn.1];refine hK _ _ ?_;clear hK K)
   refine awf (by simp<;>omega) ?_
   refine aw_skip ?_
   exact⟨[],_,rfl,rfl,hsame _ (Low.push (nlE _) _)⟩
end
section
def tmBox:ByteArray:=⟨#[98,111,120]⟩
def MarkQ(H:AH)(b:Nat)(F:List Nat)(T:List TermD)(s:ByteArray)(v':Value)(H':AH):Prop:=
 if s.size=32 then v'=.agg (iv .u8 (nums s)).toArray∧Low H.length H H' else TermQ H b F T ⟨2,tmBox++s,[]⟩ v' H'
theorem mark_ac{nro:Nat}{γ:Nat→Option Nat}{H:AH}(hp:Pw γ H){b:Nat}{F:List Nat}{T:List TermD}(h:Tbl H b F T)(hnro:∀j∈F,nro≤j)(hnH:nro≤H.length){s:ByteArray}(hs1:s.size≤10000000)(hT:T.length≤1000000) :
  AC Tryd.prog nro γ 26 #[.pointer (some ⟨b,0,none⟩),.string s] H (MarkQ H b F T s):=by
 unfold MarkQ
 have hs9:s.size≤9223372036854775807:=by omega
 by_cases h32:s.size=32
 ·have hb32:((s.size:Int)==32)=true:=by rw [h32];rfl
  have hi32:(s.size:Int)=32:=by rw [h32];rfl
  have ln:(nums s).length=32:=by rw [nums_len,h32]
  have htn:(iv .u8 (nums s)).take 32=iv .u8 (nums s):=tkL (by simp [ln])
  have hsn:setR (iv .u8 (zl 32)) 0 (iv .u8 (nums s))=iv .u8 (nums s):=setR_all _ _ (by simp [ln])
  refine ac_of_aw Tryd.func26 rfl Tryd.ntmps26 Tryd.results26 (by simp) ?_
  (refine aso fun K hK=>?_;simp (disch:=first|omega|simp only [lnS];try omega);refine hK _ _ ?_;clear hK K)
  refine aw_seq (aw_seq ?_)
  (refine aoo fun K hK=>?_;simp (disch:=first|omega|simp only [lnS];try omega) [hs9,hi32,hb32];refine hK _ _ ?_;clear hK K)
  refine awt (by simp<;>omega) ?_
  refine aso fun K hK=>?_
  simp (disch:=first|omega|simp only [lnS];try omega) [h32,ln,htn,hsn]
  refine hK _ _ ?_;clear hK K
  (refine aw_ret ?_;simp (disch:=first|omega|simp only [lnS];try omega) [h32,ln,htn])
  exact Low.push (nlE _) _
 ·have hb32:((s.size:Int)==32)=false:=by rw [beq_eq_false_iff_ne];omega
  have hi32:¬ (s.size:Int)=32:=by omega
  have hba:(⟨#[98,111,120]⟩:ByteArray).size+s.size≤9223372036854775807:=by show 3+s.size≤_;omega
  have hbs:(tmBox++s).size≤100000000:=by rw [ByteArray.size_append];show 3+s.size≤_;omega
  have hbx:(⟨#[98,111,120]⟩:ByteArray)++s=tmBox++s:=rfl
  have hc:=hash_ac (nro:=nro) (γ:=γ) (hp.push [some ⟨iv .u8 (zl 32), 41,none⟩]) (h.push [some ⟨iv .u8 (zl 32), 41,none⟩]) hnro (by simp;omega) (s:=tmBox++s) (ks:=[]) (wf_0 (.inr rfl) hbs) (v:=.slice none 0 0) (fun G _ _=>ks_nil G) hT
  generalize tmBox++s=t at *
  refine ac_of_aw Tryd.func26 rfl Tryd.ntmps26 Tryd.results26 (by simp) ?_
  (refine aso fun K hK=>?_;simp (disch:=first|omega|simp only [lnS];try omega);refine hK _ _ ?_;clear hK K)
  refine aw_seq (aw_seq ?_)
  (refine aoo fun K hK=>?_;simp (disch:=first|omega|simp only [lnS];try omega) [hs9,hi32,hb32];refine hK _ _ ?_;clear hK K)
  refine awf (by simp<;>omega) ?_
  refine aw_skip (aw_seq ?_)
  refine aoo fun K hK=>?_
  simp (disch:=first|omega|simp only [lnS];try omega) [hs9,hba,hbx]
  refine⟨by kernel_rfl,AC.mono hc ?_⟩
  intro v' G hQ
  obtain⟨N,_,lN,ht,hs,rfl,hlt,hg,hfin⟩:=hQ.lay h.bound
  try simp (disch:=first|omega|simp only [lnS];try omega) [hnH,lN,ht,hs,hg,hlt]
  refine hK _ _ ?_;clear hK K
  (refine aw_ret ?_;simp (disch:=first|omega|simp only [lnS];try omega) [lN,ht,hlt,h32])
  exact hfin _
end
end
end Go.Proofs.YtlaglpnbmkoakaaDoor
