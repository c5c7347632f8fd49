/-
  Own slices with their blocks as a footprint.
-/
import Derived.Test.YtcidhpandnjmoaaDoorMqB
import Derived.Test.YtcidhpandnjmoaaDoorTabMq
import Derived.Test.YtcidhpandnjmoaaDoorMqA
import Derived.Test.YtcidhpandnjmoaaDoorShelfP
import Derived.Laws.Externs
import Derived.Lib.BytesEntry
import Derived.Lib.ItoaLen
namespace Go.Proofs.YtcidhpandnjmoaaDoor
open Go Go.RowKit
set_option linter.unusedSimpArgs false
set_option linter.unusedVariables false
set_option maxRecDepth 100000
set_option maxHeartbeats 8000000
section
def OwnF(H:AH)(v:Value)(e:TypeId)(sz:Nat)(cells:List Value)(F:List Nat):Prop:=
 (v=.slice none 0 0∧cells=[]∧F=[])∨∃j len,v=.slice (some ⟨j,0,none⟩) len len∧hget H j=some ⟨cells,e,some sz⟩∧cells.length=len*sz∧F=[j]
theorem OwnF.low{H H':AH}{v:Value}{e:TypeId}{sz:Nat}{cells:List Value}{F:List Nat}(h:OwnF H v e sz cells F)(hl:∀j∈F,hget H' j=hget H j):OwnF H' v e sz cells F:=by
 rcases h with h | ⟨j,len,h1,h2,h3,rfl⟩
 ·exact .inl h
 ·exact .inr ⟨j,len,h1,by rw [hl j (by simp)];exact h2,h3,rfl⟩
theorem OwnF.len{P:Program}{H:AH}{v:Value}{e t:TypeId}{sz:Nat}{cells:List Value}{F:List Nat}(h:OwnF H v e sz cells F)(ht:und P t=.slice e){n:Nat}(hn:cells.length=n*sz)(h0:0<sz):xlen P t v=some (.int .i64 n):=by
 rcases h with ⟨rfl,rfl,rfl⟩ | ⟨j,len,rfl,h2,h3,rfl⟩
 ·have:n=0:=by
   have:n*sz=0:=hn.symm
   rcases Nat.mul_eq_zero.1 this with h | h <;> omega
  subst this
  simp [xlen,ht]
 ·have:len=n:=Nat.eq_of_mul_eq_mul_right h0 (h3.symm.trans hn)
  subst this
  simp [xlen,ht]
theorem ownF_append{P:Program}{nro:Nat}{t e:TypeId}{H:AH}{v x:Value}{sz:Nat}{cells news:List Value}{F:List Nat}(hu:und P t=.slice e)(hs:szt P e=sz)(h0:0<sz)(hz:(zer P e).map (·.cells.size)=some sz)
  (hv:OwnF H v e sz cells F) (hnro:∀j∈F,nro≤j) (hstr:∀s,x≠.string s) (hx:xcells sz x H=some news) (hn:news≠[]) (hd:news.length%sz=0) (hb:(cells.length+news.length)*byt P e≤140737488355328) (hm:cells.length+news.length≤maxLen) :
  ∃v' H',xappend P nro t v x H=some (v',H')∧OwnF H' v' e sz (cells++news) [H.length]∧H'.length=H.length+1∧∀j,j<H.length→j∉F→hget H' j=hget H j:=by
 subst hs
 have hdm:news.length/szt P e*szt P e=news.length:=Nat.div_mul_cancel (Nat.dvd_of_mod_eq_zero hd)
 rcases hv with ⟨rfl,rfl,rfl⟩ | ⟨j,len,rfl,h3,h4,rfl⟩
 ·refine⟨.slice (some ⟨H.length,0,none⟩) (news.length/szt P e) (news.length/szt P e),H++[some ⟨news,e,some (szt P e)⟩],?_,.inr ⟨H.length,news.length/szt P e,rfl,?_,?_,rfl⟩,by simp,fun i hi _=>hget_left hi⟩
  ·simp only [List.length_nil,Nat.zero_add]at hb hm
   unfold xappend
   cases x <;> first | (exact absurd rfl (hstr _)) | (simp only [hu,hx];rw [if_pos ⟨h0,hz,hb,hm⟩,if_neg hn])
  ·rw [hget_app0,hget_cons0];rfl
  ·rw [hdm];rfl
 ·have hj:=hget_lt h3
  refine⟨.slice (some ⟨H.length,0,none⟩) (len+news.length/szt P e) (len+news.length/szt P e),H.set j none++[some ⟨cells++news,e,some (szt P e)⟩],?_,.inr ⟨H.length,len+news.length/szt P e,rfl,?_,?_,rfl⟩,by simp,fun i hi hni=>?_⟩
  ·have hc:True∧0<szt P e∧(zer P e).map (·.cells.size)=some (szt P e)∧nro≤j∧True∧True∧len*szt P e≤cells.length∧(len*szt P e+news.length)*byt P e≤140737488355328∧len*szt P e+news.length≤maxLen:=
    ⟨trivial,h0,hz,hnro j (by simp),trivial,trivial,by omega,by rw [←h4];exact hb,by rw [←h4];exact hm⟩
   unfold xappend
   cases x <;> first | (exact absurd rfl (hstr _)) | (simp only [hu,hx,h3];rw [if_pos hc,←h4,List.take_length])
  ·have:(H.set j none).length=H.length:=by simp
   rw [←this,hget_app0,hget_cons0]
  ·rw [laP,Nat.add_mul,←h4,hdm]
  ·rw [hget_left (by simp;omega),hget_set_ne (fun e=>hni (by simp [e]))]
theorem OwnF.lt{H:AH}{v:Value}{e:TypeId}{sz:Nat}{cells:List Value}{F:List Nat}(h:OwnF H v e sz cells F):∀j∈F,j<H.length:=by
 rcases h with ⟨_,_,rfl⟩ | ⟨i,len,_,h2,_,rfl⟩
 ·intro j hj;cases hj
 ·intro j hj;rw [msG]at hj;subst hj;exact hget_lt h2
end
section
theorem ownF_str{P:Program}{nro:Nat}{t e:TypeId}{H:AH}{v:Value}{b:ByteArray}{cells:List Value}{F:List Nat}(hu:und P t=.slice e)(hz:zer P e=some (.int .u8 0))(hs:szt P e=1)(hby:byt P e=1)
    (hv:OwnF H v e 1 cells F) (hnro:∀j∈F,nro≤j) (hb:cells.length+b.size≤140737488355328) (hm:cells.length+b.size≤maxLen) :
    ∃v' H' F',xappstr P nro t v (.string b) H=some (v',H')∧OwnF H' v' e 1 (cells++iv .u8 (nums b)) F'∧H.length≤H'.length∧(∀j∈F',H.length≤j)∧∀j,j<H.length→j∉F→hget H' j=hget H j:=by
  have hnl:(iv .u8 (nums b)).length=b.size:=by rw [iv_length];simp [nums]
  rcases hv with ⟨rfl,rfl,rfl⟩ | ⟨j,len,rfl,h3,h4,rfl⟩
  · simp only [List.length_nil,Nat.zero_add]at hb hm
    by_cases h0:b.size=0
    · refine⟨.slice none 0 0,H,[],?_,.inl ⟨rfl,List.eq_nil_of_length_eq_zero (by simp [hnl,h0]),rfl⟩,nlE _,(by simp),fun _ _ _=>rfl⟩
      unfold xappstr
      simp only [hu,hz]
      rw [if_pos ⟨trivial,hs,hby⟩,if_pos ⟨hb,hm⟩,if_pos h0]
    · refine⟨.slice (some ⟨H.length,0,none⟩) b.size b.size,H++[some ⟨iv .u8 (nums b),e,some 1⟩],[H.length],?_,.inr ⟨H.length,b.size,rfl,?_,by simp [hnl],rfl⟩,by simp,by simp,fun i hi _=>hget_left hi⟩
      · unfold xappstr
        simp only [hu,hz]
        rw [if_pos ⟨trivial,hs,hby⟩,if_pos ⟨hb,hm⟩,if_neg h0]
      · rw [hget_app0,hget_cons0];rfl
  · have hj:=hget_lt h3
    refine⟨.slice (some ⟨H.length,0,none⟩) (len+b.size) (len+b.size),H.set j none++[some ⟨cells++iv .u8 (nums b),e,some 1⟩],[H.length],?_,.inr ⟨H.length,len+b.size,rfl,?_,by simp [hnl];omega,rfl⟩,by simp,by simp,fun i hi hni=>?_⟩
    · unfold xappstr
      simp only [hu,hz,h3]
      rw [if_pos ⟨trivial,hs,hby⟩,if_pos ⟨trivial,hnro j (by simp),trivial,trivial,by omega,by omega,by omega⟩,show len=cells.length by omega,List.take_length]
    · have:(H.set j none).length=H.length:=by simp
      rw [←this,hget_app0,hget_cons0]
    · rw [hget_left (by simp;omega),hget_set_ne (fun e=>hni (by simp [e]))]
attribute [local simp] wb_bool wb_undef with_lit XL_nil XL_cons XLc_val XLc_call step1_eq stepW_t stepW_f stepC_n stepC_s stepX_s stepX_n stepN_s calleeX xrecv oneV xop_eq xopR_s xopR_n wantedA_eq wantedG_n wantedG_s plain1_int plain1_bool plain1_string bits_i64 bits_u64 bits_u32 bits_u16 bits_u8 xeqA xagg xcmp xarr allK_iv num_iv calleeOf xread xeff xbin xint xnil xun xstr xload xconv xpart xfield xfieldAddr xindexAddr xindex bnd asInt? xslice xlen xmin xmax xbuild xfill xappend xapp2 xappstr xappmk xcap xcopy xcells eval_tmp eval_const put_at put_none fr0_at cells_agg cells_int cells_bool cells_string cells_ptr cells_slice notTuple tab iv_all hget_app hget_app0 hget_cons0 hget_cons set_app set_app0 setR setR_one QL_nil QL_cons QLc_val stepQ_t stepQ_f stepQC_n stepQC_s stepQX_s SL_nil SL_cons SLc_val stepS_t stepS_f ltT ltF leT leF eqT eqF ltTn ltFn leTn leFn eqTn eqFn beqT beqF bneT bneF wi64 wu64 wu32 wu16 wu8 tmodP tdivP hgetL hgetNe hgetEq setL nums_def nums_len Nat.succ_le_of_lt List.getElem?_cons_zero List.getElem?_cons_succ Option.getD_some Int.toNat_add Int.toNat_mul agM okM agB agI agS agP agL agA okB okI okS okP okSl okA thenQ_ret scopeQ_ret inBlockQ_ret RQ resL resV
def ren240:Go.Shelf.Ren:=⟨fun | 240 => 171 | 276 => 183 | n=>n,fun | 0 => 0 | 4 => 4 | 9 => 9 | 20 => 20 | 70 => 242 | 72 => 244 | 37 => 114 | 5 => 5 | 164 => 272 | n=>n,fun | n=>n⟩
theorem L240:Lays.n240 Tryd.prog ren240:={
  mixed:=by kernel_rfl
  f240:=Tryd.func171.trans (congrArg some (by kernel_rfl))
  f276:=Tryd.func183.trans (congrArg some (by kernel_rfl))
  t0:=Tryd.underlying0
  a0:=Tryd.isAgg0
  z0:=Tryd.sizeOf0
  v0:=Tryd.zeroValue0
  t4:=Tryd.underlying4
  a4:=Tryd.isAgg4
  z4:=Tryd.sizeOf4
  v4:=Tryd.zeroValue4
  t9:=Tryd.underlying9
  a9:=Tryd.isAgg9
  z9:=Tryd.sizeOf9
  v9:=Tryd.zeroValue9
  t20:=Tryd.underlying20
  a20:=Tryd.isAgg20
  z20:=Tryd.sizeOf20
  v20:=Tryd.zeroValue20
  t70:=Tryd.underlying242
  a70:=Tryd.isAgg242
  z70:=Tryd.sizeOf242
  v70:=Tryd.zeroValue242
  t72:=Tryd.underlying244
  a72:=Tryd.isAgg244
  z72:=Tryd.sizeOf244
  v72:=Tryd.zeroValue244
  t164:=Tryd.underlying272
  a164:=Tryd.isAgg272
  z164:=Tryd.sizeOf272
  v164:=Tryd.zeroValue272 }
theorem X240:Builder.X72 Tryd.prog ren240:={
  sizeBuilder:=by kernel_rfl
  liesBuilder:=by kernel_rfl }
def Bl(H:AH)(i:Nat)(s:ByteArray)(F:List Nat):Prop:=
  ∃p v,(p=.pointer none∨p=.pointer (some ⟨i,0,none⟩))∧hget H i=some ⟨[p,v], 244,none⟩∧OwnF H v 5 1 (iv .u8 (nums s)) F∧i∉F∧(s.size=0→v=.slice none 0 0)
theorem Bl.low{H H':AH}{i:Nat}{s:ByteArray}{F:List Nat}(h:Bl H i s F)(h1:hget H' i=hget H i)(hl:∀j∈F,hget H' j=hget H j):Bl H' i s F:=by
  obtain⟨p,v,hp,hg,ho,hn,hz⟩:=h
  exact⟨p,v,hp,h1.trans hg,ho.low hl,hn,hz⟩
theorem Bl.lt{H:AH}{i:Nat}{s:ByteArray}{F:List Nat}(h:Bl H i s F):i<H.length∧∀j∈F,j<H.length:=by
  obtain⟨p,v,hp,hg,ho,hn,hz⟩:=h
  exact⟨hget_lt hg,ho.lt⟩
theorem ownF_shape{H:AH}{v:Value}{e:TypeId}{cells:List Value}{F:List Nat}(h:OwnF H v e 1 cells F):notTuple v=true∧v.cells=#[v]:=by
  rcases h with ⟨rfl,_,_⟩ | ⟨j,len,rfl,_,_,_⟩ <;> exact⟨rfl,rfl⟩
theorem set_same{H:AH}{i:Nat}{k:Blk}(h:hget H i=some k):H.set i (some k)=H:=by
  obtain⟨h1,h2⟩:=gsI.1 (hget_some h)
  have h3:=List.set_getElem_self h1
  rw [h2]at h3
  exact h3
theorem bl_check{nro:Nat}{γ:Nat→Option Nat}{H:AH}{i:Nat}{p v:Value}(hp:p=.pointer none∨p=.pointer (some ⟨i,0,none⟩))(hg:hget H i=some ⟨[p,v], 244,none⟩)(hi:nro≤i) :
    AC Tryd.prog nro γ 171 #[.pointer (some ⟨i,0,none⟩)] H (fun v' H'=>v'=.tuple #[]∧H'=H.set i (some ⟨[.pointer (some ⟨i,0,none⟩),v], 244,none⟩)):=by
  rcases hp with rfl | rfl
  · exact check_fresh_ac L240 X240 hi hg
  · refine AC.mono (check_used_ac L240 X240 hi hg) ?_
    rintro v' H' ⟨h1,h2⟩
    exact⟨h1,by rw [h2,set_same hg]⟩
theorem bl_write{nro:Nat}{γ:Nat→Option Nat}{H:AH}{i:Nat}{s t:ByteArray}{F:List Nat}(h:Bl H i s F)(hi:nro≤i)(hF:∀j∈F,nro≤j)(hb:s.size+t.size≤1000000000) :
    AC Tryd.prog nro γ 151 #[.pointer (some ⟨i,0,none⟩),.string t] H (fun v' H'=>v'=.tuple #[.int .i64 t.size,.nilIface]∧∃F',Bl H' i (s++t) F'∧H.length≤H'.length∧(∀j∈F',H.length≤j)∧∀j,j<H.length→j≠i→j∉F→hget H' j=hget H j):=by
  have hlt:=h.lt
  obtain⟨p,v,hp,hg,ho,hn,hz⟩:=h
  obtain⟨H1,hH1⟩:∃H1,H1=H.set i (some ⟨[.pointer (some ⟨i,0,none⟩),v], 244,none⟩):=⟨_,rfl⟩
  have hl1:H1.length=H.length:=by rw [hH1];simp
  have hg1:hget H1 i=some ⟨[.pointer (some ⟨i,0,none⟩),v], 244,none⟩:=by rw [hH1];exact hget_set_eq hlt.1
  have k1:∀j,j≠i→hget H1 j=hget H j:=fun j hj=>by rw [hH1];exact hget_set_ne (Ne.symm hj)
  have ho1:=ho.low (H':=H1) (fun j hj=>k1 j (fun e=>hn (e▸hj)))
  obtain⟨v',H2,F',hap,ho2,hl2,hnew,hk⟩:=ownF_str (P:=Tryd.prog) (nro:=nro) (t := 114) (e := 5) (H:=H1) (v:=v) (b:=t) (cells:=iv .u8 (nums s)) (F:=F) (by simp) (by simp) (by simp) (by simp) ho1 hF
    (by rw [iv_length,nums_len];omega) (by rw [iv_length,nums_len];simp [maxLen];omega)
  have hs:=ownF_shape ho
  have hs':=ownF_shape ho2
  have hg2:hget H2 i=some ⟨[.pointer (some ⟨i,0,none⟩),v], 244,none⟩:=(hk i (by omega) hn).trans hg1
  have hiF:i∉F':=fun hm=>by have:=hnew i hm;omega
  have hz2:(s++t).size=0→v'=.slice none 0 0:=fun h0=>by
    have h1:s.size=0∧t.size=0:=by
      rw [ByteArray.size_append]at h0
      omega
    have:=hz h1.1
    subst this
    simp [xappstr,h1.2,maxLen]at hap
    exact hap.1.symm
  refine ac_of_aw Tryd.func151 rfl Tryd.ntmps151 Tryd.results151 (by simp) ?_
  (refine aso fun K hK=>?_;simp (disch:=first|omega|simp only [lnS];try omega);refine hK _ _ ?_;clear hK K)
  refine aso fun K hK=>?_
  simp (disch:=first|omega|simp only [lnS];try omega)
  refine⟨by kernel_rfl,AC.mono (bl_check hp hg hi) ?_⟩
  rintro v1 G ⟨rfl,e⟩
  rw [←hH1]at e
  subst e
  clear hH1
  try simp (disch:=first|omega|simp only [lnS];try omega)
  refine hK _ _ ?_;clear hK K
  (refine aso fun K hK=>?_;simp (disch:=first|omega|simp only [lnS];try omega) [hg1,hg2,hs.1,hs'.1,hs'.2,-notTuple,-xappstr,hap];refine hK _ _ ?_;clear hK K)
  (refine aso fun K hK=>?_;simp (disch:=first|omega|simp only [lnS];try omega);refine hK _ _ ?_;clear hK K)
  have hi2:i<H2.length:=hget_lt hg2
  have fin:∃F',Bl (H2.set i (some ⟨[.pointer (some ⟨i,0,none⟩),v'], 244,none⟩)) i (s++t) F'∧H.length≤(H2.set i (some ⟨[.pointer (some ⟨i,0,none⟩),v'], 244,none⟩)).length∧(∀j∈F',H.length≤j)∧∀j,j<H.length→j≠i→j∉F→hget (H2.set i (some ⟨[.pointer (some ⟨i,0,none⟩),v'], 244,none⟩)) j=hget H j:=by
   refine⟨F',⟨.pointer (some ⟨i,0,none⟩),v',.inr rfl,hget_set_eq hi2,?_,hiF,hz2⟩,by simp;omega,fun j hj=>by have:=hnew j hj;omega,fun j hj hji hjF=>?_⟩
   · have:nums (s++t)=nums s++nums t:=by simp [nums_appF]
     rw [this,iv_append]
     exact ho2.low (fun j hj=>hget_set_ne (fun e=>hiF (e▸hj)))
   · rw [hget_set_ne (Ne.symm hji),hk j (by omega) hjF,k1 j hji]
  generalize H2.set i (some ⟨[.pointer (some ⟨i,0,none⟩),v'], 244,none⟩)=H3 at *
  (refine aw_ret ?_;simp (disch:=first|omega|simp only [lnS];try omega))
  obtain⟨F2,f1,f2,f3,f4⟩:=fin
  exact⟨F2,f1,f3,f4⟩
theorem bl_string{nro:Nat}{γ:Nat→Option Nat}{H:AH}{i:Nat}{s:ByteArray}{F:List Nat}(h:Bl H i s F)(hi:nro≤i)(hF:∀j∈F,nro≤j) :
    AC Tryd.prog nro γ 153 #[.pointer (some ⟨i,0,none⟩)] H (fun v' H'=>v'=.string s∧H'.length=H.length∧∀j,j∉F→hget H' j=hget H j):=by
  obtain⟨p,v,hp,hg,ho,hn,hz⟩:=h
  have hsz:(nums s).length=s.size:=nums_len s
  have nilc:∀c,v=.slice none 0 0→s.size=0→c→AC Tryd.prog nro γ 153 #[.pointer (some ⟨i,0,none⟩)] H (fun v' H'=>v'=.string s∧H'.length=H.length∧∀j,j∉F→hget H' j=hget H j):=by
    intro c hv h0 _
    subst hv
    refine AC.mono (string_nil_ac Tryd.lays169 Tryd.Builder_Extra_169 hi hg) ?_
    rintro v' H' ⟨rfl,rfl⟩
    refine⟨?_,rfl,fun _ _=>rfl⟩
    congr 1
    apply ByteArray.ext
    have:s.data.size=0:=h0
    exact (Array.eq_empty_of_size_eq_zero this).symm
  rcases ho with ⟨hv,hc,hF0⟩ | ⟨j,len,rfl,h2,h3,rfl⟩
  · refine nilc True hv ?_ trivial
    have:=congrArg List.length hc
    rw [iv_length,hsz]at this
    exact this
  · rw [iv_length,hsz]at h3
    by_cases h0:len=0
    · have:=hz (by omega)
      cases this
    · refine AC.mono (string_ac Tryd.lays169 Tryd.Builder_Extra_169 hi hg (hF j (by simp)) h2 (by omega) h0) ?_
      rintro v' H' ⟨rfl,rfl⟩
      exact⟨rfl,by simp,fun q hq=>hget_set_ne (fun e=>hq (by simp [e]))⟩
end
section
structure BoxD where
 to:Int
 pub:List Int
 n:Int
 prev:Int
 body:ByteArray
structure OpD where
 author:Int
 seq:Int
 parents:List (List Int)
 kind:Int
 who:List Int
 of:List Int
 check:List Int
 text:ByteArray
 boxes:List BoxD
structure NodeD where
 id:List Int
 op:OpD
 past:List Int
def kd(k:List Int):List CD:=k.map (.int .u8)
theorem ValL.key{H:AH}{k:List Int}{us:List Value}(h:ValL H (kd k) us):us=iv .u8 k:=ValL.ints h
def KsV(H:AH)(v:Value)(l:List (List Int)):Prop:=CD.Val H (.sl (l.map kd)) v
end
section
attribute [local simp] wb_bool wb_undef with_lit XL_nil XL_cons XLc_val XLc_call step1_eq stepW_t stepW_f stepC_n stepC_s stepX_s stepX_n stepN_s calleeX xrecv oneV xop_eq xopR_s xopR_n wantedA_eq wantedG_n wantedG_s plain1_int plain1_bool plain1_string bits_i64 bits_u64 bits_u32 bits_u16 bits_u8 xeqA xagg xcmp xarr allK_iv num_iv calleeOf xread xeff xbin xint xnil xun xstr xload xconv xpart xfield xfieldAddr xindexAddr xindex bnd asInt? xslice xlen xmin xmax xbuild xfill xappend xapp2 xappstr xappmk xcap xcopy xcells eval_tmp eval_const put_at put_none fr0_at cells_agg cells_int cells_bool cells_string cells_ptr cells_slice notTuple tab iv_all hget_app hget_app0 hget_cons0 hget_cons set_app set_app0 setR setR_one QL_nil QL_cons QLc_val stepQ_t stepQ_f stepQC_n stepQC_s stepQX_s SL_nil SL_cons SLc_val stepS_t stepS_f ltT ltF leT leF eqT eqF ltTn ltFn leTn leFn eqTn eqFn beqT beqF bneT bneF wi64 wu64 wu32 wu16 wu8 tmodP tdivP hgetL hgetNe hgetEq setL nums_def nums_len Nat.succ_le_of_lt List.getElem?_cons_zero List.getElem?_cons_succ Option.getD_some Int.toNat_add Int.toNat_mul agM okM agB agI agS agP agL agA okB okI okS okP okSl okA thenQ_ret scopeQ_ret inBlockQ_ret RQ resL resV PL_nil plainB_lit PL_cons PLc_val PLc_new stepP_t stepP_f stepPC_n stepPC_s stepPX_s stepPX_n stepPV_n stepPV_s stepPA_t stepPA_c stepPA_l stepPN_s allocOp reloc_sl reloc_ptr
section
def nmL(n:Int):List Int:=116::101::114::109::n/16777216%256::n/65536%256::n/256%256::n%256::zl 24
theorem nmL_len(n:Int):(nmL n).length=32:=rfl
theorem nmL_by(n:Int):By (nmL n):=by
 intro x hx
 unfold nmL at hx
 simp only [List.mem_cons]at hx
 rcases hx with h | h | h | h | h | h | h | h | h
 all_goals first | omega | (rw [List.eq_of_mem_replicate h];omega)
theorem u8w(x:Int):IntKind.u8.wrap x=x%256:=by
 show x%2 ^ 8=_
 rfl
def plN(k:List Int):Int:=k.getD 4 0*16777216+k.getD 5 0*65536+k.getD 6 0*256+k.getD 7 0
theorem plN_nm{n:Int}(h:0≤n∧n<4294967296):plN (nmL n)=n:=by
 show n/16777216%256*16777216+n/65536%256*65536+n/256%256*256+n%256=n
 omega
theorem nm_inj{a b:Int}(ha:0≤a∧a<4294967296)(hb:0≤b∧b<4294967296)(h:nmL a=nmL b):a=b:=by rw [←plN_nm ha,h,plN_nm hb]
theorem w64{x:Int}(h:0≤x∧x<9223372036854775808):IntKind.i64.wrap x=x:=by
 simp [IntKind.wrap,IntKind.bits,IntKind.signed]
 omega
theorem or64i{c w:Int}(n:Nat)(m:Int)(hm:m=2 ^ n)(hw:0≤w∧w<m)(hc:0≤c∧c%m=0)(h:c+w<9223372036854775808):bitsOf .or .i64 c w=c+w:=by
 obtain⟨w,rfl⟩:=Int.eq_ofNat_of_zero_le hw.1
 obtain⟨c,rfl⟩:=Int.eq_ofNat_of_zero_le hc.1
 have e3:((2 ^ n:Nat):Int)=2 ^ n:=by simp
 obtain⟨M,hM⟩:∃M:Nat,M=2 ^ n:=⟨_,rfl⟩
 rw [←hM]at e3
 rw [←e3]at hm
 subst hm
 have hw2:w<M:=by have:=hw.2;omega
 have hc2:c=c/M*M:=by
  have h1:c%M=0:=by have:=hc.2;omega
  have:=Nat.div_add_mod c M
  rw [h1,Nat.mul_comm]at this
  omega
 have e2:((BitVec.ofInt 64 (c:Int)) ||| (BitVec.ofInt 64 (w:Int))).toNat=c+w:=by
  rw [BitVec.toNat_or,BitVec.toNat_ofInt,BitVec.toNat_ofInt]
  have a1:((w:Int)%((2 ^ 64:Nat):Int)).toNat=w:=by omega
  have a2:((c:Int)%((2 ^ 64:Nat):Int)).toNat=c:=by omega
  rw [a1,a2]
  generalize c/M=q at hc2
  rw [hc2,hM,Nat.mul_comm q,←Nat.two_pow_add_eq_or_of_lt (by rw [←hM];exact hw2)]
 show IntKind.i64.wrap (((BitVec.ofInt 64 (c:Int)) ||| (BitVec.ofInt 64 (w:Int))).toNat:Int)=_
 rw [e2,w64 (by omega)]
 omega
theorem name_rc{γ:Nat→Option Nat}{H:AH}{n:Int}(hn:0≤n∧n<4611686018427387904):AC Tryd.prog H.length γ 124 #[.int .i64 n] H (fun v' _=>v'=.agg (iv .u8 (nmL n)).toArray):=by
 have w0:IntKind.u8.wrap n=n%256:=u8w n
 have w1:IntKind.u8.wrap (n.fdiv 256)=n/256%256:=by rw [u8w,Int.fdiv_eq_ediv_of_nonneg _ (by omega)]
 have w2:IntKind.u8.wrap (n.fdiv 65536)=n/65536%256:=by rw [u8w,Int.fdiv_eq_ediv_of_nonneg _ (by omega)]
 have w3:IntKind.u8.wrap (n.fdiv 16777216)=n/16777216%256:=by rw [u8w,Int.fdiv_eq_ediv_of_nonneg _ (by omega)]
 have e:((((setR (iv .u8 (zl 32)) 0 ((iv .u8 [116,101,114,109]).take 4)).set 4 (.int .u8 (n/16777216%256))).set 5 (.int .u8 (n/65536%256))).set 6 (.int .u8 (n/256%256))).set 7 (.int .u8 (n%256))=iv .u8 (nmL n):=rfl
 have lN:(nmL n).length=32:=rfl
 generalize nmL n=N at *
 have ht:(iv .u8 N).take 32=iv .u8 N:=tkL (by simp [lN])
 have hs:setR (iv .u8 (zl 32)) 0 (iv .u8 N)=iv .u8 N:=setR_all _ _ (by simp [lN])
 refine ac_of_aw Tryd.func124 rfl Tryd.ntmps124 Tryd.results124 (by simp) ?_
 (refine aso fun K hK=>?_;simp (disch:=first|omega|simp only [lnS];try omega) [-getElem?_pos,-getElem?_neg];refine hK _ _ ?_;clear hK K)
 (refine aso fun K hK=>?_;simp (disch:=first|omega|simp only [lnS];try omega) [-getElem?_pos,-getElem?_neg];refine hK _ _ ?_;clear hK K)
 (refine aso fun K hK=>?_;simp (disch:=first|omega|simp only [lnS];try omega) [-getElem?_pos,-getElem?_neg];refine hK _ _ ?_;clear hK K)
 (refine aso fun K hK=>?_;simp (disch:=first|omega|simp only [lnS];try omega) [-getElem?_pos,-getElem?_neg,w0,w1,w2,w3,e];refine hK _ _ ?_;clear hK K)
 (refine aso fun K hK=>?_;simp (disch:=first|omega|simp only [lnS];try omega) [-getElem?_pos,-getElem?_neg,lN,ht,hs];refine hK _ _ ?_;clear hK K)
 (refine aw_ret ?_;simp (disch:=first|omega|simp only [lnS];try omega) [-getElem?_pos,-getElem?_neg,lN,ht])
theorem place_rc{γ:Nat→Option Nat}{H:AH}{k:List Int}(hk:k.length=32)(hb:By k):AC Tryd.prog H.length γ 131 #[.agg (iv .u8 k).toArray] H (fun v' _=>v'=.tuple #[.int .i64 (plN k),.bool (decide (nmL (plN k)=k))]):=by
 have b4:=hb.get 4
 have b5:=hb.get 5
 have b6:=hb.get 6
 have b7:=hb.get 7
 have htk:(iv .u8 k).take 32=iv .u8 k:=tkL (by simp [hk])
 have g4:(iv .u8 k)[4]?=some (.int .u8 (k.getD 4 0)):=iv_getN _ _ _ (by omega)
 have g5:(iv .u8 k)[5]?=some (.int .u8 (k.getD 5 0)):=iv_getN _ _ _ (by omega)
 have g6:(iv .u8 k)[6]?=some (.int .u8 (k.getD 6 0)):=iv_getN _ _ _ (by omega)
 have g7:(iv .u8 k)[7]?=some (.int .u8 (k.getD 7 0)):=iv_getN _ _ _ (by omega)
 have hpl:plN k=k.getD 4 0*16777216+k.getD 5 0*65536+k.getD 6 0*256+k.getD 7 0:=rfl
 have hc:=fun (G:AH)=>name_rc (γ:=γ) (H:=G) (n:=plN k) (by omega)
 have lN:(nmL (plN k)).length=32:=rfl
 have htN:(iv .u8 (nmL (plN k))).take 32=iv .u8 (nmL (plN k)):=rfl
 have hkN:(nmL (plN k)==k)=decide (nmL (plN k)=k):=by rw [Bool.eq_iff_iff];simp
 generalize nmL (plN k)=N at *
 generalize plN k=p at *
 generalize k.getD 4 0=x4 at *
 generalize k.getD 5 0=x5 at *
 generalize k.getD 6 0=x6 at *
 generalize k.getD 7 0=x7 at *
 have w4:IntKind.i64.wrap x4=x4:=w64 (by omega)
 have w5:IntKind.i64.wrap x5=x5:=w64 (by omega)
 have w6:IntKind.i64.wrap x6=x6:=w64 (by omega)
 have w7:IntKind.i64.wrap x7=x7:=w64 (by omega)
 have v4:IntKind.i64.wrap (x4*16777216)=x4*16777216:=w64 (by omega)
 have v5:IntKind.i64.wrap (x5*65536)=x5*65536:=w64 (by omega)
 have v6:IntKind.i64.wrap (x6*256)=x6*256:=w64 (by omega)
 have o1:bitsOf .or .i64 (x4*16777216) (x5*65536)=x4*16777216+x5*65536:=or64i 24 16777216 rfl (by omega) (by omega) (by omega)
 have o2:bitsOf .or .i64 (x4*16777216+x5*65536) (x6*256)=x4*16777216+x5*65536+x6*256:=or64i 16 65536 rfl (by omega) (by omega) (by omega)
 have o3:bitsOf .or .i64 (x4*16777216+x5*65536+x6*256) x7=p:=by rw [hpl];exact or64i 8 256 rfl (by omega) (by omega) (by omega)
 refine ac_of_aw Tryd.func131 rfl Tryd.ntmps131 Tryd.results131 (by simp) ?_
 (refine aso fun K hK=>?_;simp (disch:=first|omega|simp only [lnS];try omega) [-getElem?_pos,-getElem?_neg,htk];refine hK _ _ ?_;clear hK K)
 (refine aso fun K hK=>?_;simp (disch:=first|omega|simp only [lnS];try omega) [-getElem?_pos,-getElem?_neg];refine hK _ _ ?_;clear hK K)
 refine aw_seq ?_
 (refine aw_plan [] [] [0,1,2,3,4,5,6,7,8,9,10,11,12,13,14,15,16,17,18,19,20,21,22,23,24,25] 26 0 (by kernel_rfl) (by kernel_rfl) (by kernel_rfl) (fun K hK=>?_));simp only [sel,gcS,gdZ];simp (disch:=first|omega|simp only [lnS];try omega) [-getElem?_pos,-getElem?_neg,g4,g5,g6,g7,w4,w5,w6,w7,v4,v5,v6,o1,o2,o3,Nat.add_assoc]
 refine hK _ _ ?_;clear hK K
 refine aw_seq ?_
 (refine aw_plan [] [] [0,1,2,3,4,5,6] 7 0 (by kernel_rfl) (by kernel_rfl) (by kernel_rfl) (fun K hK=>?_));simp only [sel,gcS,gdZ];simp (disch:=first|omega|simp only [lnS];try omega) [-getElem?_pos,-getElem?_neg,htk,Nat.add_assoc]
 refine PLc_call (by kernel_rfl) (fun L hL=>hc _) (by simp [pv_iv,pv_int,pv_bool,pv_string,pv_tup2,pv_tup3,iv_plain,p2_int,p2_bool,p2_string]) ?_
 try simp (disch:=first|omega|simp only [lnS];try omega) [-getElem?_pos,-getElem?_neg,htk,htN,lN,Nat.add_assoc]
 refine hK _ _ ?_;clear hK K
 (refine aw_ret ?_;simp (disch:=first|omega|simp only [lnS];try omega) [-getElem?_pos,-getElem?_neg,hkN])
end
section
def bA(l:List Int):ByteArray:=⟨(Lib.bytesOf l).toArray⟩
def cmpL(a b:List Int):Int:=Extern.BytealgCompare.cmp (bA a) (bA b)
theorem find_first{p:Nat→Bool}:∀ (n s i:Nat),s≤i→i<s+n→(∀k,s≤k→k<i→p k=false)→p i=true→(List.range' s n).find? p=some i
 | 0,s,i,h1,h2,_,_=>by omega
 | n+1,s,i,h1,h2,h3,h4=>by
  rw [List.range'_succ,List.find?_cons]
  by_cases e:s=i
  ·subst e;rw [h4]
  ·rw [h3 s (nlE _) (by omega)]
   exact find_first n (s+1) i (by omega) (by omega) (fun k hk hk2=>h3 k (by omega) hk2) h4
theorem find_none{p:Nat→Bool}:∀ (n s:Nat),(∀k,s≤k→k<s+n→p k=false)→(List.range' s n).find? p=none
 | 0,s,_=>rfl
 | n+1,s,h=>by
  rw [List.range'_succ,List.find?_cons,h s (nlE _) (by omega)]
  exact find_none n (s+1) fun k hk hk2=>h k (by omega) (by omega)
theorem bA_size(l:List Int):(bA l).size=l.length:=by simp [bA,Lib.bytesOf,ByteArray.size]
theorem bA_get{l:List Int}{i:Nat}{x:Int}(h:l[i]?=some x):(bA l)[i]! = x.toNat.toUInt8:=by
 have hi:=(gsI.1 h).1
 have hs:i<(bA l).size:=by rw [bA_size];exact hi
 rw [getElem!_pos (bA l) i hs]
 obtain⟨_,rfl⟩:=gsI.1 h
 simp [bA,Lib.bytesOf,ByteArray.getElem_eq_getElem_data]
theorem u8_ne{x y:Int}(hx:0≤x∧x≤255)(hy:0≤y∧y≤255):(x.toNat.toUInt8 != y.toNat.toUInt8)=decide (x≠y):=by
 have h:∀a b:Nat,a<256→b<256→(a.toUInt8=b.toUInt8↔a=b):=fun a b ha hb=>by
  constructor
  ·intro e
   have:=congrArg UInt8.toNat e
   simp at this;omega
  ·rintro rfl;rfl
 by_cases e:x=y
 ·subst e;simp
 ·have:¬ x.toNat.toUInt8=y.toNat.toUInt8:=fun e2=>e (by have:=(h _ _ (by omega) (by omega)).1 e2;omega)
  simp [this,e]
theorem u8_lt{x y:Int}(hx:0≤x∧x≤255)(hy:0≤y∧y≤255):(x.toNat.toUInt8<y.toNat.toUInt8)↔x<y:=by
 rw [UInt8.lt_iff_toNat_lt]
 simp only [Nat.toUInt8,UInt8.toNat_ofNat']
 omega
theorem cmpL_at{a b:List Int}(ha:By a)(hb:By b)(hl:a.length=b.length){i:Nat}{x y:Int}(hx:a[i]?=some x)(hy:b[i]?=some y)(hxy:x≠y)(hpre:a.take i=b.take i):cmpL a b=if x<y then -1 else 1:=by
 have hi:=(gsI.1 hx).1
 have hxb:=ha x (moG hx)
 have hyb:=hb y (moG hy)
 unfold cmpL Extern.BytealgCompare.cmp
 rw [bA_size,bA_size,List.range_eq_range',find_first (p:=fun i=>(bA a)[i]! != (bA b)[i]!) (min a.length b.length) 0 i (by omega) (by omega) (fun k _ hk=>?_) ?_]
 ·simp only [bA_get hx,bA_get hy]
  by_cases h:x<y
  ·rw [if_pos h,if_pos ((u8_lt hxb hyb).2 h)]
  ·rw [if_neg h,if_neg (fun h2=>h ((u8_lt hxb hyb).1 h2))]
 ·simp only [bA_get hx,bA_get hy]
  rw [u8_ne hxb hyb]
  simpa using hxy
 ·obtain⟨u,hu⟩:∃u,a[k]?=some u:=⟨_,geE (by omega)⟩
  have hv:b[k]?=some u:=by
   have h1:(a.take i)[k]?=some u:=by rw [List.getElem?_take_of_lt hk,hu]
   rw [hpre,List.getElem?_take_of_lt hk]at h1
   exact h1
  simp only [bA_get hu,bA_get hv]
  simp
theorem cmpL_eq{a:List Int}:cmpL a a=0:=by
 unfold cmpL Extern.BytealgCompare.cmp
 rw [List.range_eq_range',find_none _ 0 (fun k _ _=>by simp)]
 simp
theorem cmp0_ac{H:AH}{γ:Nat→Option Nat}{nro i j n:Nat}{a b:List Int}{t1 t2:TypeId}{e1 e2:Option Nat}(ha:hget H i=some ⟨iv .u8 a,t1,e1⟩)(hb:hget H j=some ⟨iv .u8 b,t2,e2⟩)(hal:a.length=n)(hbl:b.length=n) :
  AC Tryd.prog nro γ 145 #[.slice (some ⟨i,0,none⟩) n n,.slice (some ⟨j,0,none⟩) n n] H (fun v' H'=>v'=.int .i64 (cmpL a b)∧H'=H):=by
 intro m base w args' hR hsz hva
 obtain⟨y0,hy0,hv0⟩:=hva 0 _ rfl
 obtain⟨y1,hy1,hv1⟩:=hva 1 _ rfl
 obtain rfl:args'=#[y0,y1]:=by
  have h2:args'.size=2:=hsz
  apply Array.ext_getElem?
  intro k
  match k with
  | 0=>rw [hy0];rfl
  | 1=>rw [hy1];rfl
  | k+2=>rw [Array.getElem?_eq_none (by omega),Array.getElem?_eq_none (by simp)]
 obtain⟨en0,c0,_,hm0,_,_,rfl⟩:=hv0.sl_
 obtain⟨en1,c1,_,hm1,_,_,rfl⟩:=hv1.sl_
 have cell:∀ (k:Nat) (l:List Int) (t:TypeId) (e:Option Nat) (en:Ent),hget H k=some ⟨iv .u8 l,t,e⟩→m[k]?=some en→∀ (q:Nat) (x:Int),l[q]?=some x→w.cell? ((⟨en.b,en.o+0,none⟩:Addr).add q)=some (.int .u8 x):=fun k l t e en hk hm q x hx=>by
  obtain⟨y,hy,hv⟩:=hR.cell hk hm (off:=q) (x:=.int .u8 x) (by simp [iv,hx])
  have:=hv.eq rfl
  subst this
  have e:(⟨en.b,en.o+0,none⟩:Addr).add q=⟨en.b,en.o+q,none⟩:=by unfold Addr.add;split <;> simp_all
  rw [e,hy]
 have l0:=Lib.run_loadBytesX (P:=Tryd.prog) w a ⟨en0.b,en0.o+0,none⟩ .empty (cell i a t1 e1 en0 ha hm0)
 have l1:=Lib.run_loadBytesX (P:=Tryd.prog) w b ⟨en1.b,en1.o+0,none⟩ .empty (cell j b t2 e2 en1 hb hm1)
 have he:∀l:List Int,(⟨ByteArray.empty.data++(Lib.bytesOf l).toArray⟩:ByteArray)=bA l:=fun l=>by
  apply ByteArray.ext
  show (#[]:Array UInt8)++(Lib.bytesOf l).toArray=(Lib.bytesOf l).toArray
  simp
 rw [he,hal]at l0
 rw [he,hbl]at l1
 refine .inr ⟨.int .i64 (cmpL a b),?_,m,.int .i64 (cmpL a b),.int .i64 (cmpL a b),H,rfl,List.prefix_rfl,plainV_mk rfl,hR,.refl _ _,rfl,rfl⟩
 rw [run_callFunc_extern (fn:=Tryd.f145) (by kernel_rfl) (by kernel_rfl) (by kernel_rfl) (by kernel_rfl) (e:=Extern.BytealgCompare.compare) (by kernel_rfl)]
 have:(Extern.BytealgCompare.compare #[.slice (some ⟨en0.b,en0.o+0,none⟩) n c0,.slice (some ⟨en1.b,en1.o+0,none⟩) n c1]).run Tryd.prog w=.ok (.int .i64 (cmpL a b)) w:=by
  change Sem.run _ (do pure (goInt (Extern.BytealgCompare.cmp (←Extern.Bytes.bytesOf (.slice (some ⟨en0.b,en0.o+0,none⟩) n c0)) (←Extern.Bytes.bytesOf (.slice (some ⟨en1.b,en1.o+0,none⟩) n c1))))) w=_
  simp only [Extern.Bytes.bytesOf,Sem.run_bind,Sem.run_pure,l0,l1,Result.andThen]
  rfl
 rw [this]
 rfl
theorem compare_ac{H:AH}{γ:Nat→Option Nat}{nro i j n:Nat}{a b:List Int}{t1 t2:TypeId}{e1 e2:Option Nat}(ha:hget H i=some ⟨iv .u8 a,t1,e1⟩)(hb:hget H j=some ⟨iv .u8 b,t2,e2⟩)(hal:a.length=n)(hbl:b.length=n) :
  AC Tryd.prog nro γ 113 #[.slice (some ⟨i,0,none⟩) n n,.slice (some ⟨j,0,none⟩) n n] H (fun v' H'=>v'=.int .i64 (cmpL a b)∧H'=H):=by
 refine ac_of_aw Tryd.func113 rfl Tryd.ntmps113 Tryd.results113 (by simp) ?_
 (refine aso fun K hK=>?_;simp (disch:=first|omega|simp only [lnS];try omega);refine hK _ _ ?_;clear hK K)
 refine aso fun K hK=>?_
 simp (disch:=first|omega|simp only [lnS];try omega)
 refine⟨by kernel_rfl,(cmp0_ac ha hb hal hbl).mono ?_⟩
 rintro v1 G1 ⟨rfl,rfl⟩
 try simp (disch:=first|omega|simp only [lnS];try omega)
 refine hK _ _ ?_;clear hK K
 (refine aw_ret ?_;simp (disch:=first|omega|simp only [lnS];try omega))
end
end
section
theorem nt_ptrG(a:Option Addr):notTuple (.pointer a)=true:=rfl
theorem nt_intG(k:IntKind)(x:Int):notTuple (.int k x)=true:=rfl
theorem nt_slG(a:Option Addr)(n c:Nat):notTuple (.slice a n c)=true:=rfl
theorem nt_strG(s:ByteArray):notTuple (.string s)=true:=rfl
theorem nt_aggG(a:Array Value):notTuple (.agg a)=true:=rfl
theorem nt_boolG(b:Bool):notTuple (.bool b)=true:=rfl
end
section
theorem first_diff:∀ {a b:List Int},a.length=b.length→a≠b→∃p x y r s,a=p++x::r∧b=p++y::s∧x≠y
 | [],[],_,h=>absurd rfl h
 | [],_::_,h,_=>by cases h
 | _::_,[],h,_=>by cases h
 | u::a,v::b,hl,h=>by
  by_cases e:u=v
  ·subst e
   obtain⟨p,x,y,r,s,rfl,rfl,hxy⟩:=first_diff (a:=a) (b:=b) (by simpa using hl) (fun e=>h (by rw [e]))
   exact⟨u::p,x,y,r,s,rfl,rfl,hxy⟩
  ·exact⟨[],u,v,a,b,rfl,rfl,e⟩
theorem lt_at(p:List Int)(x y:Int)(r s:List Int)(h:x≠y):p++x::r<p++y::s↔x<y:=by
 induction p with
 | nil=>
  rw [List.nil_append,List.nil_append,List.cons_lt_cons_iff]
  exact⟨fun h2=>h2.elim id (fun h3=>absurd h3.1 h),Or.inl⟩
 | cons u p ih=>
  rw [List.cons_append,List.cons_append,List.cons_lt_cons_iff]
  exact⟨fun h2=>h2.elim (fun h3=>absurd h3 (Int.lt_irrefl _)) (fun h3=>ih.1 h3.2),fun h2=>.inr ⟨rfl,ih.2 h2⟩⟩
theorem cmpL_lt{a b:List Int}(ha:By a)(hb:By b)(hl:a.length=b.length):cmpL a b<0↔a<b:=by
 by_cases e:a=b
 ·subst e
  rw [cmpL_eq]
  exact⟨fun h=>absurd h (by omega),fun h=>absurd h (List.lt_irrefl a)⟩
 ·obtain⟨p,x,y,r,s,rfl,rfl,hxy⟩:=first_diff hl e
  rw [lt_at p x y r s hxy,cmpL_at ha hb hl (i:=p.length) (x:=x) (y:=y) (by simp) (by simp) hxy (by simp)]
  split
  ·exact⟨fun _=>by assumption,fun _=>by omega⟩
  ·exact⟨fun h=>by omega,fun h=>by contradiction⟩
theorem cmpL_gt{a b:List Int}(ha:By a)(hb:By b)(hl:a.length=b.length):0<cmpL a b↔b<a:=by
 by_cases e:a=b
 ·subst e
  rw [cmpL_eq]
  exact⟨fun h=>absurd h (by omega),fun h=>absurd h (List.lt_irrefl a)⟩
 ·obtain⟨p,x,y,r,s,rfl,rfl,hxy⟩:=first_diff hl e
  rw [lt_at p y x s r (fun e=>hxy e.symm),cmpL_at ha hb hl (i:=p.length) (x:=x) (y:=y) (by simp) (by simp) hxy (by simp)]
  split
  ·exact⟨fun h=>by omega,fun h=>by omega⟩
  ·exact⟨fun h=>by omega,fun h=>by omega⟩
end
section
attribute [local simp] wb_bool wb_undef with_lit XL_nil XL_cons XLc_val XLc_call step1_eq stepW_t stepW_f stepC_n stepC_s stepX_s stepX_n stepN_s calleeX xrecv oneV xop_eq xopR_s xopR_n wantedA_eq wantedG_n wantedG_s plain1_int plain1_bool plain1_string bits_i64 bits_u64 bits_u32 bits_u16 bits_u8 xeqA xagg xcmp xarr allK_iv num_iv calleeOf xread xeff xbin xint xnil xun xstr xload xconv xpart xfield xfieldAddr xindexAddr xindex bnd asInt? xslice xlen xmin xmax xbuild xfill xappend xapp2 xappstr xappmk xcap xcopy xcells eval_tmp eval_const put_at put_none fr0_at cells_agg cells_int cells_bool cells_string cells_ptr cells_slice notTuple tab iv_all hget_app hget_app0 hget_cons0 hget_cons set_app set_app0 setR setR_one QL_nil QL_cons QLc_val stepQ_t stepQ_f stepQC_n stepQC_s stepQX_s SL_nil SL_cons SLc_val stepS_t stepS_f ltT ltF leT leF eqT eqF ltTn ltFn leTn leFn eqTn eqFn beqT beqF bneT bneF wi64 wu64 wu32 wu16 wu8 tmodP tdivP hgetL hgetNe hgetEq setL nums_def nums_len Nat.succ_le_of_lt List.getElem?_cons_zero List.getElem?_cons_succ Option.getD_some Int.toNat_add Int.toNat_mul agM okM agB agI agS agP agL agA okB okI okS okP okSl okA nt_strG nt_boolG nt_aggG nt_intG nt_ptrG nt_slG
section
structure Acc (H:AH) (t e:TypeId) (v:Value) (n:Nat) (E:Nat→Value→Prop):Prop where
 nt:notTuple v=true
 cs:v.cells=#[v]
 len:xlen Tryd.prog t v=some (.int .i64 n)
 at_:∀i,i<n→∃p x,notTuple p=true∧xindexAddr Tryd.prog t v (.int .i64 (i:Nat))=some p∧notTuple x=true∧E i x∧∀G:AH,Low H.length H G→xload Tryd.prog e p G=some x
theorem KsV.acc{H:AH}{v:Value}{l:List (List Int)}(h:KsV H v l)(hl:∀k∈l,k.length=32):Acc H 23 26 v l.length (fun i x=>x=.agg (iv .u8 (l.getD i [])).toArray):=by
 refine⟨(val_nt h).1,(val_nt h).2,?_,fun i hi=>?_⟩
 ·have:=val_len (P:=Tryd.prog) (t := 23) (e := 26) h (by simp)
  rw [List.length_map]at this
  exact this
 ·obtain⟨z,hz⟩:∃z,l[i]?=some z:=⟨_,geE hi⟩
  obtain⟨j,b,us,hv,hb,hle,hx,hus,hul,hle2,hc,hval⟩:=val_at (P:=Tryd.prog) (t := 23) (e := 26) (sz:=32) h (by simp) (by simp) (by omega) (fun row hr=>by
   obtain⟨y,hy,rfl⟩:=List.mem_map.1 hr
   unfold kd
   rw [List.length_map]
   exact hl y hy) (i:=i) (row:=kd z) (by rw [gmP,hz];rfl)
  refine⟨_,.agg us.toArray,rfl,hx,rfl,by rw [hval.key];simp [gdD,hz],fun G hg=>?_⟩
  have hbG:hget G j=some b:=(hg.1 j (hget_lt hb)).trans hb
  exact load_at (P:=Tryd.prog) (e := 26) (i:=i) hbG (by simp) (by omega) (by simp) hus hle2
end
end
section
def OpD.no:OpD:=⟨0,0,[],0,[],[],[],ByteArray.empty,[]⟩
def NodeD.no:NodeD:=⟨[],OpD.no,[]⟩
def nd(l:List NodeD)(i:Nat):NodeD:=l.getD i NodeD.no
end
section
def mE(L:List Int):List (Value×Value):=L.map fun z=>(.int .i64 z,.agg #[])
end
section
theorem key_getD{a:List (List Int)}(h:∀k∈a,k.length=32){i:Nat}(hi:i<a.length):(a.getD i []).length=32:=by
 rw [gdD,geE hi]
 exact h _ (List.getElem_mem hi)
end
section
attribute [local simp] wb_bool wb_undef with_lit XL_nil XL_cons XLc_val XLc_call step1_eq stepW_t stepW_f stepC_n stepC_s stepX_s stepX_n stepN_s calleeX xrecv oneV xop_eq xopR_s xopR_n wantedA_eq wantedG_n wantedG_s plain1_int plain1_bool plain1_string bits_i64 bits_u64 bits_u32 bits_u16 bits_u8 xeqA xagg xcmp xarr allK_iv num_iv calleeOf xread xeff xbin xint xnil xun xstr xload xconv xpart xfield xfieldAddr xindexAddr xindex bnd asInt? xslice xlen xmin xmax xbuild xfill xappend xapp2 xappstr xappmk xcap xcopy xcells eval_tmp eval_const put_at put_none fr0_at cells_agg cells_int cells_bool cells_string cells_ptr cells_slice notTuple tab iv_all hget_app hget_app0 hget_cons0 hget_cons set_app set_app0 setR setR_one QL_nil QL_cons QLc_val stepQ_t stepQ_f stepQC_n stepQC_s stepQX_s SL_nil SL_cons SLc_val stepS_t stepS_f ltT ltF leT leF eqT eqF ltTn ltFn leTn leFn eqTn eqFn beqT beqF bneT bneF wi64 wu64 wu32 wu16 wu8 tmodP tdivP hgetL hgetNe hgetEq setL nums_def nums_len Nat.succ_le_of_lt List.getElem?_cons_zero List.getElem?_cons_succ Option.getD_some Int.toNat_add Int.toNat_mul agM okM agB agI agS agP agL agA okB okI okS okP okSl okA nt_strG nt_boolG nt_aggG nt_intG nt_ptrG nt_slG thenQ_ret scopeQ_ret inBlockQ_ret RQ resL resV
section
def CD.flat:CD→Bool | .sl _=>false | _=>true
def CD.fv:CD→Value | .int k z=>.int k z | .str s=>.string s | .bool b=>.bool b | .sl _=>undef
theorem flat_val{H:AH}{d:CD}{x:Value}(hf:d.flat=true)(h:CD.Val H d x):x=d.fv:=by
 cases h with
 | int=>rfl
 | str=>rfl
 | bool=>rfl
 | nil _=>cases hf
 | sl _ _ _ _=>cases hf
theorem val_flat{H:AH}{d:CD}(hf:d.flat=true):CD.Val H d d.fv:=by
 cases d with
 | int=>exact .int
 | str=>exact .str
 | bool=>exact .bool
 | sl=>cases hf
theorem fl_at{β:Type}{L:List (List β)}{n i c:Nat}{row:List β}{d:β}(h:∀r∈L,r.length=n)(hi:L[i]?=some row)(hc:row[c]?=some d):L.flatten[i*n+c]?=some d:=by
 have hr:=h row (moG hi)
 have hcl:=(gsI.1 hc).1
 have:=fl_get h hi
 rw [←this]at hc
 rwa [List.getElem?_take_of_lt (by omega),List.getElem?_drop]at hc
def flatR(rows:List (List CD)):Prop:=∀row∈rows,∀d∈row,d.flat=true
theorem val_cells{H:AH}{rows:List (List CD)}{v:Value}{sz:Nat}(h0:0<sz)(h:CD.Val H (.sl rows) v)(hr:∀row∈rows,row.length=sz)(hf:flatR rows):xcells sz v H=some (rows.flatten.map CD.fv):=by
 cases h with
 | @nil a ha=>
  cases a with
  | none=>rfl
  | some x=>
   obtain⟨j,off,spot⟩:=x
   have hsp:spot=some 0:=ha _ rfl
   subst hsp
   rfl
 | @sl sz' j k _ h1 h2 h3 h4=>
  have hlen:rows.flatten.length=rows.length*sz:=fl_len hr
  have hle:rows.length*sz≤k.cells.length:=by
   cases rows with
   | nil=>simp
   | cons r rs=>
    have e1:=h3 r (by simp)
    have e2:=hr r (by simp)
    rw [←e2,e1];exact h2
  have hx:xcells sz (.slice (some ⟨j,0,none⟩) rows.length rows.length) H=some ((k.cells.drop 0).take (rows.length*sz)):=by
   unfold xcells
   simp only [h1]
   rw [if_pos (by omega)]
  rw [hx,List.drop_zero]
  congr 1
  apply List.ext_getElem?
  intro c
  rcases Nat.lt_or_ge c (rows.length*sz) with hc | hc
  ·have hi:c/sz<rows.length:=Nat.div_lt_of_lt_mul (by rw [Nat.mul_comm];exact hc)
   obtain⟨row,hrow⟩:∃row,rows[c/sz]?=some row:=⟨_,geE hi⟩
   have hrl:=hr row (moG hrow)
   have hrl':=h3 row (moG hrow)
   have hm:=Nat.mod_lt c h0
   obtain⟨d,hd⟩:∃d,row[c%sz]?=some d:=⟨_,geE (by omega)⟩
   have hce:c/sz*sz+c%sz=c:=by rw [Nat.mul_comm];exact Nat.div_add_mod c sz
   have hat:=fl_at hr hrow hd
   rw [hce]at hat
   have hkc:k.cells[c]?=some (k.cells[c]'(by omega)):=geE _
   have hv:=h4 (c/sz) row (c%sz) d _ hrow hd (by rw [show sz'=sz by omega,hce];exact hkc)
   rw [List.getElem?_take_of_lt hc,hkc,flat_val (hf row (moG hrow) d (moG hd)) hv,gmP,hat]
   rfl
  ·rw [List.getElem?_eq_none (by rw [List.length_take];omega),List.getElem?_eq_none (by rw [List.length_map,hlen];omega)]
theorem own_val{G:AH}{v:Value}{e:TypeId}{sz:Nat}{rows:List (List CD)}{F:List Nat}(h0:0<sz)(h:OwnF G v e sz (rows.flatten.map CD.fv) F)(hr:∀row∈rows,row.length=sz)(hf:flatR rows):CD.Val G (.sl rows) v:=by
 have hlen:rows.flatten.length=rows.length*sz:=fl_len hr
 rcases h with ⟨rfl,h1,_⟩ | ⟨j,len,rfl,h2,h3,_⟩
 ·have h4:=congrArg List.length h1
  rw [List.length_map,hlen,List.length_nil]at h4
  have:rows.length=0:=by
   rcases Nat.mul_eq_zero.1 h4 with h | h
   ·exact h
   ·omega
  rw [List.eq_nil_of_length_eq_zero this]
  exact .nil (fun x e=>by cases e)
 ·rw [List.length_map,hlen]at h3
  have:len=rows.length:=(Nat.eq_of_mul_eq_mul_right h0 h3).symm
  subst this
  refine .sl (sz:=sz) h2 (by show _≤(rows.flatten.map CD.fv).length;rw [List.length_map,hlen];exact nlE _) hr (fun i row c d x hi hc hx=>?_)
  have hat:=fl_at hr hi hc
  have hx':(rows.flatten.map CD.fv)[i*sz+c]?=some x:=hx
  rw [gmP,hat]at hx'
  cases hx'
  exact val_flat (hf row (moG hi) d (moG hc))
def clV(v:Value)(n:Nat):Value:=match v with | .slice none _ _=>.slice none 0 0 | .slice (some _) k _=>.slice (some ⟨n+1,0,none⟩) k k | _=>undef
def clN(v:Value):Nat:=match v with | .slice none _ _=>0 | _=>2
theorem val_shape{H:AH}{rows:List (List CD)}{v:Value}(h:CD.Val H (.sl rows) v):(v=.slice none 0 0∧rows=[])∨∃a,v=.slice (some a) rows.length rows.length:=by
 cases h with
 | @nil a ha=>
  cases a with
  | none=>exact .inl ⟨rfl,rfl⟩
  | some x=>exact .inr ⟨x,rfl⟩
 | sl _ _ _ _=>exact .inr ⟨_,rfl⟩
theorem clone_app{P:Program}{nro:Nat}{t e:TypeId}{sz:Nat}{cells:List Value}{H:AH}{a:Addr}{n:Nat}(hu:und P t=.slice e)(hs:szt P e=sz)(h0:0<sz)(hz:(zer P e).map (·.cells.size)=some sz)(hnro:nro≤H.length)
  (hx:xcells sz (.slice (some a) n n) (H++[some ⟨[],e,some sz⟩])=some cells) (hl:cells.length=n*sz) (hb:cells.length*byt P e≤140737488355328) (hm:cells.length≤maxLen) :
  xappend P nro t (.slice (some ⟨H.length,0,none⟩) 0 0) (.slice (some a) n n) (H++[some ⟨[],e,some sz⟩])=some (.slice (some ⟨H.length+1,0,none⟩) n n,H++[none,some ⟨cells,e,some sz⟩]):=by
 subst hs
 have hg:hget (H++[some ⟨[],e,some (szt P e)⟩]) H.length=some ⟨[],e,some (szt P e)⟩:=by rw [hget_app0];rfl
 unfold xappend
 simp only [hu,hx,hg]
 rw [if_pos ⟨trivial,h0,hz,hnro,trivial,trivial,by simp,by simpa using hb,by simpa using hm⟩,hl,Nat.mul_div_cancel _ h0]
 simp
def NewC(H:AH)(v:Value)(e:TypeId)(sz:Nat)(cells:List Value)(v':Value)(H':AH):Prop:=
 v'=clV v H.length∧H'.length=H.length+clN v∧Low H.length H H'∧∃F,OwnF H' v' e sz cells F∧∀j∈F,H.length≤j
theorem kd_flat(ps:List (List Int)):flatR (ps.map kd):=by
 intro row hr d hd
 obtain⟨k,_,rfl⟩:=List.mem_map.1 hr
 obtain⟨z,_,rfl⟩:=List.mem_map.1 hd
 rfl
theorem kd_len{ps:List (List Int)}(h:∀k∈ps,k.length=32):∀row∈ps.map kd,row.length=32:=by
 intro row hr
 obtain⟨k,hk,rfl⟩:=List.mem_map.1 hr
 rw [kd,List.length_map];exact h k hk
def ksC(ps:List (List Int)):List Value:=(ps.map kd).flatten.map CD.fv
theorem ksC_len{ps:List (List Int)}(h:∀k∈ps,k.length=32):(ksC ps).length=ps.length*32:=by unfold ksC;rw [List.length_map,fl_len (kd_len h),List.length_map]
theorem cloneK_ac{nro:Nat}{γ:Nat→Option Nat}{H:AH}{v:Value}{l:List (List Int)}(h:KsV H v l)(hk:∀k∈l,k.length=32)(hnro:nro≤H.length)(hm:l.length≤100000000000):AC Tryd.prog nro γ 99 #[v] H (NewC H v 26 32 (ksC l)):=by
 have hxc:∀G:AH,Low H.length H G→xcells 32 v G=some (ksC l):=fun G hG=>val_cells (by omega) (CD.Val.low (fun j hj=>hG.1 j hj) h) (kd_len hk) (kd_flat l)
 have hcl:=ksC_len hk
 have hsh:=val_shape h
 rw [List.length_map]at hsh
 generalize ksC l=cells at *
 have hb0:Low H.length H (H++[some ⟨[], 26,some 32⟩]):=Low.push (nlE _) _
 refine ac_of_aw Tryd.func99 rfl Tryd.ntmps99 Tryd.results99 (by simp) ?_
 (refine aso fun K hK=>?_;simp (disch:=first|omega|simp only [lnS];try omega);refine hK _ _ ?_;clear hK K)
 refine aw_seq (aw_seq ?_)
 rcases hsh with ⟨rfl,hl0⟩ | ⟨a,rfl⟩
 ·have hl0:l=[]:=List.map_eq_nil_iff.1 hl0
  subst hl0
  have hc0:cells=[]:=List.eq_nil_of_length_eq_zero (by simpa using hcl)
  subst hc0
  (refine aoo fun K hK=>?_;simp (disch:=first|omega|simp only [lnS];try omega);refine hK _ _ ?_;clear hK K)
  refine awt (by simp<;>omega) ?_
  (refine aso fun K hK=>?_;simp (disch:=first|omega|simp only [lnS];try omega);refine hK _ _ ?_;clear hK K)
  (refine aw_ret ?_;simp (disch:=first|omega|simp only [lnS];try omega))
  exact⟨rfl,rfl,Low.refl (nlE _),[],.inl ⟨rfl,rfl,rfl⟩,fun j hj=>by cases hj⟩
 ·have hap:=clone_app (P:=Tryd.prog) (nro:=nro) (t := 23) (e := 26) (sz:=32) (by simp) (by simp) (by omega) (by simp) hnro (hxc _ hb0) hcl (by rw [hcl];simp;omega) (by rw [hcl];simp only [maxLen];omega)
  (refine aoo fun K hK=>?_;simp (disch:=first|omega|simp only [lnS];try omega);refine hK _ _ ?_;clear hK K)
  refine awf (by simp<;>omega) ?_
  refine aw_skip (aw_seq ?_)
  (refine aoo fun K hK=>?_;simp (disch:=first|omega|simp only [lnS];try omega) [-xappend,hap,List.range_zero,List.map_nil];refine hK _ _ ?_;clear hK K)
  (refine aw_ret ?_;simp (disch:=first|omega|simp only [lnS];try omega))
  exact⟨rfl,by simp [clN],⟨fun j hj=>hget_left hj,by simp⟩,[H.length+1],.inr ⟨H.length+1,l.length,rfl,by rw [hget_app];rfl,hcl,rfl⟩,fun j hj=>by simp at hj;omega⟩
end
section
theorem below_grow(w:World)(k:Nat)(os:Array Obj):Below w.heap.size w (Sort.grow (w.drewN k) os):=
  ⟨rfl,rfl,rfl,by show w.heap.size≤(w.heap++os).size;simp,fun b hb=>by show (w.heap++os)[b]?=_;rw [Array.getElem?_append_left hb]⟩
def Pw(γ:Nat→Option Nat)(H:AH):Prop:=∃i ty,γ 1 = some i∧hget H i=some ⟨iv .u64 Lib.pow10Tab,ty,none⟩
theorem Pw.low{γ:Nat→Option Nat}{H G:AH}(h:Pw γ H)(hl:Low H.length H G):Pw γ G:=by
  obtain⟨i,ty,h1,h2⟩:=h
  exact⟨i,ty,h1,(hl.1 i (hget_lt h2)).trans h2⟩
def itoB(n:Int):ByteArray:=⟨(Lib.itoa n).toArray⟩
theorem itoB_size{n:Int}(h0:-9223372036854775808≤n)(h1:n≤9223372036854775807):(itoB n).size≤21:=by
  show (Lib.itoa n).toArray.size≤21
  simp only [List.size_toArray]
  exact Lib.itoa_length_le n h0 h1
theorem itoa_ac{nro:Nat}{γ:Nat→Option Nat}{H:AH}(hp:Pw γ H){n:Int}(h0:-9223372036854775808≤n)(h1:n≤9223372036854775807) :
    AC Tryd.prog nro γ 121 #[.int .i64 n] H (fun v' H'=>v'=.string (itoB n)∧H'=H):=by
  obtain⟨i,ty,hg,hb⟩:=hp
  intro m base w args' hR hsz hva
  obtain⟨y0,hy0,hv0⟩:=hva 0 _ rfl
  obtain rfl:=hv0.int_
  obtain rfl:=one_arg hsz hy0
  refine .inl ⟨by kernel_rfl,(Tryd.strconv_Itoa n h0 h1 w (hR.tab (by kernel_rfl) hg hb)).mono ?_⟩
  rintro e w' ⟨rfl,k,os,rfl⟩
  exact⟨m,_,_,H,rfl,List.prefix_refl _,plainV_mk rfl,hR.below (below_grow w k os),(below_grow w k os).mono hR.base_le,rfl,rfl⟩
theorem bl_bytes{nro:Nat}{γ:Nat→Option Nat}{H:AH}{i b:Nat}{s:ByteArray}{F:List Nat}{l:List Int}{ty:TypeId}(h:Bl H i s F)(hi:nro≤i)(hF:∀j∈F,nro≤j)(hl0:0<l.length)(hbl:By l)
    (hx:hget H b=some ⟨iv .u8 l,ty,none⟩) (hbi:b≠i) (hs1:s.size+l.length≤1000000000) :
    AC Tryd.prog nro γ 152 #[.pointer (some ⟨i,0,none⟩),.slice (some ⟨b,0,none⟩) l.length l.length] H (fun v' H'=>v'=.tuple #[.int .i64 l.length,.nilIface]∧∃F',Bl H' i (s++strOfNums l) F'∧H.length≤H'.length∧(∀j∈F',H.length≤j)∧∀j,j<H.length→j≠i→j∉F→hget H' j=hget H j):=by
  have hlt:=h.lt
  obtain⟨p,v,hp,hg,ho,hn,hz⟩:=h
  obtain⟨H1,hH1⟩:∃H1,H1=H.set i (some ⟨[.pointer (some ⟨i,0,none⟩),v], 244,none⟩):=⟨_,rfl⟩
  have hl1:H1.length=H.length:=by rw [hH1];simp
  have hg1:hget H1 i=some ⟨[.pointer (some ⟨i,0,none⟩),v], 244,none⟩:=by rw [hH1];exact hget_set_eq hlt.1
  have k1:∀j,j≠i→hget H1 j=hget H j:=fun j hj=>by rw [hH1];exact hget_set_ne (Ne.symm hj)
  have ho1:=ho.low (H':=H1) (fun j hj=>k1 j (fun e=>hn (e▸hj)))
  have hx1:=(k1 b hbi).trans hx
  have hxc:xcells 1 (.slice (some ⟨b,0,none⟩) l.length l.length) H1=some (iv .u8 l):=by
    unfold xcells
    simp only [hx1]
    rw [if_pos (by simp)]
    simp only [List.drop_zero,Nat.mul_one]
    rw [tkL (by simp)]
  obtain⟨v',H2,hap,ho2,hl2,hk⟩:=ownF_append (P:=Tryd.prog) (nro:=nro) (t := 114) (e := 5) (H:=H1) (v:=v) (x:=.slice (some ⟨b,0,none⟩) l.length l.length) (sz:=1) (cells:=iv .u8 (nums s)) (news:=iv .u8 l) (F:=F) (by simp) (by simp) (by omega) (by simp) ho1 hF
    (fun s e=>by cases e) hxc (by intro e;have:=congrArg List.length e;rw [iv_length,List.length_nil]at this;omega) (by simp [Nat.mod_one]) (by rw [iv_length,iv_length,nums_len];simp;omega) (by rw [iv_length,iv_length,nums_len];simp [maxLen];omega)
  have hs:=ownF_shape ho
  have hs':=ownF_shape ho2
  have hg2:hget H2 i=some ⟨[.pointer (some ⟨i,0,none⟩),v], 244,none⟩:=(hk i (by omega) hn).trans hg1
  have hiF:i∉[H1.length]:=fun hm=>by have:=msG.1 hm;have:=hlt.1;omega
  have hsn:(strOfNums l).size=l.length:=sn_size l
  have hnF:∀j∈[H1.length],H.length≤j:=fun j hj=>by have:=msG.1 hj;omega
  generalize [H1.length]=FN at *
  have hz2:(s++strOfNums l).size=0→v'=.slice none 0 0:=fun h0=>by
    rw [ByteArray.size_append]at h0
    omega
  refine ac_of_aw Tryd.func152 rfl Tryd.ntmps152 Tryd.results152 (by simp) ?_
  (refine aso fun K hK=>?_;simp (disch:=first|omega|simp only [lnS];try omega);refine hK _ _ ?_;clear hK K)
  refine aso fun K hK=>?_
  simp (disch:=first|omega|simp only [lnS];try omega)
  refine⟨by kernel_rfl,AC.mono (bl_check hp hg hi) ?_⟩
  rintro v1 G ⟨rfl,e⟩
  rw [←hH1]at e
  subst e
  clear hH1
  try simp (disch:=first|omega|simp only [lnS];try omega)
  refine hK _ _ ?_;clear hK K
  (refine aso fun K hK=>?_;simp (disch:=first|omega|simp only [lnS];try omega) [hg1,hg2,hs.1,hs'.1,hs'.2,-notTuple,-xappend,hap];refine hK _ _ ?_;clear hK K)
  (refine aso fun K hK=>?_;simp (disch:=first|omega|simp only [lnS];try omega);refine hK _ _ ?_;clear hK K)
  have hi2:i<H2.length:=hget_lt hg2
  have fin:∃F',Bl (H2.set i (some ⟨[.pointer (some ⟨i,0,none⟩),v'], 244,none⟩)) i (s++strOfNums l) F'∧H.length≤(H2.set i (some ⟨[.pointer (some ⟨i,0,none⟩),v'], 244,none⟩)).length∧(∀j∈F',H.length≤j)∧∀j,j<H.length→j≠i→j∉F→hget (H2.set i (some ⟨[.pointer (some ⟨i,0,none⟩),v'], 244,none⟩)) j=hget H j:=by
   refine⟨FN,⟨.pointer (some ⟨i,0,none⟩),v',.inr rfl,hget_set_eq hi2,?_,hiF,hz2⟩,by simp;omega,hnF,fun j hj hji hjF=>?_⟩
   · have:nums (s++strOfNums l)=nums s++l:=by simp [nums_appF,nums_of l hbl]
     rw [this,iv_append]
     exact ho2.low (fun j hj=>hget_set_ne (fun e=>hiF (e▸hj)))
   · rw [hget_set_ne (Ne.symm hji),hk j (by omega) hjF,k1 j hji]
  generalize H2.set i (some ⟨[.pointer (some ⟨i,0,none⟩),v'], 244,none⟩)=H3 at *
  (refine aw_ret ?_;simp (disch:=first|omega|simp only [lnS];try omega))
  obtain⟨F2,f1,f2,f3,f4⟩:=fin
  exact⟨F2,f1,f3,f4⟩
end
section
def tmKeys:List (List Int)→ByteArray
 | []=>⟨#[]⟩
 | k::r=>strOfNums k++tmKeys r
def tmSp:ByteArray:=⟨#[32]⟩
def tmHead(kind:Int)(s:ByteArray):ByteArray:=itoB kind++tmSp++itoB s.size++tmSp++s
def tmRec(kind:Int)(s:ByteArray)(ks:List (List Int)):ByteArray:=tmHead kind s++tmKeys ks
theorem ba_assoc(a b c:ByteArray):a++b++c=a++(b++c):=by
 apply ByteArray.ext
 simp
theorem ba_nil(a:ByteArray):a++(⟨#[]⟩:ByteArray)=a:=by
 apply ByteArray.ext
 simp
theorem tmKeys_app:∀a b:List (List Int),tmKeys (a++b)=tmKeys a++tmKeys b
 | [],b=>by
  apply ByteArray.ext
  simp [tmKeys]
 | k::r,b=>by
  show strOfNums k++tmKeys (r++b)=strOfNums k++tmKeys r++tmKeys b
  rw [tmKeys_app r b,ba_assoc]
theorem tmKeys_next{ks:List (List Int)}{i:Nat}{k:List Int}(h:ks[i]?=some k):tmKeys (ks.take (i+1))=tmKeys (ks.take i)++strOfNums k:=by
 rw [List.take_add_one,h,tmKeys_app]
 show _++(strOfNums k++(⟨#[]⟩:ByteArray))=_
 rw [ba_nil]
theorem tmKeys_size:∀ {ks:List (List Int)},(∀k∈ks,k.length=32)→(tmKeys ks).size=32*ks.length
 | [],_=>rfl
 | k::r,h=>by
  show (strOfNums k++tmKeys r).size=_
  rw [ByteArray.size_append,sn_size,h k (by simp),tmKeys_size (fun x hx=>h x (by simp [hx]))]
  simp only [List.length_cons]
  omega
theorem tmHead_size{kind:Int}(h0:-9223372036854775808≤kind)(h1:kind≤9223372036854775807){s:ByteArray}(hs:s.size≤100000000):(tmHead kind s).size≤s.size+44:=by
 unfold tmHead
 have e1:tmSp.size=1:=rfl
 have e2:=itoB_size h0 h1
 have e3:=itoB_size (n:=s.size) (by omega) (by omega)
 simp only [ByteArray.size_append]
 omega
theorem tm_new{H:AH}:Bl (H++[some ⟨[.pointer none,.slice none 0 0], 244,none⟩]) H.length ⟨#[]⟩ []:=
 ⟨.pointer none,.slice none 0 0,.inl rfl,by rw [hget_app0];rfl,.inl ⟨rfl,rfl,rfl⟩,by simp,fun _=>rfl⟩
theorem nil_ba(a:ByteArray):(⟨#[]⟩:ByteArray)++a=a:=by
 apply ByteArray.ext
 simp
theorem recipe_rc{γ:Nat→Option Nat}{H:AH}(hp:Pw γ H){kind:Int}(h0:-9223372036854775808≤kind)(h1:kind≤9223372036854775807){s:ByteArray}(hs:s.size≤100000000){v:Value}{ks:List (List Int)}(hK:KsV H v ks)(hk:∀k∈ks,k.length=32)(hy:∀k∈ks,By k)(hm:ks.length≤1000000) :
  AC Tryd.prog H.length γ 123 #[.int .i64 kind,.string s,v] H (fun v' _=>v'=.string (tmRec kind s ks)):=by
 obtain⟨hnt,hvc,hxl,hat⟩:=hK.acc hk
 have hit1:=fun (G:AH) (hl:Low H.length H G)=>itoa_ac (nro:=H.length) (hp.low hl) h0 h1
 have hit2:=fun (G:AH) (hl:Low H.length H G)=>itoa_ac (nro:=H.length) (hp.low hl) (n:=(s.size:Int)) (by omega) (by omega)
 have hhs:=tmHead_size h0 h1 hs
 have z1:=itoB_size h0 h1
 have z2:=itoB_size (n:=s.size) (by omega) (by omega)
 have hh:itoB kind++⟨#[32]⟩++itoB s.size++⟨#[32]⟩++s=tmHead kind s:=rfl
 have hrec:tmRec kind s ks=tmHead kind s++tmKeys ks:=rfl
 generalize tmHead kind s=hd at *
 generalize itoB kind=a1 at *
 generalize itoB s.size=a2 at *
 have sz:∀a b:ByteArray,(a++b).size=a.size+b.size:=fun _ _=>ByteArray.size_append
 have e1:(⟨#[32]⟩:ByteArray).size=1:=rfl
 have c1:a1.size+(⟨#[32]⟩:ByteArray).size≤9223372036854775807:=by rw [e1];omega
 have c2:(a1++(⟨#[32]⟩:ByteArray)).size+a2.size≤9223372036854775807:=by rw [sz,e1];omega
 have c3:(a1++(⟨#[32]⟩:ByteArray)++a2).size+(⟨#[32]⟩:ByteArray).size≤9223372036854775807:=by rw [sz,sz,e1];omega
 have c4:(a1++(⟨#[32]⟩:ByteArray)++a2++(⟨#[32]⟩:ByteArray)).size+s.size≤9223372036854775807:=by rw [sz,sz,sz,e1];omega
 have c5:s.size≤9223372036854775807:=by omega
 refine ac_of_aw Tryd.func123 rfl Tryd.ntmps123 Tryd.results123 (by simp) ?_
 (refine aso fun K hK=>?_;simp (disch:=first|omega|simp only [lnS];try omega);refine hK _ _ ?_;clear hK K)
 (refine aso fun K hK=>?_;simp (disch:=first|omega|simp only [lnS];try omega);refine hK _ _ ?_;clear hK K)
 refine aso fun K hK=>?_
 simp (disch:=first|omega|simp only [lnS];try omega)
 refine⟨by kernel_rfl,AC.mono (hit1 _ (Low.push (nlE _) _)) ?_⟩
 rintro _ G ⟨rfl,rfl⟩
 try simp (disch:=first|omega|simp only [lnS];try omega) [c1,c2,c3,c4,c5,hh]
 refine⟨by kernel_rfl,AC.mono (hit2 _ (Low.push (nlE _) _)) ?_⟩
 rintro _ G ⟨rfl,rfl⟩
 try simp (disch:=first|omega|simp only [lnS];try omega) [c1,c2,c3,c4,c5,hh]
 refine⟨by kernel_rfl,AC.mono (bl_write (t:=hd) (tm_new (H:=H)) (nlE _) (by simp) (by show 0+hd.size≤_;omega)) ?_⟩
 rintro _ G ⟨rfl,F,hbl,hlen,hF,hkeep⟩
 rw [nil_ba]at hbl
 rw [laP]at hlen hF hkeep
 have hlow:Low H.length H G:=⟨fun j hj=>(hkeep j (by omega) (by omega) (fun h=>by cases h)).trans (hget_left hj),by omega⟩
 have hF1:∀j∈F,H.length≤j:=fun j hj=>by have:=hF j hj;omega
 clear hkeep hF hlen
 try simp (disch:=first|omega|simp only [lnS];try omega)
 refine hK _ _ ?_;clear hK K
 refine aw_seq (aw_seq ?_)
 (refine aoo fun K hK=>?_;simp (disch:=first|omega|simp only [lnS];try omega) [-notTuple,hnt,hvc,-xlen,hxl];refine hK _ _ ?_;clear hK K)
 refine aw_block ?_
 refine aw_loop (fun c α G=>∃ (i:Nat) (F:List Nat),i+c=ks.length∧α 7=.pointer (some ⟨H.length,0,none⟩)∧α 21=v∧α 22=.int .i64 (ks.length:Nat)∧α 23=.int .i64 (i:Nat) ∧
  Low H.length H G∧Bl G H.length (hd++tmKeys (ks.take i)) F∧∀j∈F,H.length≤j) ks.length ?_ ?_
 ·refine⟨0,F,by omega,by (first|simp;done|rfl),by (first|simp;done|rfl),by (first|simp;done|rfl),by (first|simp;done|rfl),hlow,?_,hF1⟩
  rw [List.take_zero]
  show Bl G H.length (hd++(⟨#[]⟩:ByteArray)) F
  rw [ba_nil]
  exact hbl
 clear hbl hlow hF1 F G
 rintro c α G ⟨i,F,hic,g7,g21,g22,g23,hlow,hbl,hF⟩
 have hblt:=hbl.lt
 refine aw_seq ?_
 by_cases hi:i<ks.length
 case neg=>
  (refine aoo fun K hK=>?_;simp (disch:=first|omega|simp only [lnS];try omega) [g22,g23,hi];refine hK _ _ ?_;clear hK K)
  refine aw_seq ?_
  refine awf (by simp [hi]<;>omega) ?_
  refine aw_exit ?_
  have hall:ks.take i=ks:=tkL (by omega)
  rw [hall,←hrec]at hbl
  refine aso fun K hK=>?_
  simp (disch:=first|omega|simp only [lnS];try omega) [g7]
  refine⟨by kernel_rfl,AC.mono (bl_string hbl (nlE _) hF) ?_⟩
  rintro _ G2 ⟨rfl,_,_⟩
  try simp (disch:=first|omega|simp only [lnS];try omega)
  refine hK _ _ ?_;clear hK K
  (refine aw_ret ?_;simp (disch:=first|omega|simp only [lnS];try omega))
 (refine aoo fun K hK=>?_;simp (disch:=first|omega|simp only [lnS];try omega) [g22,g23,hi];refine hK _ _ ?_;clear hK K)
 refine aw_seq ?_
 refine awt (by simp [hi]<;>omega) ?_
 refine aw_skip (aw_seq ?_)
 refine aw_block ?_
 obtain⟨p,x,q1,q2,q3,rfl,q4⟩:=hat i hi
 have q4:=q4 G hlow
 have ly:=key_getD hk hi
 obtain⟨y,hy'⟩:∃y,y=ks.getD i []:=⟨_,rfl⟩
 have hky:ks[i]?=some y:=by rw [hy',gdD,geE hi];rfl
 have hby:By y:=hy y (moG hky)
 rw [←hy']at q4 ly
 have hnx:=tmKeys_next hky
 have tly:(iv .u8 y).take 32=iv .u8 y:=tkL (by simp [ly])
 have sly:setR (iv .u8 (zl 32)) 0 (iv .u8 y)=iv .u8 y:=setR_all _ _ (by simp [ly])
 (refine aso fun K hK=>?_;simp (disch:=first|omega|simp only [lnS];try omega) [g7,g21,g22,g23,-notTuple,hnt,hvc,q1,-xindexAddr,q2,-xload,q4,ly,tly,sly];refine hK _ _ ?_;clear hK K)
 refine aoo fun K hK=>?_
 simp (disch:=first|omega|simp only [lnS];try omega) [g7,ly,tly,sly]
 have hwr:=bl_bytes (nro:=H.length) (γ:=γ) (H:=G++[some ⟨iv .u8 y, 26,none⟩]) (i:=H.length) (b:=G.length) (s:=hd++tmKeys (ks.take i)) (F:=F) (l:=y) (ty := 26) (hbl.low (hget_left hblt.1) (fun j hj=>hget_left (hblt.2 j hj))) (nlE _) hF (by omega) hby (by rw [hget_app0];rfl) (by have:=hblt.1;omega)
  (by rw [ByteArray.size_append,tmKeys_size (fun k hk'=>hk k (List.mem_of_mem_take hk')),List.length_take];omega)
 rw [ly]at hwr
 refine⟨by kernel_rfl,AC.mono hwr ?_⟩
 rintro _ G2 ⟨rfl,F2,hbl2,hlen,hF2,hkeep⟩
 rw [laP]at hlen hF2 hkeep
 rw [ba_assoc,←hnx]at hbl2
 have hlow2:Low H.length H G2:=⟨fun j hj=>(hkeep j (by have:=hlow.2;omega) (by omega) (fun h=>by have:=hF j h;omega)).trans ((hget_left (by have:=hlow.2;omega)).trans (hlow.1 j hj)),by have:=hlow.2;omega⟩
 have hF3:∀j∈F2,H.length≤j:=fun j hj=>by have:=hF2 j hj;have:=hlow.2;omega
 clear hkeep hwr
 try simp (disch:=first|omega|simp only [lnS];try omega)
 refine hK _ _ ?_;clear hK K
 (refine aoo fun K hK=>?_;simp (disch:=first|omega|simp only [lnS];try omega) [g23];refine hK _ _ ?_;clear hK K)
 exact⟨c-1,by omega,i+1,F2,by omega,by (first|simp [g7];done|rfl),by (first|simp [g21];done|rfl),by (first|simp [g22];done|rfl),by (first|simp;done|rfl),hlow2,hbl2,hF3⟩
end
section
def kr(l:List (List Int)):List Value:=(l.map (iv .u8)).flatten
theorem ksC_kr(l:List (List Int)):ksC l=kr l:=by
 unfold ksC kr
 induction l with
 | nil=>rfl
 | cons k l ih=>
  rw [List.map_cons,List.flatten_cons,List.map_append,ih,List.map_cons,List.flatten_cons]
  congr 1
  simp [kd,iv,CD.fv]
theorem kr_app(a b:List (List Int)):kr (a++b)=kr a++kr b:=by simp [kr]
theorem kr_one(k:List Int):kr [k]=iv .u8 k:=by simp [kr]
def K32(l:List (List Int)):Prop:=∀k∈l,k.length=32
theorem kr_rows{l:List (List Int)}(h:K32 l):∀r∈l.map (iv .u8),r.length=32:=fun r hr=>by
 obtain⟨k,hk,rfl⟩:=List.mem_map.1 hr
 rw [iv_length];exact h k hk
theorem kr_len{l:List (List Int)}(h:K32 l):(kr l).length=l.length*32:=by unfold kr;rw [fl_len (kr_rows h),List.length_map]
theorem kr_get{l:List (List Int)}(h:K32 l){j:Nat}{k:List Int}(hj:l[j]?=some k):((kr l).drop (j*32)).take 32=iv .u8 k:=fl_get (kr_rows h) (by rw [gmP,hj];rfl)
theorem kr_addr{n b j:Nat}(hj:j<n):xindexAddr Tryd.prog 23 (.slice (some ⟨b,0,none⟩) n n) (.int .i64 (j:Nat))=some (.pointer (some ⟨b,j*32,none⟩)):=by
 have h1:und Tryd.prog 23 = .slice 26 := by kernel_rfl
 have h2:szt Tryd.prog 26 = 32:=by kernel_rfl
 unfold xindexAddr
 simp only [h1,h2]
 rw [if_pos ⟨by omega,by omega,by omega⟩]
 simp
theorem kr_load{G:AH}{b j:Nat}{l:List (List Int)}{k:List Int}(h:K32 l)(hj:l[j]?=some k)(hb:hget G b=some ⟨kr l, 26,some 32⟩):xload Tryd.prog 26 (.pointer (some ⟨b,j*32,none⟩)) G=some (.agg (iv .u8 k).toArray):=by
 have hl:=(gsI.1 hj).1
 refine load_at (sz:=32) hb (by kernel_rfl) (by omega) (by kernel_rfl) (kr_get h hj).symm ?_
 show _≤(kr l).length
 rw [kr_len h]
 have:(j+1)*32≤l.length*32:=Nat.mul_le_mul_right _ hl
 omega
end
end
section
def valD(l:List UInt8):Nat:=l.foldl (fun a c=>10*a+(c.toNat-48)) 0
theorem valD_snoc(l:List UInt8)(c:UInt8):valD (l++[c])=10*valD l+(c.toNat-48):=by simp [valD]
theorem dig8{d:Nat}(h:d<10):(UInt8.ofNat (48+d)).toNat=48+d:=by
 rw [UInt8.toNat_ofNat']
 omega
theorem dec_val(u:Nat):valD (Lib.decDigits u)=u∧∀c∈Lib.decDigits u,c≠32:=by
 induction u using Nat.strongRecOn with
 | ind u ih=>
  rw [Lib.decDigits]
  by_cases h:u<10
  ·rw [dif_pos h]
   refine⟨?_,fun c hc=>?_⟩
   ·show 10*0+((UInt8.ofNat (48+u)).toNat-48)=u
    rw [dig8 h];omega
   ·rw [msG.1 hc]
    intro e
    have:=congrArg UInt8.toNat e
    rw [dig8 h]at this
    have h32:(32:UInt8).toNat=32:=rfl
    omega
  ·rw [dif_neg h]
   obtain⟨h1,h2⟩:=ih (u/10) (by omega)
   refine⟨?_,fun c hc=>?_⟩
   ·rw [valD_snoc,h1,dig8 (by omega)];omega
   ·rcases maP.1 hc with hc | hc
    ·exact h2 c hc
    ·rw [msG.1 hc]
     intro e
     have:=congrArg UInt8.toNat e
     rw [dig8 (by omega)]at this
     have h32:(32:UInt8).toNat=32:=rfl
     omega
theorem dec_inj{a b:Nat}(h:Lib.decDigits a=Lib.decDigits b):a=b:=by rw [←(dec_val a).1,h,(dec_val b).1]
theorem split_sp:∀ {a a' r r':List UInt8},(∀c∈a,c≠32)→(∀c∈a',c≠32)→a++32::r=a'++32::r'→a=a'∧r=r'
 | [],[],_,_,_,_,h=>⟨rfl,(List.cons.inj h).2⟩
 | [],c::a',_,_,_,h2,h=>absurd (List.cons.inj h).1.symm (h2 c (by simp))
 | c::a,[],_,_,h1,_,h=>absurd (List.cons.inj h).1 (h1 c (by simp))
 | c::a,d::a',r,r',h1,h2,h=>by
  obtain⟨e1,e2⟩:=List.cons.inj h
  obtain⟨e3,e4⟩:=split_sp (fun x hx=>h1 x (by simp [hx])) (fun x hx=>h2 x (by simp [hx])) e2
  exact⟨by rw [e1,e3],e4⟩
def baL(s:ByteArray):List UInt8:=s.data.toList
theorem baL_app(a b:ByteArray):baL (a++b)=baL a++baL b:=by simp [baL]
theorem baL_inj{a b:ByteArray}(h:baL a=baL b):a=b:=by
 apply ByteArray.ext
 exact Array.ext' h
theorem baL_len(a:ByteArray):(baL a).length=a.size:=rfl
theorem tmKeys_inj:∀ {a b:List (List Int)},(∀k∈a,k.length=32)→(∀k∈b,k.length=32)→(∀k∈a,By k)→(∀k∈b,By k)→baL (tmKeys a)=baL (tmKeys b)→a=b
 | [],[],_,_,_,_,_=>rfl
 | [],k::r,_,h2,_,_,h=>by
  have:=congrArg List.length h
  rw [baL_len,baL_len,tmKeys_size (by simp),tmKeys_size h2]at this
  simp at this
 | k::r,[],h1,_,_,_,h=>by
  have:=congrArg List.length h
  rw [baL_len,baL_len,tmKeys_size h1,tmKeys_size (by simp)]at this
  simp at this
 | k::r,k'::r',h1,h2,b1,b2,h=>by
  have e:baL (strOfNums k)++baL (tmKeys r)=baL (strOfNums k')++baL (tmKeys r'):=by
   rw [←baL_app,←baL_app];exact h
  obtain⟨e1,e2⟩:=List.append_inj e (by rw [baL_len,baL_len,sn_size,sn_size,h1 k (by simp),h2 k' (by simp)])
  have e3:=sn_inj (b1 k (by simp)) (b2 k' (by simp)) (baL_inj e1)
  rw [e3,tmKeys_inj (fun x hx=>h1 x (by simp [hx])) (fun x hx=>h2 x (by simp [hx])) (fun x hx=>b1 x (by simp [hx])) (fun x hx=>b2 x (by simp [hx])) e2]
theorem tmRec_list{k:Nat}{s:ByteArray}{ks:List (List Int)}:baL (tmRec k s ks)=Lib.decDigits k++32::(Lib.decDigits s.size++32::(baL s++baL (tmKeys ks))):=by
 unfold tmRec tmHead itoB
 rw [baL_app,baL_app,baL_app,baL_app,baL_app,Lib.itoa_nonneg,Lib.itoa_nonneg]
 show Lib.decDigits k++[32]++Lib.decDigits s.size++[32]++baL s++baL (tmKeys ks)=_
 simp
theorem tmRec_inj{k k':Nat}{s s':ByteArray}{ks ks':List (List Int)}(h1:∀k∈ks,k.length=32)(h2:∀k∈ks',k.length=32)(b1:∀k∈ks,By k)(b2:∀k∈ks',By k)(h:tmRec k s ks=tmRec k' s' ks'):k=k'∧s=s'∧ks=ks':=by
 have e:=congrArg baL h
 rw [tmRec_list,tmRec_list]at e
 obtain⟨e1,e2⟩:=split_sp (dec_val k).2 (dec_val k').2 e
 obtain⟨e3,e4⟩:=split_sp (dec_val _).2 (dec_val _).2 e2
 have e5:=dec_inj e3
 obtain⟨e6,e7⟩:=List.append_inj e4 (by rw [baL_len,baL_len,e5])
 exact⟨dec_inj e1,baL_inj e6,tmKeys_inj h1 h2 b1 b2 e7⟩
end
section
theorem kr_ksv{G:AH}{v:Value}{F:List Nat}{ps:List (List Int)}(h:OwnF G v 26 32 (kr ps) F)(hk:K32 ps):KsV G v ps:=by
 rw [←ksC_kr]at h
 exact own_val (by omega) h (kd_len hk) (kd_flat ps)
end
section
def sE:Nat→List ByteArray→List (Value×Value)
 | _,[]=>[]
 | n,s::L=>(.string s,.int .i64 (n:Nat))::sE (n+1) L
def idxS(s:ByteArray):List ByteArray→Option Nat
 | []=>none
 | x::L=>if s=x then some 0 else (idxS s L).map (·+1)
theorem idxS_some{s:ByteArray}:∀ {L:List ByteArray} {i:Nat},idxS s L=some i→L[i]?=some s
 | [],i,h=>by cases h
 | x::L,i,h=>by
  unfold idxS at h
  by_cases e:s=x
  ·rw [if_pos e]at h
   cases h
   rw [e];rfl
  ·rw [if_neg e]at h
   cases hr:idxS s L with
   | none=>rw [hr]at h;cases h
   | some j=>
    rw [hr]at h
    cases h
    rw [List.getElem?_cons_succ]
    exact idxS_some hr
theorem ba_beq(a b:ByteArray):(a==b)=decide (a=b):=by
 obtain⟨a⟩:=a
 obtain⟨b⟩:=b
 show (a==b)=_
 rw [Bool.eq_iff_iff]
 simp
theorem mfind_sE(s:ByteArray):∀ (L:List ByteArray) (n:Nat),mfind (.string s) (sE n L)=idxS s L
 | [],_=>rfl
 | x::L,n=>by
  have hm:mfind (.string s) (sE n (x::L))=if keyEq (.string s) (.string x)=true then some 0 else (mfind (.string s) (sE (n+1) L)).map (·+1):=rfl
  have hk:keyEq (.string s) (.string x)=(s==x):=rfl
  have hi:idxS s (x::L)=if s=x then some 0 else (idxS s L).map (·+1):=rfl
  rw [hm,hk,mfind_sE s L (n+1),hi,ba_beq]
  by_cases e:s=x
  ·rw [if_pos e,if_pos (by simp [e])]
  ·rw [if_neg e,if_neg (by simp [e])]
theorem sE_get:∀ (L:List ByteArray) (n i:Nat) (s:ByteArray),L[i]?=some s→(sE n L)[i]?=some (.string s,.int .i64 ((n+i:Nat):Int))
 | [],_,i,s,h=>by cases h
 | x::L,n,0,s,h=>by cases h;rfl
 | x::L,n,i+1,s,h=>by
  show (sE (n+1) L)[i]?=_
  rw [sE_get L (n+1) i s h]
  congr 4
  omega
theorem mget_sE(s:ByteArray)(L:List ByteArray):mget (.string s) (sE 0 L)=(idxS s L).map fun i=>.int .i64 (i:Nat):=by
 unfold mget
 rw [mfind_sE]
 cases h:idxS s L with
 | none=>rfl
 | some i=>
  show ((sE 0 L)[i]?).map (·.2)=_
  rw [sE_get L 0 i s (idxS_some h),Nat.zero_add];rfl
theorem sE_snoc:∀ (L:List ByteArray) (n:Nat) (s:ByteArray),sE n (L++[s])=sE n L++[(.string s,.int .i64 ((n+L.length:Nat):Int))]
 | [],n,s=>rfl
 | x::L,n,s=>by
  show (_::sE (n+1) (L++[s]))=_::(sE (n+1) L++_)
  rw [sE_snoc L (n+1) s,show n+1+L.length=n+(x::L).length by simp only [List.length_cons];omega]
theorem mput_sE{s:ByteArray}{L:List ByteArray}(h:idxS s L=none):mput (.string s) (.int .i64 (L.length:Nat)) (sE 0 L)=sE 0 (L++[s]):=by
 unfold mput
 rw [mfind_sE,h,sE_snoc,Nat.zero_add]
theorem str_ok(s:ByteArray):keyOk Tryd.prog 9 (.string s)=true:=by
 have h2:und Tryd.prog 9 = .string:=by kernel_rfl
 unfold keyOk
 simp only [h2]
theorem sE_ok:∀ (L:List ByteArray) (n:Nat),mapOk Tryd.prog 9 (sE n L)=true
 | [],_=>rfl
 | x::L,n=>by
  show (keyOk Tryd.prog 9 (.string x)&&mapOk Tryd.prog 9 (sE (n+1) L))=true
  rw [str_ok,sE_ok L (n+1)];rfl
theorem tm_make(H:AH):xmakeMap Tryd.prog 161 none H=some (.map (some H.length),H++[some (mblk 161 (sE 0 []))]):=by
 have h1:und Tryd.prog 161 = .map 9 3 := by kernel_rfl
 unfold xmakeMap
 simp only [h1]
 rfl
theorem tm_put{nro:Nat}{H:AH}{mb:Nat}{L:List ByteArray}{s:ByteArray}(hm:hget H mb=some (mblk 161 (sE 0 L)))(hn:nro≤mb)(h:idxS s L=none):xmapUpd Tryd.prog nro 161 (.map (some mb)) (.string s) (.int .i64 (L.length:Nat)) H=some (undef,H.set mb (some (mblk 161 (sE 0 (L++[s]))))):=by
 have h1:und Tryd.prog 161 = .map 9 3 := by kernel_rfl
 unfold xmapUpd
 simp only [h1,hm,ents_mblk,str_ok,sE_ok]
 rw [if_pos ⟨hn,trivial,trivial,rfl⟩,mblk_ty,mput_sE h]
theorem tm_look{H:AH}{mb:Nat}{L:List ByteArray}(hm:hget H mb=some (mblk 161 (sE 0 L)))(s:ByteArray):xlookup Tryd.prog 161 (.map (some mb)) (.string s) true H=some (match idxS s L with | some i=>.tuple #[.int .i64 (i:Nat),.bool true] | none=>.tuple #[.int .i64 0,.bool false]):=by
 have h1:und Tryd.prog 161 = .map 9 3 := by kernel_rfl
 have h4:zer Tryd.prog 3 = some (.int .i64 0):=by kernel_rfl
 have h5:plain2 (.int .i64 0)=true:=rfl
 unfold xlookup
 simp only [h1,hm,Option.bind_some,ents_mblk,str_ok,sE_ok,mget_sE]
 cases idxS s L with
 | none=>simp [h4,h5]
 | some i=>simp
structure TermD where
 kind:Nat
 text:ByteArray
 keys:List (List Int)
structure TermD.Wf (x:TermD):Prop where
 kind:x.kind≤6
 text:x.text.size≤100000000
 k32:∀k∈x.keys,k.length=32
 by_:∀k∈x.keys,By k
 many:x.keys.length≤1000000
 pub:x.kind=3→x.keys.length=1
 agree:x.kind=4→x.keys.length=2
 seal_:x.kind=6→2≤x.keys.length
def TermD.rec_(x:TermD):ByteArray:=tmRec x.kind x.text x.keys
theorem TermD.inj{x y:TermD}(hx:x.Wf)(hy:y.Wf)(h:x.rec_=y.rec_):x=y:=by
 obtain⟨a,b,c⟩:=x
 obtain⟨a',b',c'⟩:=y
 obtain⟨rfl,rfl,rfl⟩:=tmRec_inj hx.k32 hy.k32 hx.by_ hy.by_ h
 rfl
def placeT(x:TermD)(T:List TermD):Option Nat:=idxS x.rec_ (T.map TermD.rec_)
def addT(x:TermD)(T:List TermD):List TermD:=match placeT x T with | some _=>T | none=>T++[x]
def nameT(x:TermD)(T:List TermD):Nat:=match placeT x T with | some i=>i | none=>T.length
theorem place_some{x:TermD}{T:List TermD}{i:Nat}(hx:x.Wf)(hT:∀y∈T,y.Wf)(h:placeT x T=some i):T[i]?=some x:=by
 have:=idxS_some h
 rw [gmP]at this
 cases hy:T[i]? with
 | none=>rw [hy]at this;cases this
 | some y=>
  rw [hy]at this
  have e:y.rec_=x.rec_:=Option.some.inj this
  rw [TermD.inj (hT y (moG hy)) hx e]
def tmRow(kv:Value)(x:TermD):List Value:=[.int .i64 (x.kind:Nat),.string x.text,kv]
def tmRows(L:List (Value×TermD)):List Value:=(L.map fun p=>tmRow p.1 p.2).flatten
structure TblF (H:AH) (b mb:Nat) (tv:Value) (Ft F:List Nat) (L:List (Value×TermD)):Prop where
 hb:hget H b=some ⟨[tv,.map (some mb)], 209,none⟩
 hm:hget H mb=some (mblk 161 (sE 0 ((L.map (·.2)).map TermD.rec_)))
 rows:OwnF H tv 216 3 (tmRows L) Ft
 keys:∀p∈L,∃Fk,OwnF H p.1 26 32 (kr p.2.keys) Fk∧∀j∈Fk,j∈F
 wf:∀p∈L,p.2.Wf
 bm:b≠mb
 bt:b∉Ft
 mt:mb∉Ft
 fb:b∉F
 fm:mb∉F
 ft:∀j∈Ft,j∉F
def Tbl(H:AH)(b:Nat)(F:List Nat)(T:List TermD):Prop:=∃mb tv Ft Fk L,T=L.map (·.2)∧TblF H b mb tv Ft Fk L∧F=b::mb::(Ft++Fk)∧∀j∈F,j<H.length
theorem TblF.low{H G:AH}{b mb:Nat}{tv:Value}{Ft F:List Nat}{L:List (Value×TermD)}(h:TblF H b mb tv Ft F L)(hl:∀j∈b::mb::(Ft++F),hget G j=hget H j):TblF G b mb tv Ft F L:=
 ⟨(hl b (by simp)).trans h.hb,(hl mb (by simp)).trans h.hm,h.rows.low (fun j hj=>hl j (by simp [hj])),fun p hp=>by
  obtain⟨Fk,h1,h2⟩:=h.keys p hp
  exact⟨Fk,h1.low (fun j hj=>hl j (by simp [h2 j hj])),h2⟩,h.wf,h.bm,h.bt,h.mt,h.fb,h.fm,h.ft⟩
theorem Tbl.low{H G:AH}{b:Nat}{F:List Nat}{T:List TermD}(h:Tbl H b F T)(hl:∀j∈F,hget G j=hget H j)(hle:H.length≤G.length):Tbl G b F T:=by
 obtain⟨mb,tv,Ft,Fk,L,h1,h2,h3,h4⟩:=h
 subst h3
 exact⟨mb,tv,Ft,Fk,L,h1,h2.low hl,rfl,fun j hj=>Nat.lt_of_lt_of_le (h4 j hj) hle⟩
end
section
attribute [local simp] wb_bool wb_undef with_lit XL_nil XL_cons XLc_val XLc_call step1_eq stepW_t stepW_f stepC_n stepC_s stepX_s stepX_n stepN_s calleeX xrecv oneV xop_eq xopR_s xopR_n wantedA_eq wantedG_n wantedG_s plain1_int plain1_bool plain1_string bits_i64 bits_u64 bits_u32 bits_u16 bits_u8 xeqA xagg xcmp xarr allK_iv num_iv calleeOf xread xeff xbin xint xnil xun xstr xload xconv xpart xfield xfieldAddr xindexAddr xindex bnd asInt? xslice xlen xmin xmax xbuild xfill xappend xapp2 xappstr xappmk xcap xcopy xcells eval_tmp eval_const put_at put_none fr0_at cells_agg cells_int cells_bool cells_string cells_ptr cells_slice notTuple tab iv_all hget_app hget_app0 hget_cons0 hget_cons set_app set_app0 setR setR_one QL_nil QL_cons QLc_val stepQ_t stepQ_f stepQC_n stepQC_s stepQX_s SL_nil SL_cons SLc_val stepS_t stepS_f ltT ltF leT leF eqT eqF ltTn ltFn leTn leFn eqTn eqFn beqT beqF bneT bneF wi64 wu64 wu32 wu16 wu8 tmodP tdivP hgetL hgetNe hgetEq setL nums_def nums_len Nat.succ_le_of_lt List.getElem?_cons_zero List.getElem?_cons_succ Option.getD_some Int.toNat_add Int.toNat_mul agM okM agB agI agS agP agL agA okB okI okS okP okSl okA nt_strG nt_boolG nt_aggG nt_intG nt_ptrG nt_slG XO_s XO_z XLk_val XLk_call headsO behind List.length_cons List.length_nil List.mem_cons List.not_mem_nil or_false forall_eq_or_imp forall_eq List.contains_cons List.contains_nil thenQ_ret scopeQ_ret inBlockQ_ret RQ resL resV
section
theorem tmRows_rows(L:List (Value×TermD)):∀r∈L.map (fun p=>tmRow p.1 p.2),r.length=3:=fun r hr=>by
 obtain⟨p,_,rfl⟩:=List.mem_map.1 hr
 rfl
theorem tmRows_len(L:List (Value×TermD)):(tmRows L).length=L.length*3:=by
 unfold tmRows
 rw [fl_len (tmRows_rows L),List.length_map]
theorem tmRows_get{L:List (Value×TermD)}{i:Nat}{p:Value×TermD}(h:L[i]?=some p):((tmRows L).drop (i*3)).take 3=tmRow p.1 p.2:=
 fl_get (tmRows_rows L) (by rw [gmP,h];rfl)
theorem tmRows_snoc(L:List (Value×TermD))(p:Value×TermD):tmRows (L++[p])=tmRows L++tmRow p.1 p.2:=by simp [tmRows]
theorem tm_addr{n b j:Nat}(hj:j<n):xindexAddr Tryd.prog 160 (.slice (some ⟨b,0,none⟩) n n) (.int .i64 (j:Nat))=some (.pointer (some ⟨b,j*3,none⟩)):=by
 have h1:und Tryd.prog 160 = .slice 216 := by kernel_rfl
 have h2:szt Tryd.prog 216 = 3:=by kernel_rfl
 unfold xindexAddr
 simp only [h1,h2]
 rw [if_pos ⟨by omega,by omega,by omega⟩]
 simp
theorem tm_load{G:AH}{b j:Nat}{L:List (Value×TermD)}{p:Value×TermD}(hj:L[j]?=some p)(hb:hget G b=some ⟨tmRows L, 216,some 3⟩):xload Tryd.prog 216 (.pointer (some ⟨b,j*3,none⟩)) G=some (.agg (tmRow p.1 p.2).toArray):=by
 have hl:=(gsI.1 hj).1
 refine load_at (sz:=3) hb (by kernel_rfl) (by omega) (by kernel_rfl) (tmRows_get hj).symm ?_
 show _≤(tmRows L).length
 rw [tmRows_len]
 have:(j+1)*3≤L.length*3:=Nat.mul_le_mul_right _ hl
 omega
theorem TblF.at_{H:AH}{b mb:Nat}{tv:Value}{Ft F:List Nat}{L:List (Value×TermD)}(h:TblF H b mb tv Ft F L){i:Nat}{p:Value×TermD}(hi:L[i]?=some p):∃q,xindexAddr Tryd.prog 160 tv (.int .i64 (i:Nat))=some q∧notTuple q=true∧∀N:AH,xload Tryd.prog 216 q (H++N)=some (.agg (tmRow p.1 p.2).toArray):=by
 have hl:=(gsI.1 hi).1
 have hr:=tmRows_len L
 rcases h.rows with ⟨_,h2,_⟩ | ⟨j,len,rfl,h2,h3,_⟩
 ·rw [h2]at hr
  simp at hr
  omega
 ·have:len=L.length:=by omega
  subst this
  exact⟨_,tm_addr hl,rfl,fun N=>tm_load hi ((hget_left (hget_lt h2)).trans h2)⟩
theorem TblF.tvlen{H:AH}{b mb:Nat}{tv:Value}{Ft F:List Nat}{L:List (Value×TermD)}(h:TblF H b mb tv Ft F L):xlen Tryd.prog 160 tv=some (.int .i64 (L.length:Nat))∧notTuple tv=true∧tv.cells=#[tv]:=by
 refine⟨h.rows.len (by kernel_rfl) (tmRows_len L) (by omega),?_,?_⟩
 all_goals rcases h.rows with ⟨rfl,_,_⟩ | ⟨j,len,rfl,_,_,_⟩ <;> rfl
theorem TblF.key_nt{H:AH}{b mb:Nat}{tv:Value}{Ft F:List Nat}{L:List (Value×TermD)}(h:TblF H b mb tv Ft F L){p:Value×TermD}(hp:p∈L):notTuple p.1=true∧p.1.cells=#[p.1]:=by
 obtain⟨Fk,h1,_⟩:=h.keys p hp
 rcases h1 with ⟨e,_,_⟩ | ⟨j,len,e,_,_,_⟩ <;> rw [e] <;> exact⟨rfl,rfl⟩
theorem tlen_rc{γ:Nat→Option Nat}{H:AH}{b mb n:Nat}{tv:Value}(hb:hget H b=some ⟨[tv,.map (some mb)], 209,none⟩)(hl:xlen Tryd.prog 160 tv=some (.int .i64 (n:Nat)))(hnt:notTuple tv=true)(hcs:tv.cells=#[tv]):AC Tryd.prog H.length γ 130 #[.pointer (some ⟨b,0,none⟩)] H (fun v' _=>v'=.int .i64 (n:Nat)):=by
 refine ac_of_aw Tryd.func130 rfl Tryd.ntmps130 Tryd.results130 (by simp) ?_
 (refine aso fun K hK=>?_;simp (disch:=first|omega|simp only [lnS];try omega);refine hK _ _ ?_;clear hK K)
 refine aw_seq (aw_seq ?_)
 (refine aoo fun K hK=>?_;simp (disch:=first|omega|simp only [lnS];try omega);refine hK _ _ ?_;clear hK K)
 refine awf (by simp<;>omega) ?_
 refine aw_skip (aw_seq ?_)
 (refine aoo fun K hK=>?_;simp (disch:=first|omega|simp only [lnS];try omega) [hb,-notTuple,hnt,-xlen,hl];refine hK _ _ ?_;clear hK K)
 (refine aw_ret ?_;simp (disch:=first|omega|simp only [lnS];try omega))
theorem tnew_ac{nro:Nat}{γ:Nat→Option Nat}{H:AH}(hnro:nro≤H.length):AC Tryd.prog nro γ 68 #[] H (fun v' H'=>v'=.pointer (some ⟨H.length+1,0,none⟩)∧Low H.length H H'∧TblF H' (H.length+1) H.length (.slice none 0 0) [] [] []):=by
 have hmk:=tm_make
 refine ac_of_aw Tryd.func68 rfl Tryd.ntmps68 Tryd.results68 (by simp) ?_
 (refine aso fun K hK=>?_;simp (disch:=first|omega|simp only [lnS];try omega);refine hK _ _ ?_;clear hK K)
 (refine aso fun K hK=>?_;simp (disch:=first|omega|simp only [lnS];try omega) [hmk];refine hK _ _ ?_;clear hK K)
 (refine aw_ret ?_;simp (disch:=first|omega|simp only [lnS];try omega))
 have e:setR [Value.slice none 0 0,Value.map none] 1 (Value.map (some H.length)).cells.toList=[.slice none 0 0,.map (some H.length)]:=rfl
 rw [e]
 refine⟨⟨fun j hj=>hget_left hj,by simp⟩,⟨?_,?_,.inl ⟨rfl,rfl,rfl⟩,fun p hp=>(by cases hp),fun p hp=>(by cases hp),(by omega),(fun h=>by cases h),(fun h=>by cases h),(fun h=>by cases h),(fun h=>by cases h),(fun j h=>by cases h)⟩⟩
 ·rw [hget_app];rfl
 ·rw [hget_app0];rfl
def zkey:Value:=.agg #[.int .i64 0,.string ByteArray.empty,.slice none 0 0]
def findV(L:List (Value×TermD))(k:List Int):Value:=if (decide (nmL (plN k)=k)&&decide (plN k<L.length))=true then (match L[(plN k).toNat]? with | some p=>.tuple #[.agg (tmRow p.1 p.2).toArray,.bool true] | none=>.tuple #[zkey,.bool false]) else .tuple #[zkey,.bool false]
def findT(T:List TermD)(k:List Int):Option TermD:=if (decide (nmL (plN k)=k)&&decide (plN k<T.length))=true then T[(plN k).toNat]? else none
theorem findV_T(L:List (Value×TermD))(k:List Int):(∃p∈L,findV L k=.tuple #[.agg (tmRow p.1 p.2).toArray,.bool true]∧findT (L.map (·.2)) k=some p.2)∨(findV L k=.tuple #[zkey,.bool false]∧findT (L.map (·.2)) k=none):=by
 unfold findV findT
 rw [List.length_map]
 by_cases h:(decide (nmL (plN k)=k)&&decide (plN k<L.length))=true
 ·rw [if_pos h,if_pos h,gmP]
  cases hp:L[(plN k).toNat]? with
  | none=>exact .inr ⟨rfl,rfl⟩
  | some p=>exact .inl ⟨p,moG hp,rfl,rfl⟩
 ·rw [if_neg h,if_neg h]
  exact .inr ⟨rfl,rfl⟩
theorem find_rc{γ:Nat→Option Nat}{H:AH}{b mb:Nat}{tv:Value}{Ft F:List Nat}{L:List (Value×TermD)}(h:TblF H b mb tv Ft F L){k:List Int}(hk:k.length=32)(hb:By k):AC Tryd.prog H.length γ 206 #[.pointer (some ⟨b,0,none⟩),.agg (iv .u8 k).toArray] H (fun v' H'=>v'=findV L k∧Low H.length H H'):=by
 obtain⟨hl,hnt,hcs⟩:=h.tvlen
 have hgb:=h.hb
 have hbl:=hget_lt hgb
 have htk:(iv .u8 k).take 32=iv .u8 k:=tkL (by simp [hk])
 have hpl:=fun (G:AH)=>place_rc (γ:=γ) (H:=G) hk hb
 have hp0:0≤plN k:=by
  have b4:=hb.get 4
  have b5:=hb.get 5
  have b6:=hb.get 6
  have b7:=hb.get 7
  unfold plN
  omega
 unfold findV
 have hat:∀p,L[(plN k).toNat]?=some p→∃q,xindexAddr Tryd.prog 160 tv (.int .i64 (plN k))=some q∧notTuple q=true∧∀N:AH,xload Tryd.prog 216 q (H++N)=some (.agg (tmRow p.1 p.2).toArray):=fun p hp=>by
  have:=h.at_ hp
  rwa [Int.toNat_of_nonneg hp0]at this
 have hgl:plN k<L.length→∃p,L[(plN k).toNat]?=some p:=fun hlt=>⟨_,geE (by omega)⟩
 have hlen:=fun (G:AH) (hG:hget G b=hget H b)=>tlen_rc (γ:=γ) (hG.trans hgb) hl hnt hcs
 have p1:plain1 (.slice none 0 0)=true:=rfl
 obtain⟨ok,hok⟩:∃ok,ok=decide (nmL (plN k)=k):=⟨_,rfl⟩
 rw [←hok]at hpl
 rw [←hok]
 generalize plN k=p at *
 clear hok
 refine ac_of_aw Tryd.func206 rfl Tryd.ntmps206 Tryd.results206 (by simp) ?_
 (refine aso fun K hK=>?_;simp (disch:=first|omega|simp only [lnS];try omega) [htk];refine hK _ _ ?_;clear hK K)
 refine aso fun K hK=>?_
 simp (disch:=first|omega|simp only [lnS];try omega) [htk]
 refine⟨by kernel_rfl,ac_of_rc (hpl _) (by simp [pv_iv,pv_int,pv_bool,pv_string,pv_tup2,pv_tup3,iv_plain,p2_int,p2_bool,p2_string]) ?_⟩
 try simp (disch:=first|omega|simp only [lnS];try omega)
 refine hK _ _ ?_;clear hK K
 refine aw_seq (aw_seq ?_)
 cases ok with
 | false=>
  refine aoo fun K hK=>?_
  simp (disch:=first|omega|simp only [lnS];try omega)
  refine hK _ _ ?_;clear hK K
  refine awt (by simp<;>omega) ?_
  (refine aso fun K hK=>?_;simp (disch:=first|omega|simp only [lnS];try omega) [p1];refine hK _ _ ?_;clear hK K)
  (refine aw_ret ?_;simp (disch:=first|omega|simp only [lnS];try omega))
  exact⟨rfl,Low.push (nlE _) _⟩
 | true=>
  refine aoo fun K hK=>?_
  simp (disch:=first|omega|simp only [lnS];try omega)
  refine⟨by kernel_rfl,ac_of_rc (hlen _ (hget_left hbl)) (by simp [pv_iv,pv_int,pv_bool,pv_string,pv_tup2,pv_tup3,iv_plain,p2_int,p2_bool,p2_string]) ?_⟩
  by_cases hlt:p<L.length
  ·have hn:¬ ((L.length:Int)≤p):=by omega
   try simp (disch:=first|omega|simp only [lnS];try omega) [hn]
   refine hK _ _ ?_;clear hK K
   refine awf (by simp<;>omega) ?_
   refine aw_skip (aw_seq ?_)
   obtain⟨q,hq⟩:=hgl hlt
   obtain⟨a,a1,a2,a3⟩:=hat q hq
   obtain⟨k1,k2⟩:=h.key_nt (moG hq)
   rw [hq,if_pos (by simp [hlt])]
   obtain⟨kv,x⟩:=q
   unfold tmRow at *
   simp only at a3 k1 k2
   have ld:∀N:AH,xload Tryd.prog 160 (.pointer (some ⟨b,0,none⟩)) (H++N)=some tv:=fun N=>by
    have:=(hget_left (L:=N) hbl).trans hgb
    simp [xload,this]
   (refine aoo fun K hK=>?_;simp (disch:=first|omega|simp only [lnS];try omega) [-notTuple,hnt,a2,k1,k2,-xload,ld,-xindexAddr,a1,a3];refine hK _ _ ?_;clear hK K)
   (refine aw_ret ?_;simp (disch:=first|omega|simp only [lnS];try omega) [k1,k2])
   exact Low.push (nlE _) _
  ·have hn:(L.length:Int)≤p:=by omega
   try simp (disch:=first|omega|simp only [lnS];try omega) [hn]
   refine hK _ _ ?_;clear hK K
   refine awt (by simp<;>omega) ?_
   (refine aso fun K hK=>?_;simp (disch:=first|omega|simp only [lnS];try omega) [p1];refine hK _ _ ?_;clear hK K)
   (refine aw_ret ?_;simp (disch:=first|omega|simp only [lnS];try omega) [hlt])
   exact⟨rfl,Low.push (nlE _) _⟩
end
section
def TermQ(H:AH)(b:Nat)(F:List Nat)(T:List TermD)(x:TermD)(v':Value)(H':AH):Prop:=
 v'=.agg (iv .u8 (nmL (nameT x T))).toArray∧H.length≤H'.length∧(∀j,j<H.length→j∉F→hget H' j=hget H j)∧∃F',Tbl H' b F' (addT x T)∧∀j∈F',j∈F∨H.length≤j
theorem ownF_nt{H:AH}{v:Value}{e:TypeId}{sz:Nat}{cells:List Value}{F:List Nat}(h:OwnF H v e sz cells F):notTuple v=true∧v.cells=#[v]:=by
 rcases h with ⟨rfl,_,_⟩ | ⟨j,len,rfl,_,_,_⟩ <;> exact⟨rfl,rfl⟩
theorem TblF.lt{H:AH}{b mb:Nat}{tv:Value}{Ft F:List Nat}{L:List (Value×TermD)}(h:TblF H b mb tv Ft F L):b<H.length∧mb<H.length∧∀j∈Ft,j<H.length:=⟨hget_lt h.hb,hget_lt h.hm,h.rows.lt⟩
theorem term_ac{nro:Nat}{γ:Nat→Option Nat}{H:AH}(hp:Pw γ H){b:Nat}{F:List Nat}{T:List TermD}(h:Tbl H b F T)(hnro:∀j∈F,nro≤j)(hnH:nro≤H.length)
  {x:TermD} (hx:x.Wf) {v:Value} (hK:∀G:AH,H.length≤G.length→(∀j,j<H.length→j∉F→hget G j=hget H j)→KsV G v x.keys) (hT:T.length≤1000000) :
  AC Tryd.prog nro γ 72 #[.pointer (some ⟨b,0,none⟩),.int .i64 (x.kind:Nat),.string x.text,v] H (TermQ H b F T x):=by
 obtain⟨mb,tv,Ft,Fk,L,rfl,hL,rfl,hFl⟩:=h
 obtain⟨hl,hnt,hcs⟩:=hL.tvlen
 have hgb:=hL.hb
 have hgm:=hL.hm
 have hlt:=hL.lt
 rw [List.length_map]at hT
 have hv:=val_nt (hK H (nlE _) (fun _ _ _=>rfl))
 obtain⟨Z,hZ⟩:∃Z:Blk,Z=⟨iv .u8 (zl 32), 26,none⟩:=⟨_,rfl⟩
 have hrec:=fun (N:AH)=>recipe_rc (γ:=γ) (H:=H++N) (hp.low ⟨fun j hj=>hget_left hj,by simp⟩) (kind:=(x.kind:Nat)) (by omega) (by have:=hx.kind;omega) hx.text (hK _ (by simp) (fun j hj _=>hget_left hj)) hx.k32 hx.by_ hx.many
 have hr:tmRec (x.kind:Nat) x.text x.keys=x.rec_:=rfl
 rw [hr]at hrec
 have hlk:=fun (N:AH)=>tm_look ((hget_left (L:=N) hlt.2.1).trans hgm) x.rec_
 have hnm:=fun (G:AH) (hle:nameT x (L.map (·.2))≤L.length)=>name_rc (γ:=γ) (H:=G) (n:=(nameT x (L.map (·.2)):Nat)) ⟨by omega,by omega⟩
 refine ac_of_aw Tryd.func72 rfl Tryd.ntmps72 Tryd.results72 (by simp) ?_
 (refine aso fun K hK=>?_;simp (disch:=first|omega|simp only [lnS];try omega);refine hK _ _ ?_;clear hK K)
 refine aw_seq (aw_seq ?_)
 (refine aoo fun K hK=>?_;simp (disch:=first|omega|simp only [lnS];try omega);refine hK _ _ ?_;clear hK K)
 refine awf (by simp<;>omega) ?_
 refine aw_skip (aw_seq ?_)
 refine aoo fun K hK=>?_
 simp (disch:=first|omega|simp only [lnS];try omega) [-notTuple,hv.1]
 refine⟨by kernel_rfl,ac_of_rc (hrec _) (by simp [pv_iv,pv_int,pv_bool,pv_string,pv_tup2,pv_tup3,iv_plain,p2_int,p2_bool,p2_string]) ?_⟩
 try simp (disch:=first|omega|simp only [lnS];try omega)
 refine hK _ _ ?_;clear hK K
 have hpl:placeT x (L.map (·.2))=idxS x.rec_ ((L.map (·.2)).map TermD.rec_):=rfl
 refine aw_seq ?_
 cases hf:placeT x (L.map (·.2)) with
 | some i=>
  rw [←hpl,hf]at hlk
  have hnm1:nameT x (L.map (·.2))=i:=by unfold nameT;rw [hf]
  have had:addT x (L.map (·.2))=L.map (·.2):=by unfold addT;rw [hf]
  have hil:i≤L.length:=by
   have:=(gsI.1 (idxS_some (hpl▸hf))).1
   simp at this
   omega
  rw [hnm1]at hnm
  (refine aoo fun K hK=>?_;simp (disch:=first|omega|simp only [lnS];try omega) [hgb,hlt.1,hlk];refine hK _ _ ?_;clear hK K)
  refine aw_seq (aw_seq ?_)
  (refine aoo fun K hK=>?_;simp (disch:=first|omega|simp only [lnS];try omega);refine hK _ _ ?_;clear hK K)
  refine awf (by simp<;>omega) ?_
  refine aw_skip (aw_seq ?_)
  refine aoo fun K hK=>?_
  simp (disch:=first|omega|simp only [lnS];try omega)
  refine⟨by kernel_rfl,ac_of_rc (hnm _ hil) (by simp [pv_iv]) ?_⟩
  have fin:∀N:AH,TermQ H b (b::mb::(Ft++Fk)) (L.map (·.2)) x (.agg (iv .u8 (nmL (i:Nat))).toArray) (H++N):=fun N=>by
   refine⟨by rw [hnm1],by simp,fun j hj _=>hget_left hj,b::mb::(Ft++Fk),?_,fun j hj=>.inl hj⟩
   rw [had]
   exact⟨mb,tv,Ft,Fk,L,rfl,hL.low (fun j hj=>hget_left (hFl j hj)),rfl,fun j hj=>by have:=hFl j hj;simp;omega⟩
  have lN:(nmL (i:Nat)).length=32:=rfl
  generalize nmL (i:Nat)=N at *
  have ht:(iv .u8 N).take 32=iv .u8 N:=tkL (by simp [lN])
  have hs:setR (iv .u8 (zl 32)) 0 (iv .u8 N)=iv .u8 N:=setR_all _ _ (by simp [lN])
  try simp (disch:=first|omega|simp only [lnS];try omega) [hnH,lN,ht,hs]
  refine hK _ _ ?_;clear hK K
  (refine aw_ret ?_;simp (disch:=first|omega|simp only [lnS];try omega) [lN,ht])
  exact fin _
 | none=>
  rw [←hpl,hf]at hlk
  (refine aoo fun K hK=>?_;simp (disch:=first|omega|simp only [lnS];try omega) [hgb,hlt.1,hlk];refine hK _ _ ?_;clear hK K)
  refine aw_seq (aw_seq ?_)
  (refine aoo fun K hK=>?_;simp (disch:=first|omega|simp only [lnS];try omega);refine hK _ _ ?_;clear hK K)
  refine awt (by simp<;>omega) ?_
  have hn0:idxS x.rec_ ((L.map (·.2)).map TermD.rec_)=none:=hpl▸hf
  obtain⟨G,hput,hGl,hGm,hGo⟩:∃G:AH,xmapUpd Tryd.prog nro 161 (.map (some mb)) (.string x.rec_) (.int .i64 (L.length:Nat)) (H++[some ⟨iv .u8 (zl 32), 26,none⟩])=some (undef,G)∧G.length=H.length+1 ∧
    hget G mb=some (mblk 161 (sE 0 (((L++[(v,x)]).map (·.2)).map TermD.rec_)))∧∀j,j≠mb→hget G j=hget (H++[some ⟨iv .u8 (zl 32), 26,none⟩]) j:=by
   have:=tm_put (nro:=nro) ((hget_left (L:=[some ⟨iv .u8 (zl 32), 26,none⟩]) hlt.2.1).trans hgm) (hnro mb (by simp)) hn0
   simp only [List.length_map]at this
   refine⟨_,this,by simp,?_,fun j hj=>hget_set_ne (Ne.symm hj)⟩
   rw [hget_set_eq (by simp;have:=hlt.2.1;omega)]
   simp
  (refine aso fun K hK=>?_;simp (disch:=first|omega|simp only [lnS];try omega) [hgb,hlt.1,-notTuple,hnt,-xlen,hl];refine hK _ _ ?_;clear hK K)
  (refine aso fun K hK=>?_;simp (disch:=first|omega|simp only [lnS];try omega) [hgb,hlt.1,hput];refine hK _ _ ?_;clear hK K)
  have hGb:hget G b=some ⟨[tv,.map (some mb)], 209,none⟩:=(hGo b hL.bm).trans ((hget_left hlt.1).trans hgb)
  have hGk:KsV G v x.keys:=hK G (by omega) (fun j hj hn=>(hGo j (fun e=>hn (by simp [e]))).trans (hget_left hj))
  have hcl:=cloneK_ac (nro:=nro) (γ:=γ) hGk hx.k32 (by omega) (by have:=hx.many;omega)
  have hnr3:nro≤b:=hnro b (by simp)
  have p1:plain1 (.slice none 0 0)=true:=rfl
  have nt_strG:∀s:ByteArray,notTuple (.string s)=true:=fun _=>rfl
  have hHb:H.length≠b:=by have:=hlt.1;omega
  have hHm:H.length≠mb:=by have:=hlt.2.1;omega
  have hHt:H.length∉Ft:=fun hm=>by have:=hlt.2.2 _ hm;omega
  have hGH:hget G H.length=some ⟨iv .u8 (zl 32), 26,none⟩:=by rw [hGo _ hHm,hget_app0];rfl
  have hGj:∀j,j<H.length→j≠mb→hget G j=hget H j:=fun j hj hn=>(hGo j hn).trans (hget_left hj)
  have hnm2:nameT x (L.map (·.2))=L.length:=by unfold nameT;rw [hf,List.length_map]
  have had:addT x (L.map (·.2))=(L++[(v,x)]).map (·.2):=by unfold addT;rw [hf];simp
  have fin:∀ (G1:AH) (v1:Value) (F1:List Nat),Low G.length G G1→OwnF G1 v1 26 32 (ksC x.keys) F1→(∀j∈F1,G.length≤j)→∃v' G3,xappend Tryd.prog nro 160 tv (.slice (some ⟨G1.length,0,none⟩) 1 1) (G1++[some ⟨[.int .i64 (x.kind:Nat),.string x.text,v1], 216,some 3⟩])=some (v',G3) ∧
    notTuple v'=true∧v'.cells=#[v']∧hget G3 b=some ⟨[tv,.map (some mb)], 209,none⟩∧hget G3 H.length=some ⟨iv .u8 (zl 32), 26,none⟩ ∧
    ∀X:Option Blk,TermQ H b (b::mb::(Ft++Fk)) (L.map (·.2)) x (.agg (iv .u8 (nmL (L.length:Nat))).toArray) ((G3.set b (some ⟨[v',.map (some mb)], 209,none⟩)).set H.length X):=by
   intro G1 v1 F1 lw1 ho1 hF1
   have hle1:=lw1.2
   obtain⟨R,hR⟩:∃R:Option Blk,R=some ⟨[.int .i64 (x.kind:Nat),.string x.text,v1], 216,some 3⟩:=⟨_,rfl⟩
   rw [←hR]
   have hxc:xcells 3 (.slice (some ⟨G1.length,0,none⟩) 1 1) (G1++[R])=some (tmRow v1 x):=by
    unfold xcells
    simp only [hget_app0]
    rw [hR]
    rfl
   have hF1l:=ho1.lt
   obtain⟨v',G3,hap,ho2,hl3,hk3⟩:=ownF_append (P:=Tryd.prog) (nro:=nro) (t := 160) (e := 216) (H:=G1++[R]) (v:=tv) (x:=.slice (some ⟨G1.length,0,none⟩) 1 1) (sz:=3) (cells:=tmRows L) (news:=tmRow v1 x) (F:=Ft) (by kernel_rfl) (by kernel_rfl) (by omega) (by kernel_rfl)
    (hL.rows.low (fun j hj=>(hget_left (by have:=hlt.2.2 j hj;omega)).trans ((lw1.1 j (by have:=hlt.2.2 j hj;omega)).trans (hGj j (hlt.2.2 j hj) (fun e=>hL.mt (e▸hj))))))
    (fun j hj=>hnro j (by simp [hj])) (fun s e=>by cases e) hxc (by simp [tmRow]) (by simp [tmRow]) (by rw [tmRows_len];show (L.length*3+3)*byt Tryd.prog 216 ≤ _;rw [show byt Tryd.prog 216 = 48 by kernel_rfl];omega) (by rw [tmRows_len];show L.length*3+3≤_;simp [maxLen];omega)
   have hl2:(G1++[R]).length=G1.length+1:=by simp
   rw [hl2]at ho2 hl3 hk3
   obtain⟨n1,n2⟩:=ownF_nt ho2
   have h31:∀j,j<G1.length→j∉Ft→hget G3 j=hget G1 j:=fun j hj hn=>(hk3 j (by omega) hn).trans (hget_left hj)
   have h3H:∀j,j<H.length→j≠mb→j∉Ft→hget G3 j=hget H j:=fun j hj hm hn=>(h31 j (by omega) hn).trans ((lw1.1 j (by omega)).trans (hGj j hj hm))
   refine⟨v',G3,hap,n1,n2,(h3H b hlt.1 hL.bm hL.bt).trans hgb,(h31 _ (by omega) hHt).trans ((lw1.1 _ (by omega)).trans hGH),fun X=>?_⟩
   have hA:∀j,j≠b→j≠H.length→hget ((G3.set b (some ⟨[v',.map (some mb)], 209,none⟩)).set H.length X) j=hget G3 j:=fun j h1 h2=>by rw [hget_set_ne (Ne.symm h2),hget_set_ne (Ne.symm h1)]
   have hAl:((G3.set b (some ⟨[v',.map (some mb)], 209,none⟩)).set H.length X).length=G3.length:=by simp
   have hbA:hget ((G3.set b (some ⟨[v',.map (some mb)], 209,none⟩)).set H.length X) b=some ⟨[v',.map (some mb)], 209,none⟩:=by rw [hget_set_ne hHb,hget_set_eq (by have:=hlt.1;omega)]
   generalize (G3.set b (some ⟨[v',.map (some mb)], 209,none⟩)).set H.length X=A at *
   have hbl:=hlt.1
   have hml:=hlt.2.1
   have hFk:∀j∈Fk,j<H.length∧j≠b∧j≠mb∧j∉Ft:=fun j hj=>⟨hFl j (by simp [hj]),fun e=>hL.fb (e▸hj),fun e=>hL.fm (e▸hj),fun ht=>hL.ft j ht hj⟩
   refine⟨by rw [hnm2],by omega,fun j hj hn=>?_,b::mb::([G1.length+1]++(Fk++F1)),?_,fun j hj=>?_⟩
   ·have e1:j≠b:=fun e=>hn (by simp [e])
    have e2:j≠mb:=fun e=>hn (by simp [e])
    have e3:j∉Ft:=fun e=>hn (by simp [e])
    exact (hA j e1 (by omega)).trans (h3H j hj e2 e3)
   ·rw [had]
    refine⟨mb,v',[G1.length+1],Fk++F1,L++[(v1,x)],by simp,?_,rfl,fun j hj=>?_⟩
    ·refine⟨hbA,?_,?_,fun p hp=>?_,fun p hp=>?_,hL.bm,by simp;omega,by simp;omega,?_,?_,?_⟩
     ·rw [hA mb (Ne.symm hL.bm) (Ne.symm hHm),h31 mb (by omega) hL.mt,lw1.1 mb (by omega),hGm]
      simp
     ·rw [tmRows_snoc]
      exact ho2.low (fun j hj=>hA j (by have:=msG.1 hj;omega) (by have:=msG.1 hj;omega))
     ·rcases maP.1 hp with hp | hp
      ·obtain⟨F0,h1,h2⟩:=hL.keys p hp
       exact⟨F0,h1.low (fun j hj=>(hA j (hFk j (h2 j hj)).2.1 (by have:=(hFk j (h2 j hj)).1;omega)).trans (h3H j (hFk j (h2 j hj)).1 (hFk j (h2 j hj)).2.2.1 (hFk j (h2 j hj)).2.2.2)),fun j hj=>by simp [h2 j hj]⟩
      ·rw [msG]at hp
       subst hp
       refine⟨F1,?_,fun j hj=>by simp [hj]⟩
       rw [←ksC_kr]
       exact ho1.low (fun j hj=>(hA j (by have:=hF1 j hj;omega) (by have:=hF1 j hj;omega)).trans (h31 j (hF1l j hj) (fun ht=>by have:=hlt.2.2 j ht;have:=hF1 j hj;omega)))
     ·rcases maP.1 hp with hp | hp
      ·exact hL.wf p hp
      ·rw [msG]at hp
       subst hp
       exact hx
     ·intro hm
      rcases maP.1 hm with hm | hm
      ·exact hL.fb hm
      ·have:=hF1 _ hm;omega
     ·intro hm
      rcases maP.1 hm with hm | hm
      ·exact hL.fm hm
      ·have:=hF1 _ hm;omega
     ·intro j hj hm
      rw [msG]at hj
      rcases maP.1 hm with hm | hm
      ·have:=(hFk j hm).1;omega
      ·have:=hF1l j hm;omega
    ·simp only [List.mem_cons,maP,List.not_mem_nil,or_false]at hj
     rcases hj with rfl | rfl | rfl | hj | hj
     ·omega
     ·omega
     ·omega
     ·have:=(hFk j hj).1;omega
     ·have:=hF1l j hj;omega
   ·simp only [List.mem_cons,maP,List.not_mem_nil,or_false]at hj ⊢
    rcases hj with h | h | h | h | h
    ·exact .inl (.inl h)
    ·exact .inl (.inr (.inl h))
    ·exact .inr (by omega)
    ·exact .inl (.inr (.inr (.inr h)))
    ·exact .inr (by have:=hF1 j h;omega)
  rw [hnm2]at hnm
  have r3:List.range 3=[0,1,2]:=rfl
  (refine aw_ptree [0,1,2,3,5,6,7] 8 [[4,8,9,10,11,12,13,14],[8,4,9,10,11,12,13,14],[8,9,4,10,11,12,13,14],[8,9,10,4,11,12,13,14]] (by kernel_rfl) (by kernel_rfl) (by kernel_rfl) (fun K hK=>?_));simp only [sel,gcS];simp (disch:=first|omega|simp only [lnS];try omega) [hGb,-notTuple,hnt,hv.1,-xappend]
  refine⟨⟨by kernel_rfl,hcl.mono ?_⟩,by kernel_rfl,hcl.mono ?_⟩
  ·rintro v1 G1 ⟨hv1,hG1l,lw1,F1,ho1,hF1⟩
   obtain⟨n1,n2⟩:=ownF_nt ho1
   clear hv1 hG1l
   obtain⟨v',G3,hap,n3,n4,g3b,g3H,hfin⟩:=fin G1 v1 F1 lw1 ho1 hF1
   have hbl3:=hget_lt g3b
   have hHl3:=hget_lt g3H
   try simp (disch:=first|omega|simp only [lnS];try omega) [-notTuple,hnt,n1,n2,n3,n4,p1,r3,-xappend,hap,g3b,hnr3,hbl3]
   refine hK _ _ ?_;clear hK K
   refine aso fun K hK=>?_
   simp (disch:=first|omega|simp only [lnS];try omega)
   refine⟨by kernel_rfl,ac_of_rc (hnm _ (by omega)) (by simp [pv_iv]) ?_⟩
   have lN:(nmL (L.length:Nat)).length=32:=rfl
   generalize nmL (L.length:Nat)=N at *
   have ht:(iv .u8 N).take 32=iv .u8 N:=tkL (by simp [lN])
   have hs:setR (iv .u8 (zl 32)) 0 (iv .u8 N)=iv .u8 N:=setR_all _ _ (by simp [lN])
   have g4H:hget (G3.set b (some ⟨[v',.map (some mb)], 209,none⟩)) H.length=some ⟨iv .u8 (zl 32), 26,none⟩:=(hget_set_ne hHb.symm).trans g3H
   try simp (disch:=first|omega|simp only [lnS];try omega) [hnH,lN,ht,hs,g4H,hHl3]
   refine hK _ _ ?_;clear hK K
   (refine aw_ret ?_;simp (disch:=first|omega|simp only [lnS];try omega) [lN,ht,hHl3])
   exact hfin _
  ·rintro v1 G1 ⟨hv1,hG1l,lw1,F1,ho1,hF1⟩
   obtain⟨n1,n2⟩:=ownF_nt ho1
   clear hv1 hG1l
   have hG1b:=(lw1.1 b (hget_lt hGb)).trans hGb
   have hG1l:=hget_lt hG1b
   obtain⟨v',G3,hap,n3,n4,g3b,g3H,hfin⟩:=fin G1 v1 F1 lw1 ho1 hF1
   have hbl3:=hget_lt g3b
   have hHl3:=hget_lt g3H
   try simp (disch:=first|omega|simp only [lnS];try omega) [hG1b,hG1l,-notTuple,hnt,n1,n2,n3,n4,p1,r3,-xappend,hap,g3b,hnr3,hbl3]
   refine⟨?_,?_,?_⟩
   all_goals
    refine hK _ _ ?_;clear hK K
    refine aso fun K hK=>?_
    simp (disch:=first|omega|simp only [lnS];try omega)
    refine⟨by kernel_rfl,ac_of_rc (hnm _ (by omega)) (by simp [pv_iv]) ?_⟩
    have lN:(nmL (L.length:Nat)).length=32:=rfl
    generalize nmL (L.length:Nat)=N at *
    have ht:(iv .u8 N).take 32=iv .u8 N:=tkL (by simp [lN])
    have hs:setR (iv .u8 (zl 32)) 0 (iv .u8 N)=iv .u8 N:=setR_all _ _ (by simp [lN])
    have g4H:hget (G3.set b (some ⟨[v',.map (some mb)], 209,none⟩)) H.length=some ⟨iv .u8 (zl 32), 26,none⟩:=(hget_set_ne hHb.symm).trans g3H
    try simp (disch:=first|omega|simp only [lnS];try omega) [hnH,lN,ht,hs,g4H,hHl3]
    refine hK _ _ ?_;clear hK K
    (refine aw_ret ?_;simp (disch:=first|omega|simp only [lnS];try omega) [lN,ht,hHl3])
    exact hfin _
end
section
theorem TermQ.up{H N G A:AH}{b:Nat}{F:List Nat}{T:List TermD}{x:TermD}{v v2:Value}(h:TermQ (H++N) b F T x v G)(hF:∀j∈F,j<H.length)(hv:v2=v)(hA:A.length=G.length)(hk:∀j,(j<H.length∨(H++N).length≤j)→hget A j=hget G j):TermQ H b F T x v2 A:=by
 subst hv
 obtain⟨h1,h2,h3,F',h4,h5⟩:=h
 have hl:(H++N).length=H.length+N.length:=by simp
 refine⟨h1,by omega,fun j hj hn=>(hk j (.inl hj)).trans ((h3 j (by omega) hn).trans (hget_left hj)),F',h4.low (fun j hj=>hk j ?_) (by omega),fun j hj=>?_⟩
 ·rcases h5 j hj with h | h
  ·exact .inl (hF j h)
  ·exact .inr h
 ·rcases h5 j hj with h | h
  ·exact .inl h
  ·exact .inr (by omega)
theorem Tbl.bound{H:AH}{b:Nat}{F:List Nat}{T:List TermD}(h:Tbl H b F T):∀j∈F,j<H.length:=by
 obtain⟨_,_,_,_,_,_,_,_,h4⟩:=h
 exact h4
theorem Tbl.push{H:AH}{b:Nat}{F:List Nat}{T:List TermD}(h:Tbl H b F T)(N:AH):Tbl (H++N) b F T:=h.low (fun j hj=>hget_left (h.bound j hj)) (by simp)
theorem Pw.push{γ:Nat→Option Nat}{H:AH}(h:Pw γ H)(N:AH):Pw γ (H++N):=h.low ⟨fun j hj=>hget_left hj,by simp⟩
theorem ks_nil(G:AH):KsV G (.slice none 0 0) []:=.nil (fun x e=>by cases e)
theorem wf_0{k:Nat}(hk:k=1∨k=2){s:ByteArray}(hs:s.size≤100000000):TermD.Wf ⟨k,s,[]⟩:=by
 refine⟨?_,hs,fun k hk=>(by cases hk),fun k hk=>(by cases hk),(by show 0≤1000000;omega),fun h=>?_,fun h=>?_,fun h=>?_⟩
 ·show k≤6;omega
 all_goals
  have h:k=_:=h
  omega
theorem TermQ.lay{H G:AH}{b:Nat}{F:List Nat}{T:List TermD}{x:TermD}{v:Value}(h:TermQ (H++[some ⟨iv .u8 (zl 32), 26,none⟩]) b F T x v G)(hF:∀j∈F,j<H.length):∃N:List Int,N=nmL (nameT x T)∧N.length=32∧(iv .u8 N).take 32=iv .u8 N∧setR (iv .u8 (zl 32)) 0 (iv .u8 N)=iv .u8 N∧v=.agg (iv .u8 N).toArray∧H.length<G.length∧hget G H.length=some ⟨iv .u8 (zl 32), 26,none⟩∧∀X:Option Blk,TermQ H b F T x (.agg (iv .u8 N).toArray) (G.set H.length X):=by
 have h0:=h.1
 have hl:(H++([some ⟨iv .u8 (zl 32), 26,none⟩]:AH)).length=H.length+1:=by simp
 have hn:H.length∉F:=fun e=>by have:=hF _ e;omega
 have hg:=h.2.2.1 H.length (by omega) hn
 rw [hget_app0]at hg
 have hg:hget G H.length=some ⟨iv .u8 (zl 32), 26,none⟩:=hg
 refine⟨nmL (nameT x T),rfl,rfl,rfl,?_,h0,hget_lt hg,hg,fun X=>?_⟩
 ·exact setR_all _ _ (by simp [nmL_len])
 ·exact h.up hF h0.symm (by simp) (fun j hj=>hget_set_ne (by omega))
theorem hash_ac{nro:Nat}{γ:Nat→Option Nat}{H:AH}(hp:Pw γ H){b:Nat}{F:List Nat}{T:List TermD}(h:Tbl H b F T)(hnro:∀j∈F,nro≤j)(hnH:nro≤H.length){s:ByteArray}{ks:List (List Int)}(hx:TermD.Wf ⟨2,s,ks⟩){v:Value}
  (hK:∀G:AH,H.length≤G.length→(∀j,j<H.length→j∉F→hget G j=hget H j)→KsV G v ks) (hT:T.length≤1000000) :
  AC Tryd.prog nro γ 82 #[.pointer (some ⟨b,0,none⟩),.string s,v] H (TermQ H b F T ⟨2,s,ks⟩):=by
 have hv:=val_nt (hK H (nlE _) (fun _ _ _=>rfl))
 have hc:=term_ac (nro:=nro) (γ:=γ) (hp.push [some ⟨iv .u8 (zl 32), 26,none⟩]) (h.push [some ⟨iv .u8 (zl 32), 26,none⟩]) hnro (by simp;omega) hx (v:=v) (fun G hG hj=>hK G (by simp at hG;omega) (fun j h1 h2=>(hj j (by simp;omega) h2).trans (hget_left h1))) hT
 refine ac_of_aw Tryd.func82 rfl Tryd.ntmps82 Tryd.results82 (by simp) ?_
 (refine aso fun K hK=>?_;simp (disch:=first|omega|simp only [lnS];try omega);refine hK _ _ ?_;clear hK K)
 refine aso fun K hK=>?_
 simp (disch:=first|omega|simp only [lnS];try omega) [-notTuple,hv.1]
 refine⟨by kernel_rfl,AC.mono hc ?_⟩
 intro v' G hQ
 obtain⟨N,_,lN,ht,hs,rfl,hlt,hg,hfin⟩:=hQ.lay h.bound
 try simp (disch:=first|omega|simp only [lnS];try omega) [hnH,lN,ht,hs,hg,hlt]
 refine hK _ _ ?_;clear hK K
 (refine aw_ret ?_;simp (disch:=first|omega|simp only [lnS];try omega) [lN,ht,hlt])
 exact hfin _
theorem draw_ac{nro:Nat}{γ:Nat→Option Nat}{H:AH}(hp:Pw γ H){b:Nat}{F:List Nat}{T:List TermD}(h:Tbl H b F T)(hnro:∀j∈F,nro≤j)(hnH:nro≤H.length){s:ByteArray}(hs:s.size≤100000000)(hT:T.length≤1000000) :
  AC Tryd.prog nro γ 23 #[.pointer (some ⟨b,0,none⟩),.string s] H (TermQ H b F T ⟨1,s,[]⟩):=by
 have hc:=term_ac (nro:=nro) (γ:=γ) (hp.push [some ⟨iv .u8 (zl 32), 26,none⟩]) (h.push [some ⟨iv .u8 (zl 32), 26,none⟩]) hnro (by simp;omega) (x:=⟨1,s,[]⟩) (wf_0 (.inl rfl) hs) (v:=.slice none 0 0) (fun G _ _=>ks_nil G) hT
 refine ac_of_aw Tryd.func23 rfl Tryd.ntmps23 Tryd.results23 (by simp) ?_
 (refine aso fun K hK=>?_;simp (disch:=first|omega|simp only [lnS];try omega);refine hK _ _ ?_;clear hK K)
 refine aso fun K hK=>?_
 simp (disch:=first|omega|simp only [lnS];try omega)
 refine⟨by kernel_rfl,AC.mono hc ?_⟩
 intro v' G hQ
 obtain⟨N,_,lN,ht,hs,rfl,hlt,hg,hfin⟩:=hQ.lay h.bound
 try simp (disch:=first|omega|simp only [lnS];try omega) [hnH,lN,ht,hs,hg,hlt]
 refine hK _ _ ?_;clear hK K
 (refine aw_ret ?_;simp (disch:=first|omega|simp only [lnS];try omega) [lN,ht,hlt])
 exact hfin _
end
section
theorem TermQ.layN{H N G:AH}{b:Nat}{F:List Nat}{T:List TermD}{x:TermD}{v:Value}(h:TermQ (H++N) b F T x v G)(hF:∀j∈F,j<H.length){r:Nat}(hr0:H.length≤r)(hr:hget (H++N) r=some ⟨iv .u8 (zl 32), 26,none⟩):∃N:List Int,N=nmL (nameT x T)∧N.length=32∧(iv .u8 N).take 32=iv .u8 N∧setR (iv .u8 (zl 32)) 0 (iv .u8 N)=iv .u8 N∧v=.agg (iv .u8 N).toArray∧r<G.length∧hget G r=some ⟨iv .u8 (zl 32), 26,none⟩∧∀X:Option Blk,TermQ H b F T x (.agg (iv .u8 N).toArray) (G.set r X):=by
 have h0:=h.1
 have hl:=hget_lt hr
 have hn:r∉F:=fun e=>by have:=hF _ e;omega
 have hg:=(h.2.2.1 r hl hn).trans hr
 refine⟨nmL (nameT x T),rfl,rfl,rfl,?_,h0,hget_lt hg,hg,fun X=>?_⟩
 ·exact setR_all _ _ (by simp [nmL_len])
 ·exact h.up hF h0.symm (by simp) (fun j hj=>hget_set_ne (by omega))
theorem keys1{G:AH}{b:Nat}{k:List Int}(hk:k.length=32)(h:hget G b=some ⟨iv .u8 k, 26,some 32⟩):KsV G (.slice (some ⟨b,0,none⟩) 1 1) [k]:=
 kr_ksv (F:=[b]) (.inr ⟨b,1,rfl,by rw [kr_one];exact h,by rw [kr_one,iv_length,hk],rfl⟩) (fun y hy=>by rw [msG.1 hy];exact hk)
theorem keys2{G:AH}{b:Nat}{k l:List Int}(hk:k.length=32)(hl:l.length=32)(h:hget G b=some ⟨iv .u8 k++iv .u8 l, 26,some 32⟩):KsV G (.slice (some ⟨b,0,none⟩) 2 2) [k,l]:=
 kr_ksv (F:=[b]) (.inr ⟨b,2,rfl,by simpa [kr] using h,by simp [kr,hk,hl],rfl⟩) (fun y hy=>by
  rcases List.mem_cons.1 hy with rfl | hy
  ·exact hk
  ·rw [msG.1 hy];exact hl)
theorem wf_pub{k:List Int}(hk:k.length=32)(hb:By k):TermD.Wf ⟨3,⟨#[]⟩,[k]⟩:=by
 refine⟨(by show 3≤6;omega),(by show (0:Nat)≤_;omega),fun y hy=>?_,fun y hy=>?_,(by show 1≤1000000;omega),fun _=>rfl,fun h=>(by cases h),fun h=>(by cases h)⟩
 ·rw [msG.1 hy];exact hk
 ·rw [msG.1 hy];exact hb
theorem pubT_ac{nro:Nat}{γ:Nat→Option Nat}{H:AH}(hp:Pw γ H){b:Nat}{F:List Nat}{T:List TermD}(h:Tbl H b F T)(hnro:∀j∈F,nro≤j)(hnH:nro≤H.length){k:List Int}(hk:k.length=32)(hb:By k)(hT:T.length≤1000000) :
  AC Tryd.prog nro γ 204 #[.pointer (some ⟨b,0,none⟩),.agg (iv .u8 k).toArray] H (TermQ H b F T ⟨3,⟨#[]⟩,[k]⟩):=by
 have htk:(iv .u8 k).take 32=iv .u8 k:=tkL (by simp [hk])
 have hsr:setR (List.map (fun j=>(iv .u8 (zl 32))[j%32]?.getD undef) (List.range 32)) 0 (iv .u8 k)=iv .u8 k:=setR_all _ _ (by simp [hk])
 obtain⟨N3,hN3⟩:∃N3:AH,N3=[some ⟨iv .u8 k, 26,none⟩,some ⟨iv .u8 (zl 32), 26,none⟩,some ⟨iv .u8 k, 26,some 32⟩]:=⟨_,rfl⟩
 have g1:hget (H++N3) (H.length+1)=some ⟨iv .u8 (zl 32), 26,none⟩:=by rw [hget_app,hN3];rfl
 have g2:hget (H++N3) (H.length+2)=some ⟨iv .u8 k, 26,some 32⟩:=by rw [hget_app,hN3];rfl
 have hc:=term_ac (nro:=nro) (γ:=γ) (hp.push N3) (h.push N3) hnro (by simp;omega) (wf_pub hk hb) (v:=.slice (some ⟨H.length+2,0,none⟩) 1 1) (fun G hG hj=>keys1 hk ((hj _ (hget_lt g2) (fun e=>by have:=h.bound _ e;omega)).trans g2)) hT
 rw [hN3]at hc
 refine ac_of_aw Tryd.func204 rfl Tryd.ntmps204 Tryd.results204 (by simp) ?_
 (refine aso fun K hK=>?_;simp (disch:=first|omega|simp only [lnS];try omega) [-getElem?_pos,-getElem?_neg,htk];refine hK _ _ ?_;clear hK K)
 refine aso fun K hK=>?_
 simp (disch:=first|omega|simp only [lnS];try omega) [-getElem?_pos,-getElem?_neg,htk,hsr]
 refine⟨by kernel_rfl,AC.mono hc ?_⟩
 intro v' G hQ
 rw [←hN3]at hQ
 obtain⟨N,_,lN,ht,hs,rfl,hlt,hg,hfin⟩:=hQ.layN h.bound (Nat.le_succ _) g1
 have hn1:nro≤H.length+1:=by omega
 try simp (disch:=first|omega|simp only [lnS];try omega) [-getElem?_pos,-getElem?_neg,hnH,hn1,lN,ht,hs,hg,hlt]
 refine hK _ _ ?_;clear hK K
 (refine aw_ret ?_;simp (disch:=first|omega|simp only [lnS];try omega) [-getElem?_pos,-getElem?_neg,lN,ht,hlt])
 exact hfin _
end
section
def OwnK(lo:Nat)(H:AH)(v:Value)(ks:List (List Int)):Prop:=
 (v=.slice none 0 0∧ks=[])∨∃j cs,lo≤j∧v=.slice (some ⟨j,0,none⟩) ks.length ks.length∧hget H j=some ⟨cs, 26,some 32⟩∧kr ks <+: cs
theorem OwnK.nt{lo:Nat}{H:AH}{v:Value}{ks:List (List Int)}(h:OwnK lo H v ks):notTuple v=true∧v.cells=#[v]:=by
 rcases h with ⟨rfl,_⟩ | ⟨j,cs,_,rfl,_⟩ <;> exact⟨rfl,rfl⟩
theorem own_ksv{lo:Nat}{H:AH}{v:Value}{ks:List (List Int)}(h:OwnK lo H v ks)(hk:K32 ks):KsV H v ks:=by
 rcases h with ⟨rfl,rfl⟩ | ⟨j,cs,_,rfl,h3,h4⟩
 ·exact ks_nil H
 ·have hp:(kr ks).length≤cs.length:=h4.length_le
  rw [kr_len hk]at hp
  have hlen:(ks.map kd).flatten.length=(ks.map kd).length*32:=fl_len (kd_len hk)
  have hv:CD.Val H (.sl (ks.map kd)) (.slice (some ⟨j,0,none⟩) (ks.map kd).length (ks.map kd).length):=by
   refine .sl (sz:=32) h3 (by rw [List.length_map];exact hp) (kd_len hk) (fun i row c d x hi hc hx=>?_)
   have hat:=fl_at (kd_len hk) hi hc
   have hlt:=(gsI.1 hat).1
   obtain⟨r,rfl⟩:=h4
   have hx':(kr ks++r)[i*32+c]?=some x:=hx
   rw [gaL (by rw [kr_len hk];rw [hlen,List.length_map]at hlt;exact hlt),←ksC_kr]at hx'
   unfold ksC at hx'
   rw [gmP,hat]at hx'
   cases hx'
   exact val_flat (kd_flat ks row (moG hi) d (moG hc))
  rw [List.length_map]at hv
  exact hv
def PartK(H:AH)(lo:Nat)(x:Value)(ks:List (List Int)):Prop:=(∃a c,x=.slice a ks.length c)∧∀G:AH,(∀j,j<lo→hget G j=hget H j)→xcells 32 x G=some (kr ks)
theorem ownK_append{nro lo:Nat}{H:AH}{v x:Value}{ks news:List (List Int)}(h1k:K32 ks)(h2k:K32 news)
  (hv:OwnK lo H v ks) (hnro:nro≤lo) (hlo:lo≤H.length) (hstr:∀s,x≠.string s) (hx:xcells 32 x H=some (kr news)) (hb:ks.length+news.length≤1000000000) :
  ∃v' H',xappend Tryd.prog nro 23 v x H=some (v',H')∧OwnK lo H' v' (ks++news)∧H.length≤H'.length∧(∀j,j<lo→hget H' j=hget H j):=by
 have hu:und Tryd.prog 23 = .slice 26 := by kernel_rfl
 have hs:szt Tryd.prog 26 = 32:=by kernel_rfl
 have hz:(zer Tryd.prog 26).map (·.cells.size)=some 32:=by kernel_rfl
 have hby:byt Tryd.prog 26 = 32:=by kernel_rfl
 have hnl:=kr_len h2k
 have hml:maxLen=9223372036854775807:=rfl
 rcases hv with ⟨rfl,rfl⟩ | ⟨j,cs,h1,rfl,h3,h4⟩
 ·by_cases hn:news=[]
  ·subst hn
   refine⟨.slice none 0 0,H,?_,.inl ⟨rfl,rfl⟩,nlE _,fun _ _=>rfl⟩
   have hx0:xcells 32 x H=some []:=hx
   unfold xappend
   cases x <;> first | (exact absurd rfl (hstr _)) | (simp only [hu,hs,hx0];rw [if_pos ⟨by omega,hz,by simp,by simp⟩];first | rw [if_pos rfl] | rw [if_pos trivial])
  ·have hn0:0<news.length:=List.length_pos_iff.2 hn
   have hne:kr news≠[]:=fun e=>by rw [e]at hnl;simp at hnl;omega
   have hd:(kr news).length/32=news.length:=by rw [hnl];omega
   refine⟨.slice (some ⟨H.length,0,none⟩) news.length news.length,H++[some ⟨kr news, 26,some 32⟩],?_,.inr ⟨H.length,_,hlo,by simp,by rw [hget_app0];rfl,List.prefix_rfl⟩,by simp,fun i hi=>hget_left (by omega)⟩
   simp only [List.length_nil,Nat.zero_add]at hb
   unfold xappend
   cases x <;> first | (exact absurd rfl (hstr _)) | (simp only [hu,hs,hx];rw [if_pos ⟨by omega,hz,by rw [hby];omega,by omega⟩,if_neg hne,hd])
 ·have hj:=hget_lt h3
  have hpl:=h4.length_le
  rw [kr_len h1k]at hpl
  have hpt:cs.take (ks.length*32)=kr ks:=by
   obtain⟨r,rfl⟩:=h4
   rw [←kr_len h1k];simp
  have hd:(kr news).length/32=news.length:=by rw [hnl];omega
  refine⟨.slice (some ⟨H.length,0,none⟩) (ks.length+news.length) (ks.length+news.length),H.set j none++[some ⟨kr ks++kr news, 26,some 32⟩],?_,.inr ⟨H.length,_,hlo,by simp,by rw [hga0];rfl,by rw [kr_app];exact List.prefix_rfl⟩,by simp,fun i hi=>?_⟩
  ·have hc:True∧0<32∧(zer Tryd.prog 26).map (·.cells.size)=some 32∧nro≤j∧True∧True∧ks.length*32≤cs.length∧(ks.length*32+(kr news).length)*byt Tryd.prog 26 ≤ 140737488355328∧ks.length*32+(kr news).length≤maxLen:=
    ⟨trivial,by omega,hz,by omega,trivial,trivial,by omega,by rw [hby];omega,by omega⟩
   unfold xappend
   cases x <;> first | (exact absurd rfl (hstr _)) | (simp only [hu,hs,hx,h3];rw [if_pos hc,hpt,hd])
  ·rw [hget_left (by simp;omega),hget_set_ne (by omega)]
section
variable {H:AH} {γ:Nat→Option Nat} {nro:Nat}
end
end
end
section
def pk(k:List Int):Option Nat:=if nmL (plN k)=k then some (plN k).toNat else none
theorem pk_nm{i:Nat}(h:i<4294967296):pk (nmL i)=some i:=by
 unfold pk
 rw [plN_nm (by omega)]
 simp
def kw(kn:List Bool)(p:Nat):Bool:=kn.getD p false
abbrev FSt:=List Bool×List Nat
def k0(x:TermD):List Int:=x.keys.getD 0 []
def k1(x:TermD):List Int:=x.keys.getD 1 []
end
section
theorem find_ac{nro:Nat}{γ:Nat→Option Nat}{H:AH}{b mb:Nat}{tv:Value}{Ft F:List Nat}{L:List (Value×TermD)}(h:TblF H b mb tv Ft F L){k:List Int}(hk:k.length=32)(hb:By k):AC Tryd.prog nro γ 206 #[.pointer (some ⟨b,0,none⟩),.agg (iv .u8 k).toArray] H (fun v' H'=>v'=findV L k∧Low H.length H H'):=
 (find_rc h hk hb).thaw (fun v H' hq=>⟨hq.2.2,hq.2.1⟩)
end
section
structure SrC where
 sb:Nat
 kb:Nat
 mb:Nat
 ub:Nat
 b:Nat
 tv:Value
 S:List Nat
 Ft:List Nat
 Fk:List Nat
 L:List (Value×TermD)
 U:List (List Int×Value)
section
variable {γ:Nat→Option Nat} {nro:Nat} {H:AH} {c:SrC} {F:List Nat} {s t:FSt}
end
end
section
theorem kr_dropV{S:List (List Int)}(h:K32 S){k:Nat}(hk:k≤S.length):(kr S).drop (k*32)=kr (S.drop k):=by
 have e:kr S=kr (S.take k)++kr (S.drop k):=by rw [←kr_app,List.take_append_drop]
 have hl:(kr (S.take k)).length=k*32:=by rw [kr_len (fun y hy=>h y (List.mem_of_mem_take hy)),List.length_take,Nat.min_eq_left hk]
 rw [e,←hl,List.drop_left]
end
section
attribute [local simp] wb_bool wb_undef with_lit XL_nil XL_cons XLc_val XLc_call step1_eq stepW_t stepW_f stepC_n stepC_s stepX_s stepX_n stepN_s calleeX xrecv oneV xop_eq xopR_s xopR_n wantedA_eq wantedG_n wantedG_s plain1_int plain1_bool plain1_string bits_i64 bits_u64 bits_u32 bits_u16 bits_u8 xeqA xagg xcmp xarr allK_iv num_iv calleeOf xread xeff xbin xint xnil xun xstr xload xconv xpart xfield xfieldAddr xindexAddr xindex bnd asInt? xslice xlen xmin xmax xbuild xfill xappend xapp2 xappstr xappmk xcap xcopy xcells eval_tmp eval_const put_at put_none fr0_at cells_agg cells_int cells_bool cells_string cells_ptr cells_slice notTuple tab iv_all hget_app hget_app0 hget_cons0 hget_cons set_app set_app0 setR setR_one QL_nil QL_cons QLc_val stepQ_t stepQ_f stepQC_n stepQC_s stepQX_s SL_nil SL_cons SLc_val stepS_t stepS_f ltT ltF leT leF eqT eqF ltTn ltFn leTn leFn eqTn eqFn beqT beqF bneT bneF wi64 wu64 wu32 wu16 wu8 tmodP tdivP hgetL hgetNe hgetEq setL nums_def nums_len Nat.succ_le_of_lt List.getElem?_cons_zero List.getElem?_cons_succ Option.getD_some Int.toNat_add Int.toNat_mul agM okM agB agI agS agP agL agA okB okI okS okP okSl okA nt_strG nt_boolG nt_aggG nt_intG nt_ptrG nt_slG XO_s XO_z XLk_val XLk_call headsO behind List.length_cons List.length_nil List.mem_cons List.not_mem_nil or_false forall_eq_or_imp forall_eq List.contains_cons List.contains_nil XOm thenQ_ret scopeQ_ret inBlockQ_ret RQ resL resV PL_nil plainB_lit PL_cons PLc_val PLc_new stepP_t stepP_f stepPC_n stepPC_s stepPX_s stepPX_n stepPV_n stepPV_s stepPA_t stepPA_c stepPA_l stepPN_s allocOp reloc_sl reloc_ptr
section
theorem TermQ.layG{H H2 G:AH}{b:Nat}{F:List Nat}{T:List TermD}{x:TermD}{v:Value}(h:TermQ H2 b F T x v G)(lw:Low H.length H H2)(hF:∀j∈F,j<H.length){r:Nat}(hr0:H.length≤r)(hr:hget H2 r=some ⟨iv .u8 (zl 32), 26,none⟩):∃N:List Int,N=nmL (nameT x T)∧N.length=32∧(iv .u8 N).take 32=iv .u8 N∧setR (iv .u8 (zl 32)) 0 (iv .u8 N)=iv .u8 N∧v=.agg (iv .u8 N).toArray∧r<G.length∧hget G r=some ⟨iv .u8 (zl 32), 26,none⟩∧∀X:Option Blk,TermQ H b F T x (.agg (iv .u8 N).toArray) (G.set r X):=by
 obtain⟨h0,h2,h3,F',h4,h5⟩:=h
 have hl:=hget_lt hr
 have hn:r∉F:=fun e=>by have:=hF _ e;omega
 have hg:=(h3 r hl hn).trans hr
 have hle:=lw.2
 refine⟨nmL (nameT x T),rfl,rfl,rfl,?_,h0,hget_lt hg,hg,fun X=>⟨rfl,by simp;omega,fun j hj hjn=>?_,F',h4.low (fun j hj=>hget_set_ne ?_) (by simp),fun j hj=>?_⟩⟩
 ·exact setR_all _ _ (by simp [nmL_len])
 ·rw [hget_set_ne (by omega),h3 j (by omega) hjn,lw.1 j hj]
 ·rcases h5 j hj with h | h
  ·have:=hF j h;omega
  ·omega
 ·rcases h5 j hj with h | h
  ·exact .inl h
  ·exact .inr (by omega)
theorem hget_at2(G:AH)(R R2:Option Blk):hget (G++[R,R2]) (G.length+1)=R2:=by rw [hget_app];rfl
theorem wf_two{n:Nat}(hn:n=4∨n=5){k l:List Int}(hk:k.length=32)(hb:By k)(hl:l.length=32)(hbl:By l):TermD.Wf ⟨n,⟨#[]⟩,[k,l]⟩:=by
 refine⟨(by show n≤6;omega),(by show (0:Nat)≤_;omega),fun y hy=>?_,fun y hy=>?_,(by show 2≤1000000;omega),fun h=>?_,fun h=>rfl,fun h=>?_⟩
 ·rcases List.mem_cons.1 hy with rfl | hy
  ·exact hk
  ·rw [msG.1 hy];exact hl
 ·rcases List.mem_cons.1 hy with rfl | hy
  ·exact hb
  ·rw [msG.1 hy];exact hbl
 all_goals
  have h:n=_:=h
  omega
def agreeT(T:List TermD)(s p:List Int):TermD:=match findT T p with
 | some x=>if x.kind=3 then (if 0<cmpL s (x.keys.getD 0 []) then ⟨4,⟨#[]⟩,[x.keys.getD 0 [],s]⟩ else ⟨4,⟨#[]⟩,[s,x.keys.getD 0 []]⟩) else ⟨5,⟨#[]⟩,[s,p]⟩
 | none=>⟨5,⟨#[]⟩,[s,p]⟩
def AgreeQ(H:AH)(b:Nat)(F:List Nat)(T:List TermD)(s p:List Int)(v':Value)(H':AH):Prop:=
 (p=zl 32∧v'=.tuple #[.agg (iv .u8 (zl 32)).toArray,.bool false]∧Low H.length H H')∨(p≠zl 32∧∃v1,v'=.tuple #[v1,.bool true]∧TermQ H b F T (agreeT T s p) v1 H')
theorem row2{C a b:List Value}(h:C.length=64)(ha:a.length=32)(hb:b.length=32):setR (setR C 0 a) 32 b=a++b:=by
 have e:=setR_app a b C 0
 rw [Nat.zero_add,ha]at e
 rw [←e,setR_all _ _ (by rw [laP];omega)]
theorem agree0_ac{nro:Nat}{γ:Nat→Option Nat}{H:AH}{b:Nat}{F:List Nat}{T:List TermD}(hnH:nro≤H.length){s:List Int}(hs:s.length=32):AC Tryd.prog nro γ 202 #[.pointer (some ⟨b,0,none⟩),.agg (iv .u8 s).toArray,.agg (iv .u8 (zl 32)).toArray] H (AgreeQ H b F T s (zl 32)):=by
 have hts:(iv .u8 s).take 32=iv .u8 s:=tkL (by simp [hs])
 have hz:(List.take 32 (zl 32)==zl 32)=true:=by decide
 have hz2:setR (iv .u8 (zl 32)) 0 (iv .u8 (zl 32))=iv .u8 (zl 32):=rfl
 refine ac_of_aw Tryd.func202 rfl Tryd.ntmps202 Tryd.results202 (by simp) ?_
 (refine aso fun K hK=>?_;simp (disch:=first|omega|simp only [lnS];try omega) [-getElem?_pos,-getElem?_neg,hts];refine hK _ _ ?_;clear hK K)
 refine aw_seq (aw_seq ?_)
 (refine aoo fun K hK=>?_;simp (disch:=first|omega|simp only [lnS];try omega) [-getElem?_pos,-getElem?_neg,hz];refine hK _ _ ?_;clear hK K)
 refine awt (by simp<;>omega) ?_
 (refine aso fun K hK=>?_;simp (disch:=first|omega|simp only [lnS];try omega) [-getElem?_pos,-getElem?_neg,hz2];refine hK _ _ ?_;clear hK K)
 (refine aw_ret ?_;simp (disch:=first|omega|simp only [lnS];try omega) [-getElem?_pos,-getElem?_neg])
 exact .inl ⟨rfl,rfl,Low.push (nlE _) _⟩
theorem agreeN_ac{nro:Nat}{γ:Nat→Option Nat}{H:AH}(hpw:Pw γ H){b:Nat}{F:List Nat}{T:List TermD}(h:Tbl H b F T)(hnro:∀j∈F,nro≤j)(hnH:nro≤H.length){s p:List Int}(hs:s.length=32)(hbs:By s)(hp:p.length=32)(hbp:By p)(hp0:p≠zl 32)(hT:T.length≤1000000)
  (hk:∀x,findT T p=some x→x.kind≠3) :
  AC Tryd.prog nro γ 202 #[.pointer (some ⟨b,0,none⟩),.agg (iv .u8 s).toArray,.agg (iv .u8 p).toArray] H (AgreeQ H b F T s p):=by
 have hag:agreeT T s p=⟨5,⟨#[]⟩,[s,p]⟩:=by
  unfold agreeT
  cases hf:findT T p with
  | none=>rfl
  | some x=>simp only [if_neg (hk x hf)]
 have hFl:=h.bound
 have hT0:=h
 obtain⟨mb,tv,Ft,Fk,L,rfl,hL,rfl,_⟩:=h
 have hts:(iv .u8 s).take 32=iv .u8 s:=tkL (by simp [hs])
 have htp:(iv .u8 p).take 32=iv .u8 p:=tkL (by simp [hp])
 have hpb:(p==zl 32)=false:=by rw [beq_eq_false_iff_ne];exact hp0
 have p1:plain1 (.slice none 0 0)=true:=rfl
 have r3:List.range 3=[0,1,2]:=rfl
 have hf:=fun (N:AH)=>find_ac (nro:=nro) (γ:=γ) (hL.low (G:=H++N) (fun j hj=>hget_left (hFl j hj))) hp hbp
 have hcase:=findV_T L p
 have hrow:setR (setR (List.map (fun j=>(iv .u8 (zl 32))[j%32]?.getD undef) (List.range 64)) 0 (iv .u8 s)) 32 (iv .u8 p)=iv .u8 s++iv .u8 p:=row2 (by simp) (by simp [hs]) (by simp [hp])
 have hc:∀ (G:AH) (R:Option Blk),Low H.length H G→hget G (H.length+2)=some ⟨iv .u8 (zl 32), 26,none⟩→hget (G++[R,some ⟨iv .u8 s++iv .u8 p, 26,some 32⟩]) (G.length+1)=some ⟨iv .u8 s++iv .u8 p, 26,some 32⟩→AC Tryd.prog nro γ 72 #[.pointer (some ⟨b,0,none⟩),.int .i64 5,.string ⟨#[]⟩,.slice (some ⟨G.length+1,0,none⟩) 2 2] (G++[R,some ⟨iv .u8 s++iv .u8 p, 26,some 32⟩])
   (fun v' G3=>∃N:List Int,N=nmL (nameT ⟨5,⟨#[]⟩,[s,p]⟩ (L.map (·.2)))∧N.length=32∧(iv .u8 N).take 32=iv .u8 N∧setR (iv .u8 (zl 32)) 0 (iv .u8 N)=iv .u8 N∧v'=.agg (iv .u8 N).toArray∧H.length+2<G3.length∧hget G3 (H.length+2)=some ⟨iv .u8 (zl 32), 26,none⟩∧∀X:Option Blk,TermQ H b (b::mb::(Ft++Fk)) (L.map (·.2)) ⟨5,⟨#[]⟩,[s,p]⟩ (.agg (iv .u8 N).toArray) (G3.set (H.length+2) X)):=by
  intro G R lwG gz g2
  have lw2:Low H.length H (G++[R,some ⟨iv .u8 s++iv .u8 p, 26,some 32⟩]):=⟨fun j hj=>(hget_left (by have:=lwG.2;omega)).trans (lwG.1 j hj),by have:=lwG.2;simp;omega⟩
  have gz2:=(hget_left (L:=[R,some ⟨iv .u8 s++iv .u8 p, 26,some 32⟩]) (hget_lt gz)).trans gz
  have hlg:=lwG.2
  generalize G++[R,some ⟨iv .u8 s++iv .u8 p, 26,some 32⟩]=G2 at *
  refine (term_ac (nro:=nro) (γ:=γ) (hpw.low lw2) (hT0.low (fun j hj=>lw2.1 j (hFl j hj)) lw2.2) hnro (by have:=lw2.2;omega) (wf_two (.inr rfl) hs hbs hp hbp) (v:=.slice (some ⟨G.length+1,0,none⟩) 2 2) (fun D _ hj=>keys2 hs hp ((hj _ (hget_lt g2) (fun e=>by have:=hFl _ e;omega)).trans g2)) hT).mono fun v' G3 hQ=>?_
  exact hQ.layG lw2 hFl (by omega) gz2
 generalize findV L p=fv at *
 rcases hcase with ⟨⟨kv,x⟩,hm,rfl,hft⟩ | ⟨rfl,hft⟩
 ·have hkn:=hL.key_nt hm
  have hk3:x.kind≠3:=hk x hft
  have hk3b:((x.kind:Int)==3)=false:=by rw [beq_eq_false_iff_ne];omega
  have hk3i:¬ (x.kind:Int)=3:=by omega
  refine ac_of_aw Tryd.func202 rfl Tryd.ntmps202 Tryd.results202 (by simp) ?_
  (refine aso fun K hK=>?_;simp (disch:=first|omega|simp only [lnS];try omega) [-getElem?_pos,-getElem?_neg,hts,htp];refine hK _ _ ?_;clear hK K)
  refine aw_seq (aw_seq ?_)
  (refine aoo fun K hK=>?_;simp (disch:=first|omega|simp only [lnS];try omega) [-getElem?_pos,-getElem?_neg,htp,hp0,hpb];refine hK _ _ ?_;clear hK K)
  refine awf (by simp<;>omega) ?_
  refine aw_skip (aw_seq ?_)
  refine aoo fun K hK=>?_
  simp (disch:=first|omega|simp only [lnS];try omega) [-getElem?_pos,-getElem?_neg,htp]
  refine⟨by kernel_rfl,AC.mono (hf _) ?_⟩
  rintro _ G ⟨rfl,lw⟩
  have hGl:=lw.2
  rw [laP]at lw hGl
  have gs:hget G H.length=some ⟨iv .u8 s, 26,none⟩:=(lw.1 _ (by simp)).trans (by rw [hget_app0];rfl)
  have gp:hget G (H.length+1)=some ⟨iv .u8 p, 26,none⟩:=(lw.1 _ (by simp)).trans (by rw [hget_app];rfl)
  have gz:hget G (H.length+2)=some ⟨iv .u8 (zl 32), 26,none⟩:=(lw.1 _ (by simp)).trans (by rw [hget_app];rfl)
  have ls:=hget_lt gs
  have lp:=hget_lt gp
  have lz:=hget_lt gz
  have lwH:Low H.length H G:=⟨fun j hj=>(lw.1 j (by omega)).trans (hget_left hj),by omega⟩
  unfold tmRow
  try simp (disch:=first|omega|simp only [lnS];try omega) [-getElem?_pos,-getElem?_neg,-notTuple,hkn.1,hkn.2,p1,r3]
  refine hK _ _ ?_;clear hK K
  refine aw_seq (aw_seq ?_)
  refine aoo fun K hK=>?_
  simp (disch:=first|omega|simp only [lnS];try omega) [-getElem?_pos,-getElem?_neg,hk3b,hk3i]
  refine hK _ _ ?_;clear hK K
  refine awt (by simp<;>omega) ?_
  refine aso fun K hK=>?_
  simp (disch:=first|omega|simp only [lnS];try omega) [-getElem?_pos,-getElem?_neg,gs,gp,ls,lp,hts,htp,hrow]
  refine⟨by kernel_rfl,AC.mono (hc _ _ lwH gz (hget_at2 _ _ _)) ?_⟩
  intro v' G3 hQ
  obtain⟨N,_,lN,ht,hse,rfl,hlt,hg,hfin⟩:=hQ
  have hn2:nro≤H.length+2:=by omega
  try simp (disch:=first|omega|simp only [lnS];try omega) [-getElem?_pos,-getElem?_neg,hn2,lN,ht,hse,hg,hlt]
  refine hK _ _ ?_;clear hK K
  (refine aw_ret ?_;simp (disch:=first|omega|simp only [lnS];try omega) [-getElem?_pos,-getElem?_neg,lN,ht,hlt])
  exact .inr ⟨hp0,_,rfl,hag▸hfin _⟩
 ·unfold zkey at *
  refine ac_of_aw Tryd.func202 rfl Tryd.ntmps202 Tryd.results202 (by simp) ?_
  (refine aso fun K hK=>?_;simp (disch:=first|omega|simp only [lnS];try omega) [-getElem?_pos,-getElem?_neg,hts,htp];refine hK _ _ ?_;clear hK K)
  refine aw_seq (aw_seq ?_)
  (refine aoo fun K hK=>?_;simp (disch:=first|omega|simp only [lnS];try omega) [-getElem?_pos,-getElem?_neg,htp,hp0,hpb];refine hK _ _ ?_;clear hK K)
  refine awf (by simp<;>omega) ?_
  refine aw_skip (aw_seq ?_)
  refine aoo fun K hK=>?_
  simp (disch:=first|omega|simp only [lnS];try omega) [-getElem?_pos,-getElem?_neg,htp]
  refine⟨by kernel_rfl,AC.mono (hf _) ?_⟩
  rintro _ G ⟨rfl,lw⟩
  have hGl:=lw.2
  rw [laP]at lw hGl
  have gs:hget G H.length=some ⟨iv .u8 s, 26,none⟩:=(lw.1 _ (by simp)).trans (by rw [hget_app0];rfl)
  have gp:hget G (H.length+1)=some ⟨iv .u8 p, 26,none⟩:=(lw.1 _ (by simp)).trans (by rw [hget_app];rfl)
  have gz:hget G (H.length+2)=some ⟨iv .u8 (zl 32), 26,none⟩:=(lw.1 _ (by simp)).trans (by rw [hget_app];rfl)
  have ls:=hget_lt gs
  have lp:=hget_lt gp
  have lz:=hget_lt gz
  have lwH:Low H.length H G:=⟨fun j hj=>(lw.1 j (by omega)).trans (hget_left hj),by omega⟩
  try simp (disch:=first|omega|simp only [lnS];try omega) [-getElem?_pos,-getElem?_neg,p1,r3]
  refine hK _ _ ?_;clear hK K
  refine aw_seq (aw_seq ?_)
  refine aoo fun K hK=>?_
  simp (disch:=first|omega|simp only [lnS];try omega) [-getElem?_pos,-getElem?_neg]
  refine hK _ _ ?_;clear hK K
  refine awt (by simp<;>omega) ?_
  refine aso fun K hK=>?_
  simp (disch:=first|omega|simp only [lnS];try omega) [-getElem?_pos,-getElem?_neg,gs,gp,ls,lp,hts,htp,hrow]
  refine⟨by kernel_rfl,AC.mono (hc _ _ lwH gz (hget_at2 _ _ _)) ?_⟩
  intro v' G3 hQ
  obtain⟨N,_,lN,ht,hse,rfl,hlt,hg,hfin⟩:=hQ
  have hn2:nro≤H.length+2:=by omega
  try simp (disch:=first|omega|simp only [lnS];try omega) [-getElem?_pos,-getElem?_neg,hn2,lN,ht,hse,hg,hlt]
  refine hK _ _ ?_;clear hK K
  (refine aw_ret ?_;simp (disch:=first|omega|simp only [lnS];try omega) [-getElem?_pos,-getElem?_neg,lN,ht,hlt])
  exact .inr ⟨hp0,_,rfl,hag▸hfin _⟩
end
section
theorem two_ac{nro:Nat}{γ:Nat→Option Nat}{H G2:AH}(hpw:Pw γ H){b:Nat}{F:List Nat}{T:List TermD}(h:Tbl H b F T)(hnro:∀j∈F,nro≤j)(hnH:nro≤H.length){n:Nat}(hn:n=4∨n=5){s p:List Int}(hs:s.length=32)(hbs:By s)(hp:p.length=32)(hbp:By p)(hT:T.length≤1000000)
  (lw2:Low H.length H G2) {z q:Nat} (hz:H.length≤z) (gz:hget G2 z=some ⟨iv .u8 (zl 32), 26,none⟩) (hq:H.length≤q) (g2:hget G2 q=some ⟨iv .u8 s++iv .u8 p, 26,some 32⟩) :
  AC Tryd.prog nro γ 72 #[.pointer (some ⟨b,0,none⟩),.int .i64 (n:Nat),.string ⟨#[]⟩,.slice (some ⟨q,0,none⟩) 2 2] G2
   (fun v' G3=>∃N:List Int,N=nmL (nameT ⟨n,⟨#[]⟩,[s,p]⟩ T)∧N.length=32∧(iv .u8 N).take 32=iv .u8 N∧setR (iv .u8 (zl 32)) 0 (iv .u8 N)=iv .u8 N∧v'=.agg (iv .u8 N).toArray∧z<G3.length∧hget G3 z=some ⟨iv .u8 (zl 32), 26,none⟩∧∀X:Option Blk,TermQ H b F T ⟨n,⟨#[]⟩,[s,p]⟩ (.agg (iv .u8 N).toArray) (G3.set z X)):=by
 have hFl:=h.bound
 refine (term_ac (nro:=nro) (γ:=γ) (hpw.low lw2) (h.low (fun j hj=>lw2.1 j (hFl j hj)) lw2.2) hnro (by have:=lw2.2;omega) (wf_two hn hs hbs hp hbp) (v:=.slice (some ⟨q,0,none⟩) 2 2) (fun D _ hj=>keys2 hs hp ((hj _ (hget_lt g2) (fun e=>by have:=hFl _ e;omega)).trans g2)) hT).mono fun v' G3 hQ=>?_
 exact hQ.layG lw2 hFl hz gz
theorem agreeP_ac{nro:Nat}{γ:Nat→Option Nat}{H:AH}(hpw:Pw γ H){b:Nat}{F:List Nat}{T:List TermD}(h:Tbl H b F T)(hnro:∀j∈F,nro≤j)(hnH:nro≤H.length){s p:List Int}(hs:s.length=32)(hbs:By s)(hp:p.length=32)(hbp:By p)(hp0:p≠zl 32)(hT:T.length≤1000000)
  {y:TermD} (hy:findT T p=some y) (hy3:y.kind=3) :
  AC Tryd.prog nro γ 202 #[.pointer (some ⟨b,0,none⟩),.agg (iv .u8 s).toArray,.agg (iv .u8 p).toArray] H (AgreeQ H b F T s p):=by
 have hag:agreeT T s p=if 0<cmpL s (y.keys.getD 0 []) then ⟨4,⟨#[]⟩,[y.keys.getD 0 [],s]⟩ else ⟨4,⟨#[]⟩,[s,y.keys.getD 0 []]⟩:=by
  unfold agreeT
  rw [hy]
  simp only [if_pos hy3]
 have hFl:=h.bound
 have hT0:=h
 obtain⟨mb,tv,Ft,Fk,L,rfl,hL,rfl,_⟩:=h
 have hts:(iv .u8 s).take 32=iv .u8 s:=tkL (by simp [hs])
 have htp:(iv .u8 p).take 32=iv .u8 p:=tkL (by simp [hp])
 have hss:setR (iv .u8 (zl 32)) 0 (iv .u8 s)=iv .u8 s:=setR_all _ _ (by simp [hs])
 have hpb:(p==zl 32)=false:=by rw [beq_eq_false_iff_ne];exact hp0
 have p1:plain1 (.slice none 0 0)=true:=rfl
 have r3:List.range 3=[0,1,2]:=rfl
 have hf:=fun (N:AH)=>find_ac (nro:=nro) (γ:=γ) (hL.low (G:=H++N) (fun j hj=>hget_left (hFl j hj))) hp hbp
 have hcase:=findV_T L p
 rw [hy]at hcase
 generalize findV L p=fv at *
 obtain⟨kv,hm,rfl⟩:∃kv,(kv,y)∈L∧fv=.tuple #[.agg (tmRow kv y).toArray,.bool true]:=by
  rcases hcase with ⟨⟨kv,x⟩,hm,e,hft⟩ | ⟨_,hft⟩
  ·cases hft
   exact⟨kv,hm,e⟩
  ·cases hft
 have hw:y.Wf:=hL.wf _ hm
 have hk1:=hw.pub hy3
 obtain⟨c,hc⟩:∃c,y.keys=[c]:=by
  match hh:y.keys,hk1 with
  | [c],_=>exact⟨c,rfl⟩
 have lc:c.length=32:=hw.k32 c (by rw [hc];simp)
 have bc:By c:=hw.by_ c (by rw [hc];simp)
 have htc:(iv .u8 c).take 32=iv .u8 c:=tkL (by simp [lc])
 have hsc:setR (iv .u8 (zl 32)) 0 (iv .u8 c)=iv .u8 c:=setR_all _ _ (by simp [lc])
 obtain⟨jk,rfl,hjk⟩:∃j,kv=.slice (some ⟨j,0,none⟩) 1 1∧hget H j=some ⟨iv .u8 c, 26,some 32⟩:=by
  obtain⟨F0,ho,_⟩:=hL.keys _ hm
  have ho:OwnF H kv 26 32 (kr y.keys) F0:=ho
  rw [hc,kr_one]at ho
  rcases ho with ⟨_,e,_⟩ | ⟨j,len,e,hg,hl,_⟩
  ·have:=congrArg List.length e
   simp [lc]at this
  ·rw [iv_length,lc]at hl
   have:len=1:=by omega
   subst this
   exact⟨j,e,hg⟩
 rw [hc]at hag
 have hg0:([c]:List (List Int)).getD 0 []=c:=rfl
 rw [hg0]at hag
 have hk3b:((y.kind:Int)==3)=true:=by rw [hy3];rfl
 have hk3i:(y.kind:Int)=3:=by rw [hy3];rfl
 have hkn:notTuple (.slice (some ⟨jk,0,none⟩) 1 1)=true∧(Value.slice (some ⟨jk,0,none⟩) 1 1).cells=#[.slice (some ⟨jk,0,none⟩) 1 1]:=⟨rfl,rfl⟩
 refine ac_of_aw Tryd.func202 rfl Tryd.ntmps202 Tryd.results202 (by simp) ?_
 (refine aso fun K hK=>?_;simp (disch:=first|omega|simp only [lnS];try omega) [-getElem?_pos,-getElem?_neg,hts,htp];refine hK _ _ ?_;clear hK K)
 refine aw_seq (aw_seq ?_)
 (refine aoo fun K hK=>?_;simp (disch:=first|omega|simp only [lnS];try omega) [-getElem?_pos,-getElem?_neg,htp,hp0,hpb];refine hK _ _ ?_;clear hK K)
 refine awf (by simp<;>omega) ?_
 refine aw_skip (aw_seq ?_)
 refine aoo fun K hK=>?_
 simp (disch:=first|omega|simp only [lnS];try omega) [-getElem?_pos,-getElem?_neg,htp]
 refine⟨by kernel_rfl,AC.mono (hf _) ?_⟩
 rintro _ G ⟨rfl,lw⟩
 have hGl:=lw.2
 rw [laP]at lw hGl
 have gs:hget G H.length=some ⟨iv .u8 s, 26,none⟩:=(lw.1 _ (by simp)).trans (by rw [hget_app0];rfl)
 have gp:hget G (H.length+1)=some ⟨iv .u8 p, 26,none⟩:=(lw.1 _ (by simp)).trans (by rw [hget_app];rfl)
 have gz:hget G (H.length+2)=some ⟨iv .u8 (zl 32), 26,none⟩:=(lw.1 _ (by simp)).trans (by rw [hget_app];rfl)
 have ls:=hget_lt gs
 have lp:=hget_lt gp
 have lz:=hget_lt gz
 have lwH:Low H.length H G:=⟨fun j hj=>(lw.1 j (by omega)).trans (hget_left hj),by omega⟩
 have gj:hget G jk=some ⟨iv .u8 c, 26,some 32⟩:=(lwH.1 _ (hget_lt hjk)).trans hjk
 have lj:=hget_lt gj
 unfold tmRow
 try simp (disch:=first|omega|simp only [lnS];try omega) [-getElem?_pos,-getElem?_neg,-notTuple,hkn.1,hkn.2,p1,r3]
 refine hK _ _ ?_;clear hK K
 refine aw_seq (aw_seq ?_)
 refine aoo fun K hK=>?_
 simp (disch:=first|omega|simp only [lnS];try omega) [-getElem?_pos,-getElem?_neg,hk3b,hk3i]
 refine hK _ _ ?_;clear hK K
 refine awf (by simp<;>omega) ?_
 refine aw_skip (aw_seq ?_)
 (refine aw_plan [] [] [0,1,2,3,4,5,6] 7 2 (by kernel_rfl) (by kernel_rfl) (by kernel_rfl) (fun K hK=>?_));simp only [sel,gcS,gdZ];simp (disch:=first|omega|simp only [lnS];try omega) [-getElem?_pos,-getElem?_neg,gs,ls,gj,lj,hts,htc,hss,hsc,-notTuple,Nat.add_assoc]
 refine hK _ _ ?_;clear hK K
 obtain⟨G4,hG4⟩:∃G4:AH,G4=G++[some ⟨[.int .i64 3,.string y.text,.slice (some ⟨jk,0,none⟩) 1 1], 216,none⟩,some ⟨iv .u8 s, 26,none⟩,some ⟨iv .u8 c, 26,none⟩]:=⟨_,rfl⟩
 have g41:hget G4 (G.length+1)=some ⟨iv .u8 s, 26,none⟩:=by rw [hG4,hget_app];rfl
 have g42:hget G4 (G.length+2)=some ⟨iv .u8 c, 26,none⟩:=by rw [hG4,hget_app];rfl
 have g4l:G4.length=G.length+3:=by rw [hG4];simp
 have g4j:∀j,j<G.length→hget G4 j=hget G j:=fun j hj=>by rw [hG4,hget_left hj]
 have g4z:=(g4j _ lz).trans gz
 have g4lw:∀j,j<H.length→hget G4 j=hget H j:=fun j hj=>(g4j j (by omega)).trans (lwH.1 j hj)
 have l41:=hget_lt g41
 have l42:=hget_lt g42
 rw [←hG4]
 clear hG4 lw
 refine aw_seq (aw_seq ?_)
 by_cases hgt:0<cmpL s c
 ·rw [if_pos hgt]at hag
  (refine aw_plan [] [] [0,1,2,3] 4 0 (by kernel_rfl) (by kernel_rfl) (by kernel_rfl) (fun K hK=>?_));simp only [sel,gcS,gdZ];simp (disch:=first|omega|simp only [lnS];try omega) [-getElem?_pos,-getElem?_neg,g41,g42,l41,l42,hs,lc,Nat.add_assoc]
  refine PLc_call (v:=.int .i64 (cmpL s c)) (by kernel_rfl) (fun N hN=>?_) (by simp [pv_iv,pv_int,pv_bool,pv_string,pv_tup2,pv_tup3,iv_plain,p2_int,p2_bool,p2_string]) ?_
  ·exact (compare_ac (hget_left' g41) (hget_left' g42) hs lc).mono fun v' H' h=>h.1
  try simp (disch:=first|omega|simp only [lnS];try omega) [-getElem?_pos,-getElem?_neg,hgt,Nat.add_assoc]
  refine hK _ _ ?_;clear hK K
  refine awt (by simp<;>omega) ?_
  have hn1:nro≤G.length+1:=by omega
  have hn22:nro≤G.length+2:=by omega
  have hcs2:setR (iv .u8 c) 0 (iv .u8 s)=iv .u8 s:=setR_all _ _ (by simp [hs,lc])
  have hsc2:setR (iv .u8 s) 0 (iv .u8 c)=iv .u8 c:=setR_all _ _ (by simp [hs,lc])
  (refine aoo fun K hK=>?_;simp (disch:=first|omega|simp only [lnS];try omega) [-getElem?_pos,-getElem?_neg,g41,g42,l41,l42,hts,htc,hn1,hn22,hcs2,hsc2];refine hK _ _ ?_;clear hK K)
  obtain⟨G5,hG5⟩:∃G5:AH,G5=(G4.set (G.length+1) (some ⟨iv .u8 c, 26,none⟩)).set (G.length+2) (some ⟨iv .u8 s, 26,none⟩):=⟨_,rfl⟩
  have g51:hget G5 (G.length+1)=some ⟨iv .u8 c, 26,none⟩:=by rw [hG5,hget_set_ne (by omega),hget_set_eq l41]
  have g52:hget G5 (G.length+2)=some ⟨iv .u8 s, 26,none⟩:=by rw [hG5,hget_set_eq (by simp;omega)]
  have g5j:∀j,j<G.length→hget G5 j=hget G4 j:=fun j hj=>by rw [hG5,hget_set_ne (by omega),hget_set_ne (by omega)]
  have g5l:G5.length=G.length+3:=by rw [hG5];simp;omega
  have g5z:=(g5j _ lz).trans g4z
  have g5lw:∀j,j<H.length→hget G5 j=hget H j:=fun j hj=>(g5j j (by omega)).trans (g4lw j hj)
  have l51:=hget_lt g51
  have l52:=hget_lt g52
  rw [←hG5]
  clear hG5
  have hrow:setR (setR (List.map (fun j=>(iv .u8 (zl 32))[j%32]?.getD undef) (List.range 64)) 0 (iv .u8 c)) 32 (iv .u8 s)=iv .u8 c++iv .u8 s:=row2 (by simp) (by simp [lc]) (by simp [hs])
  have htw:=two_ac (nro:=nro) (γ:=γ) (G2:=G5++[some ⟨iv .u8 c++iv .u8 s, 26,some 32⟩]) hpw hT0 hnro hnH (n:=4) (.inl rfl) lc bc hs hbs hT ⟨fun j hj=>(hget_left (by omega)).trans (g5lw j hj),by simp;omega⟩ (z:=H.length+2) (q:=G5.length) (by omega) ((hget_left (by omega)).trans g5z) (by omega) (by rw [hget_app0];rfl)
  refine aso fun K hK=>?_
  simp (disch:=first|omega|simp only [lnS];try omega) [-getElem?_pos,-getElem?_neg,g51,g52,l51,l52,hts,htc,hrow]
  refine⟨by kernel_rfl,AC.mono htw ?_⟩
  intro v' G3 hQ
  obtain⟨N,_,lN,ht,hse,rfl,hlt,hg,hfin⟩:=hQ
  have hn2:nro≤H.length+2:=by omega
  try simp (disch:=first|omega|simp only [lnS];try omega) [-getElem?_pos,-getElem?_neg,hn2,lN,ht,hse,hg,hlt]
  refine hK _ _ ?_;clear hK K
  (refine aw_ret ?_;simp (disch:=first|omega|simp only [lnS];try omega) [-getElem?_pos,-getElem?_neg,lN,ht,hlt])
  exact .inr ⟨hp0,_,rfl,hag▸hfin _⟩
 ·rw [if_neg hgt]at hag
  (refine aw_plan [] [] [0,1,2,3] 4 0 (by kernel_rfl) (by kernel_rfl) (by kernel_rfl) (fun K hK=>?_));simp only [sel,gcS,gdZ];simp (disch:=first|omega|simp only [lnS];try omega) [-getElem?_pos,-getElem?_neg,g41,g42,l41,l42,hs,lc,Nat.add_assoc]
  refine PLc_call (v:=.int .i64 (cmpL s c)) (by kernel_rfl) (fun N hN=>?_) (by simp [pv_iv,pv_int,pv_bool,pv_string,pv_tup2,pv_tup3,iv_plain,p2_int,p2_bool,p2_string]) ?_
  ·exact (compare_ac (hget_left' g41) (hget_left' g42) hs lc).mono fun v' H' h=>h.1
  try simp (disch:=first|omega|simp only [lnS];try omega) [-getElem?_pos,-getElem?_neg,hgt,Nat.add_assoc]
  refine hK _ _ ?_;clear hK K
  refine awf (by simp<;>omega) ?_
  refine aw_skip ?_
  have hrow:setR (setR (List.map (fun j=>(iv .u8 (zl 32))[j%32]?.getD undef) (List.range 64)) 0 (iv .u8 s)) 32 (iv .u8 c)=iv .u8 s++iv .u8 c:=row2 (by simp) (by simp [hs]) (by simp [lc])
  have htw:=two_ac (nro:=nro) (γ:=γ) (G2:=G4++[some ⟨iv .u8 s++iv .u8 c, 26,some 32⟩]) hpw hT0 hnro hnH (n:=4) (.inl rfl) hs hbs lc bc hT ⟨fun j hj=>(hget_left (by omega)).trans (g4lw j hj),by simp;omega⟩ (z:=H.length+2) (q:=G4.length) (by omega) ((hget_left (by omega)).trans g4z) (by omega) (by rw [hget_app0];rfl)
  refine aso fun K hK=>?_
  simp (disch:=first|omega|simp only [lnS];try omega) [-getElem?_pos,-getElem?_neg,g41,g42,l41,l42,hts,htc,hrow]
  refine⟨by kernel_rfl,AC.mono htw ?_⟩
  intro v' G3 hQ
  obtain⟨N,_,lN,ht,hse,rfl,hlt,hg,hfin⟩:=hQ
  have hn2:nro≤H.length+2:=by omega
  try simp (disch:=first|omega|simp only [lnS];try omega) [-getElem?_pos,-getElem?_neg,hn2,lN,ht,hse,hg,hlt]
  refine hK _ _ ?_;clear hK K
  (refine aw_ret ?_;simp (disch:=first|omega|simp only [lnS];try omega) [-getElem?_pos,-getElem?_neg,lN,ht,hlt])
  exact .inr ⟨hp0,_,rfl,hag▸hfin _⟩
theorem agree_ac{nro:Nat}{γ:Nat→Option Nat}{H:AH}(hpw:Pw γ H){b:Nat}{F:List Nat}{T:List TermD}(h:Tbl H b F T)(hnro:∀j∈F,nro≤j)(hnH:nro≤H.length){s p:List Int}(hs:s.length=32)(hbs:By s)(hp:p.length=32)(hbp:By p)(hT:T.length≤1000000) :
  AC Tryd.prog nro γ 202 #[.pointer (some ⟨b,0,none⟩),.agg (iv .u8 s).toArray,.agg (iv .u8 p).toArray] H (AgreeQ H b F T s p):=by
 by_cases hp0:p=zl 32
 ·subst hp0
  exact agree0_ac hnH hs
 ·cases hy:findT T p with
  | none=>exact agreeN_ac hpw h hnro hnH hs hbs hp hbp hp0 hT (fun x hx=>by rw [hy]at hx;cases hx)
  | some y=>
   by_cases hy3:y.kind=3
   ·exact agreeP_ac hpw h hnro hnH hs hbs hp hbp hp0 hT hy hy3
   ·exact agreeN_ac hpw h hnro hnH hs hbs hp hbp hp0 hT (fun x hx=>by rw [hy]at hx;cases hx;exact hy3)
end
section
theorem cloneP_ac{nro:Nat}{γ:Nat→Option Nat}{H:AH}{v:Value}{ks:List (List Int)}(hv:PartK H H.length v ks)(hk:K32 ks)(hc:ks.length≤1000000)(hnro:nro≤H.length) :
  AC Tryd.prog nro γ 99 #[v] H (fun v' H'=>OwnK H.length H' v' ks∧Low H.length H H'):=by
 obtain⟨⟨a,c,rfl⟩,hx⟩:=hv
 cases a with
 | none=>
  have h0:ks=[]:=by
   have:=hx H (fun _ _=>rfl)
   cases hks:ks.length with
   | zero=>exact List.eq_nil_of_length_eq_zero hks
   | succ n=>
    rw [hks]at this
    simp [xcells]at this
  subst h0
  refine ac_of_aw Tryd.func99 rfl Tryd.ntmps99 Tryd.results99 (by simp) ?_
  (refine aso fun K hK=>?_;simp (disch:=first|omega|simp only [lnS];try omega);refine hK _ _ ?_;clear hK K)
  refine aw_seq (aw_seq ?_)
  (refine aoo fun K hK=>?_;simp (disch:=first|omega|simp only [lnS];try omega);refine hK _ _ ?_;clear hK K)
  refine awt (by simp<;>omega) ?_
  (refine aso fun K hK=>?_;simp (disch:=first|omega|simp only [lnS];try omega);refine hK _ _ ?_;clear hK K)
  (refine aw_ret ?_;simp (disch:=first|omega|simp only [lnS];try omega))
  exact⟨.inl ⟨rfl,rfl⟩,Low.refl (nlE _)⟩
 | some a=>
  have ho0:OwnK H.length (H++[some ⟨[], 26,some 32⟩]) (.slice (some ⟨H.length,0,none⟩) 0 0) []:=.inr ⟨H.length,[],nlE _,rfl,by rw [hget_app0];rfl,List.prefix_rfl⟩
  obtain⟨v7,G3,hap,ho3,hl3,hk3⟩:=ownK_append (nro:=nro) (x:=.slice (some a) ks.length c) (fun k hk=>(by cases hk)) hk ho0 hnro (by simp) (fun s e=>by cases e) (hx _ (fun j hj=>hget_left hj)) (by simp;omega)
  have hnt7:=ho3.nt
  refine ac_of_aw Tryd.func99 rfl Tryd.ntmps99 Tryd.results99 (by simp) ?_
  (refine aso fun K hK=>?_;simp (disch:=first|omega|simp only [lnS];try omega);refine hK _ _ ?_;clear hK K)
  refine aw_seq (aw_seq ?_)
  (refine aoo fun K hK=>?_;simp (disch:=first|omega|simp only [lnS];try omega);refine hK _ _ ?_;clear hK K)
  refine awf (by simp<;>omega) ?_
  refine aw_skip (aw_seq ?_)
  (refine aoo fun K hK=>?_;simp (disch:=first|omega|simp only [lnS];try omega) [-xappend,hap,hnt7.1,hnt7.2,-notTuple];refine hK _ _ ?_;clear hK K)
  (refine aw_ret ?_;simp (disch:=first|omega|simp only [lnS];try omega) [hnt7.1,hnt7.2])
  simp only [laP,List.length_cons,List.length_nil]at hl3
  rw [List.nil_append]at ho3
  exact⟨ho3,fun j hj=>(hk3 j hj).trans (hget_left hj),by omega⟩
end
end
section
theorem place_none{x:TermD}{T:List TermD}(hx:x.Wf)(hT:∀y∈T,y.Wf)(h:x∉T):placeT x T=none:=by
 cases hp:placeT x T with
 | none=>rfl
 | some i=>exact absurd (moG (place_some hx hT hp)) h
theorem idxS_mem{s:ByteArray}:∀ {L:List ByteArray},s∈L→∃i,idxS s L=some i
 | x::L,h=>by
  unfold idxS
  by_cases e:s=x
  ·exact⟨0,if_pos e⟩
  ·rw [if_neg e]
   rcases List.mem_cons.1 h with h | h
   ·exact absurd h e
   ·obtain⟨i,hi⟩:=idxS_mem h
    exact⟨i+1,by rw [hi];rfl⟩
theorem add_new{x:TermD}{T:List TermD}(hx:x.Wf)(hT:∀y∈T,y.Wf)(h:x∉T):addT x T=T++[x]∧nameT x T=T.length:=by
 have:=place_none hx hT h
 exact⟨by unfold addT;rw [this],by unfold nameT;rw [this]⟩
theorem add_old{x:TermD}{T:List TermD}(hx:x.Wf)(hT:∀y∈T,y.Wf)(hn:T.Nodup){i:Nat}(h:T[i]?=some x):addT x T=T∧nameT x T=i:=by
 obtain⟨j,hj⟩:=idxS_mem (List.mem_map.2 ⟨x,moG h,rfl⟩:x.rec_∈T.map TermD.rec_)
 have hp:placeT x T=some j:=hj
 have h2:=place_some hx hT hp
 have e:j=i:=(List.getElem?_inj (gsI.1 h2).1 hn).1 (h2.trans h.symm)
 exact⟨by unfold addT;rw [hp],by unfold nameT;rw [hp];exact e⟩
theorem wf_atom{s:ByteArray}(hs:s.size≤100000000):TermD.Wf ⟨1,s,[]⟩:=wf_0 (.inl rfl) hs
end
section
abbrev mU(k:List Int):TermD:=⟨3,⟨#[]⟩,[k]⟩
abbrev mK(k l:List Int):TermD:=⟨4,⟨#[]⟩,[k,l]⟩
def n0:List Int:=nmL ((0:Nat):Int)
def n1:List Int:=nmL ((1:Nat):Int)
def n2:List Int:=nmL ((2:Nat):Int)
def n3:List Int:=nmL ((3:Nat):Int)
def n4:List Int:=nmL ((4:Nat):Int)
theorem p0:pk n0=some 0:=pk_nm (by omega)
theorem mU_wf{k:List Int}(h:k.length=32)(hb:By k):(mU k).Wf:=wf_pub h hb
theorem mK_wf{k l:List Int}(h:k.length=32)(hb:By k)(hl:l.length=32)(hbl:By l):(mK k l).Wf:=wf_two (.inl rfl) h hb hl hbl
section
variable {a b:ByteArray} (ha:a.size≤300) (hb:b.size≤300)
theorem agr_of{T:List TermD}{s p c:List Int}(h:findT T p=some (mU c)):agreeT T s p=if 0<cmpL s c then mK c s else mK s c:=by
 unfold agreeT
 rw [h]
 rfl
end
end
section
def db32L:List Int:=[0,1,28,2,29,14,24,3,30,22,20,15,25,17,4,8,31,27,13,23,21,19,16,7,26,12,18,6,11,5,10,9]
def db64L:List Int:=[0,1,56,2,57,49,28,3,61,58,42,50,38,29,17,4,62,47,59,36,45,43,51,22,53,39,33,30,24,18,12,5,63,55,48,27,60,41,37,16,46,35,44,21,52,32,23,11,54,26,40,15,34,20,31,10,25,14,19,9,13,8,7,6]
end
section
def nN(x:TermD)(T:List TermD):List Int:=nmL (nameT x T:Nat)
theorem nN_len(x:TermD)(T:List TermD):(nN x T).length=32:=rfl
theorem nN_by(x:TermD)(T:List TermD):By (nN x T):=nmL_by _
structure Kt (H0:AH) (Y:List Nat) (G:AH) (b:Nat) (T:List TermD):Prop where
 lw:Low H0.length H0 G
 y:∀j∈Y,H0.length≤j∧j<G.length
 t:∃F,Tbl G b F T∧∀j∈F,H0.length≤j∧j∉Y
def KtQ(H0:AH)(Y:List Nat)(G:AH)(b:Nat)(T':List TermD)(G':AH):Prop:=Kt H0 Y G' b T'∧(∀j∈Y,hget G' j=hget G j)∧G.length≤G'.length
def KsX(n:Nat)(Y:List Nat)(G:AH)(v:Value)(ks:List (List Int)):Prop:=∀G':AH,G.length≤G'.length→(∀j,j<n→hget G' j=hget G j)→(∀j∈Y,hget G' j=hget G j)→KsV G' v ks
section
variable {H0 G G':AH} {Y R:List Nat} {b:Nat} {T:List TermD}
theorem KsX.now{n:Nat}{v:Value}{ks:List (List Int)}(h:KsX n Y G v ks):KsV G v ks:=h G (nlE _) (fun _ _=>rfl) (fun _ _=>rfl)
theorem KsX.step{n:Nat}{Y':List Nat}{v:Value}{ks:List (List Int)}(h:KsX n Y G v ks)(hl:G.length≤G'.length)(hn:∀j,j<n→hget G' j=hget G j)(hy:∀j∈Y,j∈Y'∧hget G' j=hget G j):KsX n Y' G' v ks:=fun D hd hdn hdy=>
 h D (by omega) (fun j hj=>(hdn j hj).trans (hn j hj)) (fun j hj=>(hdy j (hy j hj).1).trans (hy j hj).2)
theorem KsX.nt{n:Nat}{v:Value}{ks:List (List Int)}(h:KsX n Y G v ks):notTuple v=true∧v.cells=#[v]:=val_nt h.now
theorem ownF_ksx{n:Nat}{v:Value}{ks:List (List Int)}{F:List Nat}(h:OwnF G v 26 32 (kr ks) F)(hk:K32 ks)(hF:∀j∈F,j∈Y):KsX n Y G v ks:=fun D _ _ hy=>kr_ksv (h.low fun j hj=>hy j (hF j hj)) hk
theorem Kt.old{T':List TermD}(h:Kt H0 Y G b T)(q:KtQ H0 Y G b T' G'):∀j,j<H0.length→hget G' j=hget G j:=fun j hj=>(q.1.lw.1 j hj).trans (h.lw.1 j hj).symm
theorem Kt.le(h:Kt H0 Y G b T):H0.length≤G.length:=h.lw.2
theorem Kt.less(h:Kt H0 Y G b T){Z:List Nat}(hz:∀j∈Z,j∈Y):Kt H0 Z G b T:=by
 obtain⟨F,h1,h2⟩:=h.t
 exact⟨h.lw,fun j hj=>h.y j (hz j hj),F,h1,fun j hj=>⟨(h2 j hj).1,fun e=>(h2 j hj).2 (hz j e)⟩⟩
theorem Kt.grow(h:Kt H0 Y G b T)(lw:Low G.length G G')(hR:∀j∈R,G.length≤j∧j<G'.length):Kt H0 (R++Y) G' b T:=by
 obtain⟨F,h1,h2⟩:=h.t
 have hle:=h.lw.2
 have hle2:=lw.2
 refine⟨⟨fun j hj=>(lw.1 j (by omega)).trans (h.lw.1 j hj),by omega⟩,fun j hj=>?_,F,h1.low (fun j hj=>lw.1 j (h1.bound j hj)) lw.2,fun j hj=>⟨(h2 j hj).1,fun e=>?_⟩⟩
 ·rcases maP.1 hj with e | e
  ·have:=hR j e;omega
  ·have:=h.y j e;omega
 ·rcases maP.1 e with e | e
  ·have:=hR j e;have:=h1.bound j hj;omega
  ·exact (h2 j hj).2 e
theorem Kt.push(h:Kt H0 Y G b T)(B:Option Blk):Kt H0 (G.length::Y) (G++[B]) b T:=h.grow (R:=[G.length]) ⟨fun j hj=>hget_left hj,by simp⟩ (fun j hj=>by rw [msG.1 hj];simp)
theorem Kt.low(h:Kt H0 Y G b T)(lw:Low G.length G G'):Kt H0 Y G' b T:=h.grow (R:=[]) lw (fun j hj=>by cases hj)
theorem Kt.set(h:Kt H0 Y G b T){r:Nat}(hr:r∈Y)(B:Option Blk):Kt H0 Y (G.set r B) b T:=by
 obtain⟨F,h1,h2⟩:=h.t
 have hy:=h.y r hr
 refine⟨⟨fun j hj=>(hget_set_ne (by omega)).trans (h.lw.1 j hj),by simp;exact h.lw.2⟩,fun j hj=>by simp;exact h.y j hj,F,h1.low (fun j hj=>hget_set_ne (fun e=>(h2 j hj).2 (e▸hr))) (by simp),h2⟩
theorem kt_new{F:List Nat}(lw:Low H0.length H0 G)(h:Tbl G b F T)(hF:∀j∈F,H0.length≤j):Kt H0 [] G b T:=⟨lw,fun j hj=>(by cases hj),F,h,fun j hj=>⟨hF j hj,by simp⟩⟩
theorem Kt.term(h:Kt H0 Y G b T){F:List Nat}(hF:∀j∈F,H0.length≤j∧j∉Y){x:TermD}{v':Value}(q:TermQ G b F T x v' G'):v'=.agg (iv .u8 (nN x T)).toArray∧KtQ H0 Y G b (addT x T) G':=by
 obtain⟨q1,q2,q3,F',q4,q5⟩:=q
 have hle:=h.lw.2
 refine⟨q1,⟨⟨fun j hj=>(q3 j (by omega) (fun e=>by have:=(hF j e).1;omega)).trans (h.lw.1 j hj),by omega⟩,fun j hj=>by have:=h.y j hj;omega,F',q4,fun j hj=>?_⟩,fun j hj=>q3 j (h.y j hj).2 (fun e=>(hF j e).2 hj),q2⟩
 rcases q5 j hj with e | e
 ·exact hF j e
 ·exact⟨by omega,fun hy=>by have:=(h.y j hy).2;omega⟩
variable {γ:Nat→Option Nat}
theorem kt_draw(hpw:Pw γ H0)(h:Kt H0 Y G b T){s:ByteArray}(hs:s.size≤100000000)(hT:T.length≤1000000):AC Tryd.prog H0.length γ 23 #[.pointer (some ⟨b,0,none⟩),.string s] G (fun v' G'=>v'=.agg (iv .u8 (nN ⟨1,s,[]⟩ T)).toArray∧KtQ H0 Y G b (addT ⟨1,s,[]⟩ T) G'):=by
 obtain⟨F,h1,h2⟩:=h.t
 exact (draw_ac (hpw.low h.lw) h1 (fun j hj=>(h2 j hj).1) h.lw.2 hs hT).mono fun v' G' q=>h.term h2 q
theorem kt_hash(hpw:Pw γ H0)(h:Kt H0 Y G b T){s:ByteArray}{ks:List (List Int)}(hx:TermD.Wf ⟨2,s,ks⟩){v:Value}(hK:KsX H0.length Y G v ks)(hT:T.length≤1000000):AC Tryd.prog H0.length γ 82 #[.pointer (some ⟨b,0,none⟩),.string s,v] G (fun v' G'=>v'=.agg (iv .u8 (nN ⟨2,s,ks⟩ T)).toArray∧KtQ H0 Y G b (addT ⟨2,s,ks⟩ T) G'):=by
 obtain⟨F,h1,h2⟩:=h.t
 exact (hash_ac (hpw.low h.lw) h1 (fun j hj=>(h2 j hj).1) h.lw.2 hx (fun D hl hg=>hK D hl (fun j hj=>hg j (by have:=h.lw.2;omega) (fun e=>by have:=(h2 j e).1;omega)) (fun j hj=>hg j (h.y j hj).2 (fun e=>(h2 j e).2 hj))) hT).mono fun v' G' q=>h.term h2 q
theorem kt_pub(hpw:Pw γ H0)(h:Kt H0 Y G b T){k:List Int}(hk:k.length=32)(hb:By k)(hT:T.length≤1000000):AC Tryd.prog H0.length γ 204 #[.pointer (some ⟨b,0,none⟩),.agg (iv .u8 k).toArray] G (fun v' G'=>v'=.agg (iv .u8 (nN ⟨3,⟨#[]⟩,[k]⟩ T)).toArray∧KtQ H0 Y G b (addT ⟨3,⟨#[]⟩,[k]⟩ T) G'):=by
 obtain⟨F,h1,h2⟩:=h.t
 exact (pubT_ac (hpw.low h.lw) h1 (fun j hj=>(h2 j hj).1) h.lw.2 hk hb hT).mono fun v' G' q=>h.term h2 q
theorem kt_agree(hpw:Pw γ H0)(h:Kt H0 Y G b T){s p:List Int}(hs:s.length=32)(hbs:By s)(hp:p.length=32)(hbp:By p)(hp0:p≠zl 32)(hT:T.length≤1000000):AC Tryd.prog H0.length γ 202 #[.pointer (some ⟨b,0,none⟩),.agg (iv .u8 s).toArray,.agg (iv .u8 p).toArray] G (fun v' G'=>v'=.tuple #[.agg (iv .u8 (nN (agreeT T s p) T)).toArray,.bool true]∧KtQ H0 Y G b (addT (agreeT T s p) T) G'):=by
 obtain⟨F,h1,h2⟩:=h.t
 refine (agree_ac (hpw.low h.lw) h1 (fun j hj=>(h2 j hj).1) h.lw.2 hs hbs hp hbp hT).mono fun v' G' q=>?_
 rcases q with ⟨e,_⟩ | ⟨_,v1,rfl,q⟩
 ·exact absurd e hp0
 ·obtain⟨rfl,hq⟩:=h.term h2 q
  exact⟨rfl,hq⟩
theorem kt_obj{l:List (Nat×List TermD)}{T0:List TermD}:ObjK H0.length (fun s Y G=>Kt H0 Y G b (stT l T0 s)) (l.map (·.1)):=by
 refine⟨fun s Y G h=>⟨h.lw.2,h.y⟩,fun s Y G i hi h=>?_,fun s Y G B h=>h.push B,fun s Y G r B hr h=>h.set hr B⟩
 have:∀ (l:List (Nat×List TermD)) (T0:List TermD),i∉l.map (·.1)→stT l T0 (s.setIfInBounds i true)=stT l T0 s:=by
  intro l
  induction l with
  | nil=>intros;rfl
  | cons p l ih=>
   intro T0 hi
   simp only [List.map_cons,List.mem_cons,not_or]at hi
   unfold stT
   rw [sgN hi.1,ih _ hi.2]
 rw [this l T0 hi]
 exact h
end
end
section
theorem ownF_appK{P:Program}{nro:Nat}{t e:TypeId}{H:AH}{v x:Value}{sz:Nat}{cells news:List Value}{F:List Nat}(hu:und P t=.slice e)(hs:szt P e=sz)(h0:0<sz)(hz:(zer P e).map (·.cells.size)=some sz)
  (hv:OwnF H v e sz cells F) (hnro:∀j∈F,nro≤j) (hstr:∀s,x≠.string s) (hx:xcells sz x H=some news) (hd:news.length%sz=0) (hb:(cells.length+news.length)*byt P e≤140737488355328) (hm:cells.length+news.length≤maxLen) :
  ∃v' H' F',xappend P nro t v x H=some (v',H')∧OwnF H' v' e sz (cells++news) F'∧H.length≤H'.length∧(∀j,j<H.length→j∉F→hget H' j=hget H j)∧∀j∈F',H.length≤j:=by
 by_cases hn:news=[]
 ·subst hn
  rcases hv with ⟨rfl,rfl,rfl⟩ | ⟨j,len,rfl,h3,h4,rfl⟩
  ·refine⟨.slice none 0 0,H,[],?_,.inl ⟨rfl,rfl,rfl⟩,nlE _,fun _ _ _=>rfl,fun j hj=>(by cases hj)⟩
   subst hs
   unfold xappend
   cases x <;> first | (exact absurd rfl (hstr _)) | (simp only [hu,hx];rw [if_pos ⟨h0,hz,by simp,by simp⟩];first | rw [if_pos rfl] | rw [if_pos trivial])
  ·subst hs
   have hj:=hget_lt h3
   refine⟨.slice (some ⟨H.length,0,none⟩) len len,H.set j none++[some ⟨cells,e,some (szt P e)⟩],[H.length],?_,.inr ⟨H.length,len,rfl,?_,by simpa using h4,rfl⟩,by simp,fun i hi hni=>?_,fun j hj=>by simp at hj;omega⟩
   ·have hc:True∧0<szt P e∧(zer P e).map (·.cells.size)=some (szt P e)∧nro≤j∧True∧True∧len*szt P e≤cells.length∧(len*szt P e+0)*byt P e≤140737488355328∧len*szt P e+0≤maxLen:=
     ⟨trivial,h0,hz,hnro j (by simp),trivial,trivial,by omega,by rw [←h4];exact hb,by rw [←h4];exact hm⟩
    have e2:cells.take (len*szt P e)=cells:=tkL (by omega)
    unfold xappend
    cases x <;> first | (exact absurd rfl (hstr _)) | (simp only [hu,hx,h3,List.length_nil];rw [if_pos hc,e2];simp)
   ·have:(H.set j none).length=H.length:=by simp
    rw [←this,hget_app0,hget_cons0,List.append_nil]
   ·rw [hget_left (by simp;omega),hget_set_ne (fun e=>hni (by simp [e]))]
 ·obtain⟨v',H',h1,h2,h3,h4⟩:=ownF_append (P:=P) (nro:=nro) (t:=t) hu hs h0 hz hv hnro hstr hx hn hd hb hm
  exact⟨v',H',_,h1,h2,by omega,h4,fun j hj=>by simp at hj;omega⟩
section
variable {H0 G G':AH} {Y A C:List Nat} {b:Nat} {T:List TermD}
theorem Kt.swap(h:Kt H0 (A++Y) G b T)(hl:G.length≤G'.length)(hk:∀j,j<G.length→j∉A→hget G' j=hget G j)(hC:∀j∈C,G.length≤j∧j<G'.length):Kt H0 (C++Y) G' b T:=by
 obtain⟨F,h1,h2⟩:=h.t
 have hle:=h.lw.2
 refine⟨⟨fun j hj=>(hk j (by omega) (fun e=>by have:=(h.y j (by simp [e])).1;omega)).trans (h.lw.1 j hj),by omega⟩,fun j hj=>?_,F,h1.low (fun j hj=>hk j (h1.bound j hj) (fun e=>(h2 j hj).2 (by simp [e]))) hl,fun j hj=>⟨(h2 j hj).1,fun e=>?_⟩⟩
 ·rcases maP.1 hj with e | e
  ·have:=hC j e;omega
  ·have:=h.y j (by simp [e]);omega
 ·rcases maP.1 e with e | e
  ·have:=hC j e;have:=h1.bound j hj;omega
  ·exact (h2 j hj).2 (by simp [e])
theorem kt_append{nro:Nat}{av x:Value}{all new:List (List Int)}(h:Kt H0 (A++Y) G b T)(ho:OwnF G av 26 32 (kr all) A)(hn:∀j∈A,nro≤j)(hstr:∀s,x≠.string s)(hx:xcells 32 x G=some (kr new))(ka:K32 all)(kn:K32 new)(hm:all.length+new.length≤1000000) :
  ∃v' G' C,xappend Tryd.prog nro 23 av x G=some (v',G')∧Kt H0 (C++Y) G' b T∧OwnF G' v' 26 32 (kr (all++new)) C∧G.length≤G'.length∧(∀j,j<G.length→j∉A→hget G' j=hget G j)∧(∀j∈C,G.length≤j):=by
 have l1:=kr_len ka
 have l2:=kr_len kn
 obtain⟨v',G',C,h1,h2,h3,h4,h5⟩:=ownF_appK (P:=Tryd.prog) (nro:=nro) (t := 23) (e := 26) (H:=G) (v:=av) (x:=x) (sz:=32) (cells:=kr all) (news:=kr new) (F:=A) (by kernel_rfl) (by kernel_rfl) (by omega) (by kernel_rfl) ho hn hstr hx (by omega) (by rw [show byt Tryd.prog 26 = 32 by kernel_rfl];omega) (by simp [maxLen];omega)
 rw [←kr_app]at h2
 exact⟨v',G',C,h1,h.swap h3 h4 (fun j hj=>⟨h5 j hj,h2.lt j hj⟩),h2,h3,h4,h5⟩
end
def pubD(k:List Int):TermD:=⟨3,⟨#[]⟩,[k]⟩
def pubsT:List (List Int)→List TermD→List TermD
 | [],T=>T
 | k::ks,T=>pubsT ks (addT (pubD k) T)
def pubsN:List (List Int)→List TermD→List (List Int)
 | [],_=>[]
 | k::ks,T=>nN (pubD k) T::pubsN ks (addT (pubD k) T)
theorem pubsT_snoc:∀ (ks:List (List Int)) (k:List Int) (T:List TermD),pubsT (ks++[k]) T=addT (pubD k) (pubsT ks T)
 | [],k,T=>rfl
 | x::ks,k,T=>pubsT_snoc ks k _
theorem pubsN_snoc:∀ (ks:List (List Int)) (k:List Int) (T:List TermD),pubsN (ks++[k]) T=pubsN ks T++[nN (pubD k) (pubsT ks T)]
 | [],k,T=>rfl
 | x::ks,k,T=>by
  show _::pubsN (ks++[k]) _=_
  rw [pubsN_snoc ks k];rfl
theorem addT_len(x:TermD)(T:List TermD):(addT x T).length≤T.length+1:=by
 unfold addT
 split
 ·omega
 ·simp
theorem pubsT_len:∀ (ks:List (List Int)) (T:List TermD),(pubsT ks T).length≤T.length+ks.length
 | [],T=>by simp [pubsT]
 | k::ks,T=>by
  have h1:=pubsT_len ks (addT (pubD k) T)
  have h2:=addT_len (pubD k) T
  show (pubsT ks _).length≤_
  simp only [List.length_cons]
  omega
theorem pubsN_len:∀ (ks:List (List Int)) (T:List TermD),(pubsN ks T).length=ks.length
 | [],T=>rfl
 | k::ks,T=>by
  show (_::pubsN ks _).length=_
  simp [pubsN_len ks]
theorem pubsN_k:∀ (ks:List (List Int)) (T:List TermD),∀k∈pubsN ks T,k.length=32∧By k
 | [],T,k,h=>by cases h
 | x::ks,T,k,h=>by
  rcases List.mem_cons.1 (show k∈nN (pubD x) T::pubsN ks (addT (pubD x) T) from h) with rfl | h
  ·exact⟨nN_len _ _,nN_by _ _⟩
  ·exact pubsN_k ks _ k h
def kitV(b:Nat):Value:=.iface 43 (.agg #[.pointer (some ⟨b,0,none⟩)])
theorem xm_pub:xmeth Tryd.prog 43 "Pub" = some (204,some 0):=by kernel_rfl
theorem xm_hash:xmeth Tryd.prog 43 "Hash" = some (82,some 0):=by kernel_rfl
theorem xm_draw:xmeth Tryd.prog 43 "Draw" = some (23,some 0):=by kernel_rfl
theorem xm_agree:xmeth Tryd.prog 43 "Agree" = some (202,some 0):=by kernel_rfl
end
section
def EachQ(H0:AH)(Y:List Nat)(B:AH)(b:Nat)(T:List TermD)(ks:List (List Int))(v':Value)(H':AH):Prop:=
 ∃R,Kt H0 (R++Y) H' b (pubsT ks T)∧(∀j∈Y,hget H' j=hget B j)∧B.length≤H'.length∧OwnF H' v' 26 32 (kr (pubsN ks T)) R∧∀j∈R,B.length≤j
attribute [local simp] wb_bool wb_undef with_lit XL_nil XL_cons XLc_val XLc_call step1_eq stepW_t stepW_f stepC_n stepC_s stepX_s stepX_n stepN_s calleeX xrecv oneV xop_eq xopR_s xopR_n wantedA_eq wantedG_n wantedG_s plain1_int plain1_bool plain1_string bits_i64 bits_u64 bits_u32 bits_u16 bits_u8 xeqA xagg xcmp xarr allK_iv num_iv calleeOf xread xeff xbin xint xnil xun xstr xload xconv xpart xfield xfieldAddr xindexAddr xindex bnd asInt? xslice xlen xmin xmax xbuild xfill xappend xapp2 xappstr xappmk xcap xcopy xcells eval_tmp eval_const put_at put_none fr0_at cells_agg cells_int cells_bool cells_string cells_ptr cells_slice notTuple tab iv_all hget_app hget_app0 hget_cons0 hget_cons set_app set_app0 setR setR_one QL_nil QL_cons QLc_val stepQ_t stepQ_f stepQC_n stepQC_s stepQX_s SL_nil SL_cons SLc_val stepS_t stepS_f ltT ltF leT leF eqT eqF ltTn ltFn leTn leFn eqTn eqFn beqT beqF bneT bneF wi64 wu64 wu32 wu16 wu8 tmodP tdivP hgetL hgetNe hgetEq setL nums_def nums_len Nat.succ_le_of_lt List.getElem?_cons_zero List.getElem?_cons_succ Option.getD_some Int.toNat_add Int.toNat_mul agM okM agB agI agS agP agL agA okB okI okS okP okSl okA thenQ_ret scopeQ_ret inBlockQ_ret RQ resL resV
theorem each_ac{γ:Nat→Option Nat}{H0 B:AH}{Y:List Nat}{b:Nat}{T:List TermD}(hpw:Pw γ H0)(h:Kt H0 Y B b T){v:Value}{ks:List (List Int)}(hK:KsX H0.length Y B v ks)(hk:∀k∈ks,k.length=32∧By k)(hT:T.length+ks.length≤1000000)(hk1:ks.length≤100000) :
  AC Tryd.prog H0.length γ 97 #[v,.func (.method "Pub") #[kitV b] #[]] B (EachQ H0 Y B b T ks):=by
 have hnt:=hK.nt
 have k32:K32 ks:=fun k hm=>(hk k hm).1
 have hlen:xlen Tryd.prog 23 v=some (.int .i64 (ks.length:Nat)):=by simpa using (hK.now.acc k32).len
 have hpl:plain1 (.slice none 0 0)=true:=rfl
 unfold kitV
 refine ac_of_aw Tryd.func97 rfl Tryd.ntmps97 Tryd.results97 (by simp) ?_
 (refine aso fun K hK=>?_;simp (disch:=first|omega|simp only [lnS];try omega) [-getElem?_pos,-getElem?_neg];refine hK _ _ ?_;clear hK K)
 (refine aso fun K hK=>?_;simp (disch:=first|omega|simp only [lnS];try omega) [-getElem?_pos,-getElem?_neg];refine hK _ _ ?_;clear hK K)
 refine aw_seq (aw_seq ?_)
 (refine aoo fun K hK=>?_;simp (disch:=first|omega|simp only [lnS];try omega) [-getElem?_pos,-getElem?_neg,-notTuple,hnt.1,hnt.2,-xlen,hlen];refine hK _ _ ?_;clear hK K)
 refine aw_block ?_
 refine aw_loop (fun q α G=>∃ (i:Nat) (A:List Nat) (av:Value),i+q=ks.length∧α 1=.func (.method "Pub") #[.iface 43 (.agg #[.pointer (some ⟨b,0,none⟩)])] #[]∧α 5=av∧α 8=v∧α 9=.int .i64 (ks.length:Nat)∧α 10=.int .i64 (i:Nat) ∧
  Kt H0 (A++Y) G b (pubsT (ks.take i) T)∧(∀j∈Y,hget G j=hget B j)∧B.length≤G.length∧OwnF G av 26 32 (kr (pubsN (ks.take i) T)) A∧∀j∈A,B.length≤j) ks.length ?_ ?_
 ·exact⟨0,[],.slice none 0 0,by omega,by (first|simp [put_at,put_none,fr0_at];done|rfl),by (first|simp [put_at,put_none,fr0_at];done|rfl),by (first|simp [put_at,put_none,fr0_at];done|rfl),by (first|simp [put_at,put_none,fr0_at];done|rfl),by (first|simp [put_at,put_none,fr0_at];done|rfl),h,fun _ _=>rfl,nlE _,.inl ⟨rfl,rfl,rfl⟩,fun j hj=>(by cases hj)⟩
 rintro q α G ⟨i,A,av,hiq,a1,a5,a8,a9,a10,kt,hY,hBG,ho,hA⟩
 have ant:=ownF_nt ho
 refine aw_seq ?_
 by_cases hi:i<ks.length
 ·have hi':(i:Int)<ks.length:=by omega
  obtain⟨k,hkk⟩:∃k,ks[i]?=some k:=⟨_,geE hi⟩
  obtain⟨lk,bk⟩:=hk k (moG hkk)
  have tk:(iv .u8 k).take 32=iv .u8 k:=tkL (by simp [lk])
  have hKG:KsV G v ks:=hK G hBG (fun j hj=>(kt.lw.1 j hj).trans (h.lw.1 j hj).symm) hY
  obtain⟨p,y,p1,p2,p3,p4,p5⟩:=(hKG.acc k32).at_ i hi
  have ey:y=.agg (iv .u8 k).toArray:=by
   rw [p4,gdD,hkk];rfl
  subst ey
  have ld:=p5 G ⟨fun _ _=>rfl,nlE _⟩
  have htl:ks.take (i+1)=ks.take i++[k]:=by rw [List.take_add_one,hkk];rfl
  have hnG:=kt.le
  have hTl:(pubsT (ks.take i) T).length≤1000000:=by
   have:=pubsT_len (ks.take i) T
   simp only [List.length_take]at this
   omega
  have htN:=pubsT_snoc (ks.take i) k T
  have hnN:=pubsN_snoc (ks.take i) k T
  rw [←htl]at htN hnN
  have hNl:=pubsN_len (ks.take i) T
  simp only [List.length_take]at hNl
  have hk32:K32 (pubsN (ks.take i) T):=fun z hz=>(pubsN_k _ _ z hz).1
  generalize pubsT (ks.take i) T=T1 at *
  generalize pubsN (ks.take i) T=N1 at *
  have hsk:setR (iv .u8 (zl 32)) 0 (iv .u8 k)=iv .u8 k:=setR_all _ _ (by simp [lk])
  have kt1:=kt.low (G':=G++[some ⟨iv .u8 k, 26,none⟩]) ⟨fun j hj=>hget_left hj,by simp⟩
  (refine aoo fun K hK=>?_;simp (disch:=first|omega|simp only [lnS];try omega) [-getElem?_pos,-getElem?_neg,a9,a10,hi'];refine hK _ _ ?_;clear hK K)
  refine aw_seq ?_
  refine awt (by simp [eval_tmp,put_at]<;>omega) ?_
  refine aw_skip (aw_seq ?_)
  refine aw_block ?_
  (refine aso fun K hK=>?_;simp (disch:=first|omega|simp only [lnS];try omega) [-getElem?_pos,-getElem?_neg,a8,a10,-xindexAddr,p2,-xload,ld,-notTuple,p1,nt_aggG,nt_ptrG,tk,hsk,hnG];refine hK _ _ ?_;clear hK K)
  refine aoo fun K hK=>?_
  simp (disch:=first|omega|simp only [lnS];try omega) [-getElem?_pos,-getElem?_neg,a1,a5,tk,xm_pub,nt_aggG,-notTuple,ant.1,ant.2,nt_ptrG]
  refine⟨by kernel_rfl,AC.mono (kt_pub hpw kt1 lk bk hTl) ?_⟩
  rintro v1 G2 ⟨rfl,kt2,s2,l2⟩
  have lN:(nN (pubD k) T1).length=32:=rfl
  have e2:nN ⟨3,⟨#[]⟩,[k]⟩ T1=nN (pubD k) T1:=rfl
  have e3:addT ⟨3,⟨#[]⟩,[k]⟩ T1=addT (pubD k) T1:=rfl
  rw [e3]at kt2
  rw [e2]
  generalize nN (pubD k) T1=N at *
  have htN2:(iv .u8 N).take 32=iv .u8 N:=tkL (by simp [lN])
  have hrow1:setR (List.map (fun j=>(iv .u8 (zl 32))[j%32]?.getD undef) (List.range 32)) 0 (iv .u8 N)=iv .u8 N:=setR_all _ _ (by simp [lN])
  have sG:∀j,j∈A++Y→hget G2 j=hget G j:=fun j hj=>(s2 j hj).trans (hget_left (kt.y j hj).2)
  have ho2:OwnF (G2++[some ⟨iv .u8 N, 26,some 32⟩]) av 26 32 (kr N1) A:=(ho.low (fun j hj=>sG j (by simp [hj]))).low (fun j hj=>hget_left (kt2.y j (by simp [hj])).2)
  have hxc:xcells 32 (.slice (some ⟨G2.length,0,none⟩) 1 1) (G2++[some ⟨iv .u8 N, 26,some 32⟩])=some (kr [N]):=by
   simp [xcells,hget_app0,lN,htN2,kr_one]
  obtain⟨v2,G3,C,hap,kt3,ho3,l3,s3,hC⟩:=kt_append (nro:=H0.length) (kt2.low (G':=G2++[some ⟨iv .u8 N, 26,some 32⟩]) ⟨fun j hj=>hget_left hj,by simp⟩) ho2 (fun j hj=>(kt.y j (by simp [hj])).1) (fun s e=>by cases e) hxc hk32 (fun z hz=>by rw [msG.1 hz];exact lN) (by simp;omega)
  have n1:=ownF_nt ho3
  have hl1:(G++[some (⟨iv .u8 k, 26,none⟩:Blk)]).length=G.length+1:=by simp
  have hl2:(G2++[some (⟨iv .u8 N, 26,some 32⟩:Blk)]).length=G2.length+1:=by simp
  try simp (disch:=first|omega|simp only [lnS];try omega) [-getElem?_pos,-getElem?_neg,lN,htN2,hrow1,nt_aggG,nt_slG,hpl,-notTuple,ant.1,n1.1,n1.2,-xappend,hap]
  refine hK _ _ ?_;clear hK K
  (refine aoo fun K hK=>?_;simp (disch:=first|omega|simp only [lnS];try omega) [-getElem?_pos,-getElem?_neg,a10];refine hK _ _ ?_;clear hK K)
  refine⟨q-1,by omega,i+1,C,v2,by omega,by (first|simp [put_at,put_none,fr0_at,a1];done|rfl),by (first|simp [put_at,put_none,fr0_at];done|rfl),by (first|simp [put_at,put_none,fr0_at,a8];done|rfl),by (first|simp [put_at,put_none,fr0_at,a9];done|rfl),by (first|simp [put_at,put_none,fr0_at];done|rfl),?_,fun j hj=>?_,by omega,?_,fun j hj=>?_⟩
  ·rw [htN];exact kt3
  ·have hjA:j∉A:=fun e=>by have:=hA j e;have:=(h.y j hj).2;omega
   rw [s3 j (by have:=(kt2.y j (by simp [hj])).2;omega) hjA,hget_left (kt2.y j (by simp [hj])).2,sG j (by simp [hj])]
   exact hY j hj
  ·rw [hnN];exact ho3
  ·have:=hC j hj;omega
 ·obtain rfl:i=ks.length:=by omega
  rw [tkL (nlE _)]at kt ho
  (refine aoo fun K hK=>?_;simp (disch:=first|omega|simp only [lnS];try omega) [-getElem?_pos,-getElem?_neg,a9,a10];refine hK _ _ ?_;clear hK K)
  refine aw_seq ?_
  refine awf (by simp [eval_tmp,put_at]<;>omega) ?_
  refine aw_exit (aw_seq ?_)
  (refine aoo fun K hK=>?_;simp (disch:=first|omega|simp only [lnS];try omega) [-getElem?_pos,-getElem?_neg,a5,-notTuple,ant.1,ant.2];refine hK _ _ ?_;clear hK K)
  (refine aw_ret ?_;simp (disch:=first|omega|simp only [lnS];try omega) [-getElem?_pos,-getElem?_neg,-notTuple,ant.1])
  exact⟨A,kt,hY,hBG,ho,hA⟩
end
section
abbrev PrD:=List Int×List Int
def prC(p:PrD):List Value:=iv .u8 p.1++iv .u8 p.2
def prs(l:List PrD):List Value:=(l.map prC).flatten
def PrOk(l:List PrD):Prop:=∀p∈l,p.1.length=32∧By p.1∧p.2.length=32∧By p.2∧p.2≠zl 32
theorem pr_rows{l:List PrD}(h:PrOk l):∀r∈l.map prC,r.length=64:=fun r hr=>by
 obtain⟨p,hp,rfl⟩:=List.mem_map.1 hr
 obtain⟨h1,_,h2,_⟩:=h p hp
 simp [prC,h1,h2]
theorem pr_len{l:List PrD}(h:PrOk l):(prs l).length=l.length*64:=by unfold prs;rw [fl_len (pr_rows h),List.length_map]
theorem prs_app(a b:List PrD):prs (a++b)=prs a++prs b:=by simp [prs]
theorem pr_addr{n b j:Nat}(hj:j<n):xindexAddr Tryd.prog 181 (.slice (some ⟨b,0,none⟩) n n) (.int .i64 (j:Nat))=some (.pointer (some ⟨b,j*64,none⟩)):=by
 have h1:und Tryd.prog 181 = .slice 180 := by kernel_rfl
 have h2:szt Tryd.prog 180 = 64:=by kernel_rfl
 unfold xindexAddr
 simp only [h1,h2]
 rw [if_pos ⟨by omega,by omega,by omega⟩]
 simp
theorem pr_load{G:AH}{b j:Nat}{l:List PrD}{p:PrD}(h:PrOk l)(hj:l[j]?=some p)(hb:hget G b=some ⟨prs l, 180,some 64⟩):xload Tryd.prog 180 (.pointer (some ⟨b,j*64,none⟩)) G=some (.agg (prC p).toArray):=by
 have hl:=(gsI.1 hj).1
 refine load_at (sz:=64) hb (by kernel_rfl) (by omega) (by kernel_rfl) (fl_get (pr_rows h) (by rw [gmP,hj];rfl)).symm ?_
 show _≤(prs l).length
 rw [pr_len h]
 have:(j+1)*64≤l.length*64:=Nat.mul_le_mul_right _ hl
 omega
def agsT:List PrD→List TermD→List TermD
 | [],T=>T
 | p::l,T=>agsT l (addT (agreeT T p.1 p.2) T)
def agsN:List PrD→List TermD→List (List Int)
 | [],_=>[]
 | p::l,T=>nN (agreeT T p.1 p.2) T::agsN l (addT (agreeT T p.1 p.2) T)
theorem agsT_snoc:∀ (l:List PrD) (p:PrD) (T:List TermD),agsT (l++[p]) T=addT (agreeT (agsT l T) p.1 p.2) (agsT l T)
 | [],p,T=>rfl
 | x::l,p,T=>agsT_snoc l p _
theorem agsN_snoc:∀ (l:List PrD) (p:PrD) (T:List TermD),agsN (l++[p]) T=agsN l T++[nN (agreeT (agsT l T) p.1 p.2) (agsT l T)]
 | [],p,T=>rfl
 | x::l,p,T=>by
  show _::agsN (l++[p]) _=_
  rw [agsN_snoc l p];rfl
theorem agsT_len:∀ (l:List PrD) (T:List TermD),(agsT l T).length≤T.length+l.length
 | [],T=>by simp [agsT]
 | p::l,T=>by
  have h1:=agsT_len l (addT (agreeT T p.1 p.2) T)
  have h2:=addT_len (agreeT T p.1 p.2) T
  show (agsT l _).length≤_
  simp only [List.length_cons]
  omega
theorem agsN_len:∀ (l:List PrD) (T:List TermD),(agsN l T).length=l.length
 | [],T=>rfl
 | p::l,T=>by
  show (_::agsN l _).length=_
  simp [agsN_len l]
theorem agsN_k:∀ (l:List PrD) (T:List TermD),∀k∈agsN l T,k.length=32∧By k
 | [],T,k,h=>by cases h
 | x::l,T,k,h=>by
  rcases List.mem_cons.1 (show k∈nN (agreeT T x.1 x.2) T::agsN l (addT (agreeT T x.1 x.2) T) from h) with rfl | h
  ·exact⟨nN_len _ _,nN_by _ _⟩
  ·exact agsN_k l _ k h
def helloB:ByteArray:=⟨#[104,101,108,108,111]⟩
def helD(l:List PrD)(T:List TermD):TermD:=⟨2,helloB,agsN l T⟩
theorem wf_hash{s:ByteArray}{ks:List (List Int)}(hs:s.size≤100000000)(hk:∀k∈ks,k.length=32∧By k)(hl:ks.length≤1000000):TermD.Wf ⟨2,s,ks⟩:=
 ⟨by show 2≤6;omega,hs,fun k h=>(hk k h).1,fun k h=>(hk k h).2,hl,fun h=>(by cases h),fun h=>(by cases h),fun h=>(by cases h)⟩
def AgdQ(H0:AH)(Y:List Nat)(B:AH)(b:Nat)(T:List TermD)(l:List PrD)(v':Value)(H':AH):Prop:=
 v'=.tuple #[.agg (iv .u8 (nN (helD l T) (agsT l T))).toArray,.bool true]∧KtQ H0 Y B b (addT (helD l T) (agsT l T)) H'
attribute [local simp] wb_bool wb_undef with_lit XL_nil XL_cons XLc_val XLc_call step1_eq stepW_t stepW_f stepC_n stepC_s stepX_s stepX_n stepN_s calleeX xrecv oneV xop_eq xopR_s xopR_n wantedA_eq wantedG_n wantedG_s plain1_int plain1_bool plain1_string bits_i64 bits_u64 bits_u32 bits_u16 bits_u8 xeqA xagg xcmp xarr allK_iv num_iv calleeOf xread xeff xbin xint xnil xun xstr xload xconv xpart xfield xfieldAddr xindexAddr xindex bnd asInt? xslice xlen xmin xmax xbuild xfill xappend xapp2 xappstr xappmk xcap xcopy xcells eval_tmp eval_const put_at put_none fr0_at cells_agg cells_int cells_bool cells_string cells_ptr cells_slice notTuple tab iv_all hget_app hget_app0 hget_cons0 hget_cons set_app set_app0 setR setR_one QL_nil QL_cons QLc_val stepQ_t stepQ_f stepQC_n stepQC_s stepQX_s SL_nil SL_cons SLc_val stepS_t stepS_f ltT ltF leT leF eqT eqF ltTn ltFn leTn leFn eqTn eqFn beqT beqF bneT bneF wi64 wu64 wu32 wu16 wu8 tmodP tdivP hgetL hgetNe hgetEq setL nums_def nums_len Nat.succ_le_of_lt List.getElem?_cons_zero List.getElem?_cons_succ Option.getD_some Int.toNat_add Int.toNat_mul agM okM agB agI agS agP agL agA okB okI okS okP okSl okA thenQ_ret scopeQ_ret inBlockQ_ret RQ resL resV
theorem agreed_ac{γ:Nat→Option Nat}{H0 B:AH}{Y:List Nat}{b:Nat}{T:List TermD}(hpw:Pw γ H0)(h:Kt H0 Y B b T){v:Value}{l:List PrD}{j:Nat}(hv:v=.slice (some ⟨j,0,none⟩) l.length l.length)(hj:hget B j=some ⟨prs l, 180,some 64⟩)(hjY:j∈Y)(hl:PrOk l)(hT:T.length+l.length≤900000)(hl1:l.length≤100000) :
  AC Tryd.prog H0.length γ 98 #[kitV b,v] B (AgdQ H0 Y B b T l):=by
 have hpl:plain1 (.slice none 0 0)=true:=rfl
 subst hv
 unfold kitV
 obtain⟨r,hr⟩:∃r,r=B.length:=⟨_,rfl⟩
 have hnB:=h.le
 refine ac_of_aw Tryd.func98 rfl Tryd.ntmps98 Tryd.results98 (by simp) ?_
 (refine aso fun K hK=>?_;simp (disch:=first|omega|simp only [lnS];try omega) [-getElem?_pos,-getElem?_neg];refine hK _ _ ?_;clear hK K)
 (refine aso fun K hK=>?_;simp (disch:=first|omega|simp only [lnS];try omega) [-getElem?_pos,-getElem?_neg];refine hK _ _ ?_;clear hK K)
 refine aw_seq (aw_seq ?_)
 (refine aoo fun K hK=>?_;simp (disch:=first|omega|simp only [lnS];try omega) [-getElem?_pos,-getElem?_neg,nt_slG];refine hK _ _ ?_;clear hK K)
 refine aw_block ?_
 refine aw_loop (fun q α G=>∃ (i:Nat) (A:List Nat) (av:Value),i+q=l.length∧α 0=.iface 43 (.agg #[.pointer (some ⟨b,0,none⟩)])∧α 4=.pointer (some ⟨r,0,none⟩)∧α 6=av∧α 11=.slice (some ⟨j,0,none⟩) l.length l.length∧α 12=.int .i64 (l.length:Nat)∧α 13=.int .i64 (i:Nat) ∧
  Kt H0 (A++r::Y) G b (agsT (l.take i) T)∧(∀j∈Y,hget G j=hget B j)∧B.length≤G.length∧OwnF G av 26 32 (kr (agsN (l.take i) T)) A∧(∀j∈A,B.length<j)∧hget G r=some ⟨iv .u8 (zl 32), 26,none⟩) l.length ?_ ?_
 ·refine⟨0,[],.slice none 0 0,by omega,by (first|simp [put_at,put_none,fr0_at];done|rfl),by (first|simp [put_at,put_none,fr0_at,hr];done|rfl),by (first|simp [put_at,put_none,fr0_at];done|rfl),by (first|simp [put_at,put_none,fr0_at];done|rfl),by (first|simp [put_at,put_none,fr0_at];done|rfl),by (first|simp [put_at,put_none,fr0_at];done|rfl),?_,fun j hj=>hget_left (h.y j hj).2,by simp,.inl ⟨rfl,rfl,rfl⟩,fun j hj=>(by cases hj),?_⟩
  ·rw [hr];exact h.push _
  ·rw [hr,hget_app0];rfl
 rintro q α G ⟨i,A,av,hiq,a0,a4,a6,a11,a12,a13,kt,hY,hBG,ho,hA,gr⟩
 have ant:=ownF_nt ho
 have hnG:=kt.le
 have hrl:=hget_lt gr
 have hTl0:=agsT_len (l.take i) T
 have hNl:=agsN_len (l.take i) T
 simp only [List.length_take]at hTl0 hNl
 have hk32:∀z∈agsN (l.take i) T,z.length=32∧By z:=agsN_k _ _
 refine aw_seq ?_
 by_cases hi:i<l.length
 ·have hi':(i:Int)<l.length:=by omega
  obtain⟨⟨s,p⟩,hp⟩:∃p,l[i]?=some p:=⟨_,geE hi⟩
  obtain⟨ls,bs,lp,bp,p0⟩:=hl _ (moG hp)
  simp only at ls bs lp bp p0
  have gj:=(hY j hjY).trans hj
  have ad:=pr_addr (b:=j) hi
  have ld:=pr_load hl hp gj
  have hrw:prC (s,p)=iv .u8 s++iv .u8 p:=rfl
  rw [hrw]at ld
  have hz64:setR (iv .u8 (zl 64)) 0 (iv .u8 s++iv .u8 p)=iv .u8 s++iv .u8 p:=setR_all _ _ (by simp [ls,lp])
  have h64:(iv .u8 s++iv .u8 p).take 64=iv .u8 s++iv .u8 p:=tkL (by simp [ls,lp])
  have t1:(iv .u8 s++iv .u8 p).take 32=iv .u8 s:=by rw [List.take_append_of_le_length (by simp [ls]),tkL (by simp [ls])]
  have t2:((iv .u8 s++iv .u8 p).drop 32).take 32=iv .u8 p:=by rw [List.drop_append_of_le_length (by simp [ls]),List.drop_of_length_le (by simp [ls]),List.nil_append,tkL (by simp [lp])]
  have t3:(iv .u8 p).take 32=iv .u8 p:=tkL (by simp [lp])
  have htl:l.take (i+1)=l.take i++[(s,p)]:=by rw [List.take_add_one,hp];rfl
  have htN:=agsT_snoc (l.take i) (s,p) T
  have hnN:=agsN_snoc (l.take i) (s,p) T
  rw [←htl]at htN hnN
  simp only at htN hnN
  generalize agsT (l.take i) T=T1 at *
  generalize agsN (l.take i) T=N1 at *
  (refine aoo fun K hK=>?_;simp (disch:=first|omega|simp only [lnS];try omega) [-getElem?_pos,-getElem?_neg,a12,a13,hi'];refine hK _ _ ?_;clear hK K)
  refine aw_seq ?_
  refine awt (by simp [eval_tmp,put_at]<;>omega) ?_
  refine aw_skip (aw_seq ?_)
  refine aw_block ?_
  refine aw_seq ?_
  have lsp:(iv .u8 s++iv .u8 p).length=64:=by simp [ls,lp]
  (refine aoo fun K hK=>?_;simp (disch:=first|omega|simp only [lnS];try omega) [-getElem?_pos,-getElem?_neg,a11,a13,-xindexAddr,ad,-xload,ld,-notTuple,nt_aggG,nt_ptrG,hz64,h64,hnG,lsp];refine hK _ _ ?_;clear hK K)
  obtain⟨G1,hG1⟩:∃G1:AH,G1=G++[some ⟨iv .u8 s++iv .u8 p, 180,none⟩]:=⟨_,rfl⟩
  have kt1:=kt.low (G':=G1) (by rw [hG1];exact⟨fun j hj=>hget_left hj,by simp⟩)
  have g1:hget G1 G.length=some ⟨iv .u8 s++iv .u8 p, 180,none⟩:=by rw [hG1,hget_app0];rfl
  have l1:G1.length=G.length+1:=by rw [hG1];simp
  have s1:∀j,j<G.length→hget G1 j=hget G j:=fun j hj=>by rw [hG1];exact hget_left hj
  rw [←hG1]
  clear hG1
  have lg1:=hget_lt g1
  refine aso fun K hK=>?_
  simp (disch:=first|omega|simp only [lnS];try omega) [-getElem?_pos,-getElem?_neg,a0,g1,lg1,t1,t2,t3,xm_agree,nt_aggG,-notTuple,nt_ptrG]
  have hTl1:T1.length≤1000000:=by omega
  refine⟨by kernel_rfl,AC.mono (kt_agree hpw kt1 ls bs lp bp p0 hTl1) ?_⟩
  rintro v1 G2 ⟨rfl,kt2,s2,l2⟩
  have lN:(nN (agreeT T1 s p) T1).length=32:=rfl
  generalize nN (agreeT T1 s p) T1=N at *
  have htN2:(iv .u8 N).take 32=iv .u8 N:=tkL (by simp [lN])
  have hsN:setR (iv .u8 (zl 32)) 0 (iv .u8 N)=iv .u8 N:=setR_all _ _ (by simp [lN])
  have hrow1:setR (List.map (fun j=>(iv .u8 (zl 32))[j%32]?.getD undef) (List.range 32)) 0 (iv .u8 N)=iv .u8 N:=setR_all _ _ (by simp [lN])
  have hn2:=kt2.le
  try simp (disch:=first|omega|simp only [lnS];try omega) [-getElem?_pos,-getElem?_neg,lN,htN2,hsN,nt_aggG,nt_boolG,-notTuple,hn2]
  refine hK _ _ ?_;clear hK K
  obtain⟨G3,hG3⟩:∃G3:AH,G3=G2++[some ⟨iv .u8 N, 26,none⟩]:=⟨_,rfl⟩
  have kt3:=kt2.low (G':=G3) (by rw [hG3];exact⟨fun j hj=>hget_left hj,by simp⟩)
  have g3:hget G3 G2.length=some ⟨iv .u8 N, 26,none⟩:=by rw [hG3,hget_app0];rfl
  have l3:G3.length=G2.length+1:=by rw [hG3];simp
  have s3:∀j,j<G2.length→hget G3 j=hget G2 j:=fun j hj=>by rw [hG3];exact hget_left hj
  rw [←hG3]
  clear hG3
  have lg3:=hget_lt g3
  refine aw_seq (aw_seq ?_)
  (refine aoo fun K hK=>?_;simp (disch:=first|omega|simp only [lnS];try omega) [-getElem?_pos,-getElem?_neg];refine hK _ _ ?_;clear hK K)
  refine awf (by simp [eval_tmp,put_at]<;>omega) ?_
  refine aw_skip ?_
  have sG:∀j,j∈A++r::Y→hget G3 j=hget G j:=fun j hj=>(s3 j (kt2.y j hj).2).trans ((s2 j hj).trans (s1 j (kt.y j hj).2))
  have ho2:OwnF (G3++[some ⟨iv .u8 N, 26,some 32⟩]) av 26 32 (kr N1) A:=(ho.low (fun j hj=>sG j (by simp [hj]))).low (fun j hj=>hget_left (kt3.y j (by simp [hj])).2)
  have hxc:xcells 32 (.slice (some ⟨G3.length,0,none⟩) 1 1) (G3++[some ⟨iv .u8 N, 26,some 32⟩])=some (kr [N]):=by
   simp [xcells,hget_app0,lN,htN2,kr_one]
  obtain⟨v2,G4,C,hap,kt4,ho4,l4,s4,hC⟩:=kt_append (nro:=H0.length) (kt3.low (G':=G3++[some ⟨iv .u8 N, 26,some 32⟩]) ⟨fun j hj=>hget_left hj,by simp⟩) ho2 (fun j hj=>(kt.y j (by simp [hj])).1) (fun s e=>by cases e) hxc (fun z hz=>(hk32 z hz).1) (fun z hz=>by rw [msG.1 hz];exact lN) (by simp;omega)
  have n1:=ownF_nt ho4
  have hl2:(G3++[some (⟨iv .u8 N, 26,some 32⟩:Blk)]).length=G3.length+1:=by simp
  (refine aoo fun K hK=>?_;simp (disch:=first|omega|simp only [lnS];try omega) [-getElem?_pos,-getElem?_neg,a6,g3,lg3,lN,htN2,hrow1,nt_aggG,nt_slG,hpl,-notTuple,ant.1,n1.1,n1.2,-xappend,hap];refine hK _ _ ?_;clear hK K)
  (refine aoo fun K hK=>?_;simp (disch:=first|omega|simp only [lnS];try omega) [-getElem?_pos,-getElem?_neg,a13];refine hK _ _ ?_;clear hK K)
  have keep:∀j,j∈r::Y→hget G4 j=hget G j:=fun j hj=>by
   have hjA:j∉A:=fun e=>by
    have:=hA j e
    rcases List.mem_cons.1 hj with e2 | e2
    ·omega
    ·have:=(h.y j e2).2;omega
   have hj3:j∈A++r::Y:=List.mem_append_right _ hj
   rw [s4 j (by have:=(kt3.y j hj3).2;omega) hjA,hget_left (kt3.y j hj3).2,sG j hj3]
  refine⟨q-1,by omega,i+1,C,v2,by omega,by (first|simp [put_at,put_none,fr0_at,a0];done|rfl),by (first|simp [put_at,put_none,fr0_at,a4];done|rfl),by (first|simp [put_at,put_none,fr0_at];done|rfl),by (first|simp [put_at,put_none,fr0_at,a11];done|rfl),by (first|simp [put_at,put_none,fr0_at,a12];done|rfl),by (first|simp [put_at,put_none,fr0_at];done|rfl),?_,fun j hj=>(keep j (by simp [hj])).trans (hY j hj),by omega,?_,fun j hj=>?_,(keep r (by simp)).trans gr⟩
  ·rw [htN];exact kt4
  ·rw [hnN];exact ho4
  ·have:=hC j hj;omega
 ·obtain rfl:i=l.length:=by omega
  rw [tkL (nlE _)]at kt ho hk32
  have hwf:TermD.Wf ⟨2,helloB,agsN l T⟩:=wf_hash (by show 5≤_;omega) hk32 (by rw [agsN_len];omega)
  have hx:KsX H0.length (A++r::Y) G av (agsN l T):=ownF_ksx ho (fun z hz=>(hk32 z hz).1) (fun j hj=>by simp [hj])
  have hal:=agsT_len l T
  have hcall:=kt_hash hpw kt hwf hx (by omega)
  have e2:nN ⟨2,helloB,agsN l T⟩ (agsT l T)=nN (helD l T) (agsT l T):=rfl
  have e3:addT ⟨2,helloB,agsN l T⟩ (agsT l T)=addT (helD l T) (agsT l T):=rfl
  rw [e2,e3]at hcall
  unfold helloB at hcall
  (refine aoo fun K hK=>?_;simp (disch:=first|omega|simp only [lnS];try omega) [-getElem?_pos,-getElem?_neg,a12,a13];refine hK _ _ ?_;clear hK K)
  refine aw_seq ?_
  refine awf (by simp [eval_tmp,put_at]<;>omega) ?_
  refine aw_exit (aw_seq ?_)
  refine aoo fun K hK=>?_
  simp (disch:=first|omega|simp only [lnS];try omega) [-getElem?_pos,-getElem?_neg,a0,a4,a6,xm_hash,nt_aggG,-notTuple,nt_ptrG,ant.1,ant.2]
  refine⟨by kernel_rfl,AC.mono hcall ?_⟩
  rintro v1 G2 ⟨rfl,kt2,s2,l2⟩
  have gr2:=(s2 r (by simp)).trans gr
  have lr2:=hget_lt gr2
  have hrH:H0.length≤r:=(kt2.y r (by simp)).1
  have lN:(nN (helD l T) (agsT l T)).length=32:=rfl
  obtain⟨N,hNd⟩:∃N,N=nN (helD l T) (agsT l T):=⟨_,rfl⟩
  rw [←hNd]at lN ⊢
  have htN2:(iv .u8 N).take 32=iv .u8 N:=tkL (by simp [lN])
  have hsN:setR (iv .u8 (zl 32)) 0 (iv .u8 N)=iv .u8 N:=setR_all _ _ (by simp [lN])
  try simp (disch:=first|omega|simp only [lnS];try omega) [-getElem?_pos,-getElem?_neg,a4,gr2,lr2,hrH,lN,htN2,hsN,nt_aggG,nt_boolG,-notTuple]
  refine hK _ _ ?_;clear hK K
  (refine aw_ret ?_;simp (disch:=first|omega|simp only [lnS];try omega) [-getElem?_pos,-getElem?_neg,a4,lN,htN2,lr2])
  refine⟨by rw [hNd],(kt2.set (r:=r) (by simp) _).less (fun j hj=>by simp [hj]),fun j hj=>?_,by simp;omega⟩
  rw [hget_set_ne (fun e=>by have:=(h.y j hj).2;omega),s2 j (by simp [hj]),hY j hj]
end
section
structure FrK (H0:AH) (Y:List Nat) (B:AH) (b:Nat) (T:List TermD) (R:List Nat) (G:AH):Prop where
 kt:Kt H0 (R++Y) G b T
 st:∀j∈Y,hget G j=hget B j
 le:B.length≤G.length
 nw:∀j∈R,B.length≤j
section
variable {n lo:Nat} {X X' Y R:List Nat} {H0 B G G':AH} {b:Nat} {T:List TermD} {v:Value} {ks:List (List Int)}
end
def bnC(a p:List Int)(v:Value):List Value:=iv .u8 a++iv .u8 p++[v]
section
variable {a p:List Int} {v:Value}
theorem bnC_len(ha:a.length=32)(hp:p.length=32):(bnC a p v).length=65:=by simp [bnC,ha,hp]
theorem bnC_1(ha:a.length=32)(hp:p.length=32):(bnC a p v).take 32=iv .u8 a:=by
 unfold bnC
 rw [List.append_assoc,List.take_append_of_le_length (by simp [ha]),tkL (by simp [ha])]
theorem bnC_2(ha:a.length=32)(hp:p.length=32):((bnC a p v).drop 32).take 32=iv .u8 p:=by
 unfold bnC
 rw [List.append_assoc,List.drop_append_of_le_length (by simp [ha]),List.drop_of_length_le (by simp [ha]),List.nil_append,List.take_append_of_le_length (by simp [hp]),tkL (by simp [hp])]
theorem bnC_3(ha:a.length=32)(hp:p.length=32):(bnC a p v)[64]?=some v:=by
 unfold bnC
 rw [gaR (by simp [ha,hp])]
 simp [ha,hp]
theorem bnC_all(ha:a.length=32)(hp:p.length=32):(bnC a p v).take 65=bnC a p v:=tkL (by rw [bnC_len ha hp];omega)
theorem bnC_build(ha:a.length=32)(hp:p.length=32){x:Value}:(setR (setR (iv .u8 (zl 64)++[x]) 0 (iv .u8 a)) 32 (iv .u8 p)).set 64 v=bnC a p v:=by
 have la:(iv .u8 a).length=32:=by simp [ha]
 have lp:(iv .u8 p).length=32:=by simp [hp]
 rw [setR_frontF _ _ (by simp [ha])]
 have h1:=setR_right (iv .u8 a) ((iv .u8 (zl 64)++[x]).drop (iv .u8 a).length) (iv .u8 p) 0 (by simp [ha,hp])
 rw [la,Nat.add_zero]at h1
 rw [la,h1,setR_frontF _ _ (by simp [hp]),lp,List.drop_drop,List.drop_append_of_le_length (by simp),List.drop_of_length_le (by simp)]
 unfold bnC
 rw [List.nil_append,←List.append_assoc,List.set_append_right _ _ (by simp [ha,hp])]
 simp [ha,hp]
theorem bnC_b2(ha:a.length=32)(hp:p.length=32){x:Value}:setR (setR (iv .u8 (zl 64)++[x]) 0 (iv .u8 a)) 32 (iv .u8 p)=bnC a p x:=by
 have la:(iv .u8 a).length=32:=by simp [ha]
 have lp:(iv .u8 p).length=32:=by simp [hp]
 rw [setR_frontF _ _ (by simp [ha])]
 have h1:=setR_right (iv .u8 a) ((iv .u8 (zl 64)++[x]).drop (iv .u8 a).length) (iv .u8 p) 0 (by simp [ha,hp])
 rw [la,Nat.add_zero]at h1
 rw [la,h1,setR_frontF _ _ (by simp [hp]),lp,List.drop_drop,List.drop_append_of_le_length (by simp),List.drop_of_length_le (by simp)]
 unfold bnC
 rw [List.nil_append,←List.append_assoc]
theorem bnC_upd(ha:a.length=32)(hp:p.length=32){w:Value}:(bnC a p w).set 64 v=bnC a p v:=by
 unfold bnC
 rw [List.set_append_right _ _ (by simp [ha,hp])]
 simp [ha,hp]
theorem bnC_set(ha:a.length=32)(hp:p.length=32){C:List Value}(hC:C.length=65):setR C 0 (bnC a p v)=bnC a p v:=setR_all _ _ (by rw [bnC_len ha hp,hC])
end
end
section
def KoV(R:List Nat)(G:AH)(v:Value)(ks:List (List Int)):Prop:=
 (v=.slice none 0 0∧ks=[])∨∃j cs,v=.slice (some ⟨j,0,none⟩) ks.length ks.length∧hget G j=some ⟨cs, 26,some 32⟩∧kr ks <+: cs∧j∈R
def KoN(lo:Nat)(X:List Nat)(G:AH)(v:Value)(ks:List (List Int)):Prop:=∃R,KoV R G v ks∧∀j∈R,j∈X∧lo≤j
section
variable {n lo:Nat} {X X' Y R R':List Nat} {H0 B G G':AH} {b:Nat} {T:List TermD} {v:Value} {ks:List (List Int)}
theorem KoV.step(h:KoV R G v ks)(hx:∀j∈R,j∈R'∧hget G' j=hget G j):KoV R' G' v ks:=by
 rcases h with h | ⟨j,cs,h1,h2,h3,h4⟩
 ·exact .inl h
 ·exact .inr ⟨j,cs,h1,(hx j h4).2.trans h2,h3,(hx j h4).1⟩
theorem KoV.nt(h:KoV R G v ks):notTuple v=true∧v.cells=#[v]:=by
 rcases h with ⟨rfl,_⟩ | ⟨j,cs,rfl,_⟩ <;> exact⟨rfl,rfl⟩
theorem KoV.len(h:KoV R G v ks):xlen Tryd.prog 23 v=some (.int .i64 (ks.length:Nat)):=by
 have hu:und Tryd.prog 23 = .slice 26 := by kernel_rfl
 rcases h with ⟨rfl,rfl⟩ | ⟨j,cs,rfl,_⟩
 ·simp [xlen,hu]
 ·simp [xlen,hu]
theorem KoV.ownK(h:KoV R G v ks):OwnK 0 G v ks:=by
 rcases h with h | ⟨j,cs,h1,h2,h3,h4⟩
 ·exact .inl h
 ·exact .inr ⟨j,cs,Nat.zero_le _,h1,h2,h3⟩
theorem KoV.ksx(h:KoV R G v ks)(hk:K32 ks):KsX n R G v ks:=fun D _ _ hy=>own_ksv (h.step (R':=R) (fun j hj=>⟨hj,hy j hj⟩)).ownK hk
theorem KoV.now(h:KoV R G v ks)(hk:K32 ks):KsV G v ks:=own_ksv h.ownK hk
theorem ownF_kov{F:List Nat}(h:OwnF G v 26 32 (kr ks) F)(hk:K32 ks)(hF:∀j∈F,j∈R):KoV R G v ks:=by
 have hl:=kr_len hk
 rcases h with ⟨h1,h2,_⟩ | ⟨j,len,rfl,h2,h3,rfl⟩
 ·rw [h2]at hl
  exact .inl ⟨h1,List.eq_nil_of_length_eq_zero (by simp at hl;omega)⟩
 ·have:len=ks.length:=by omega
  subst this
  exact .inr ⟨j,_,rfl,h2,List.prefix_rfl,hF j (by simp)⟩
theorem KoN.step(h:KoN lo X G v ks)(hx:∀j∈X,j∈X'∧hget G' j=hget G j):KoN lo X' G' v ks:=by
 obtain⟨R,h1,h2⟩:=h
 exact⟨R,h1.step (fun j hj=>⟨hj,(hx j (h2 j hj).1).2⟩),fun j hj=>⟨(hx j (h2 j hj).1).1,(h2 j hj).2⟩⟩
theorem KoN.nt(h:KoN lo X G v ks):notTuple v=true∧v.cells=#[v]:=by
 obtain⟨R,h1,_⟩:=h
 exact h1.nt
theorem kov_kon(h:KoV R G v ks)(hR:∀j∈R,j∈X∧lo≤j):KoN lo X G v ks:=⟨R,h,hR⟩
theorem KoV.cut(h:KoV R G v ks)(hk:K32 ks){m:Nat}(hm:m≤ks.length):∃sv,(∀D:AH,xslice Tryd.prog 23 v (some (.int .i64 (m:Nat))) none D=some sv)∧notTuple sv=true∧sv.cells=#[sv]∧PartK G G.length sv (ks.drop m):=by
 have hu:und Tryd.prog 23 = .slice 26 := by kernel_rfl
 have hs:szt Tryd.prog 26 = 32:=by kernel_rfl
 rcases h with ⟨rfl,rfl⟩ | ⟨j,cs,rfl,h2,h3,h4⟩
 ·have:m=0:=by simpa using hm
  subst this
  refine⟨.slice none 0 0,fun D=>by simp [xslice,hu,hs,bnd,asInt?],rfl,rfl,⟨none,0,rfl⟩,fun D _=>rfl⟩
 ·have hj:=hget_lt h2
  have hkl:=kr_len hk
  have hcl:=h3.length_le
  by_cases e:m≠0∧ks.length=m
  ·refine⟨.slice (some ⟨j,0,some 0⟩) 0 0,fun D=>?_,rfl,rfl,⟨some ⟨j,0,some 0⟩,0,by rw [List.length_drop,e.2,Nat.sub_self]⟩,fun D _=>?_⟩
   ·unfold xslice
    simp only [hu,bnd,hs]
    rw [show asInt? (Value.int .i64 (m:Nat))=some (m:Int) from rfl]
    dsimp only
    rw [if_pos ⟨by omega,by omega,by omega,by omega⟩,if_pos ⟨by omega,by omega⟩]
   ·have:ks.drop m=[]:=List.eq_nil_of_length_eq_zero (by rw [List.length_drop];omega)
    rw [this];rfl
  ·refine⟨.slice (some ⟨j,m*32,none⟩) (ks.length-m) (ks.length-m),fun D=>?_,rfl,rfl,⟨some ⟨j,m*32,none⟩,_,by rw [List.length_drop]⟩,fun D hD=>?_⟩
   ·unfold xslice
    simp only [hu,bnd,hs]
    rw [show asInt? (Value.int .i64 (m:Nat))=some (m:Int) from rfl]
    dsimp only
    rw [if_pos ⟨by omega,by omega,by omega,by omega⟩,if_neg (by omega),if_pos trivial]
    simp
   ·have hg:=(hD j hj).trans h2
    obtain⟨z,rfl⟩:=h3
    unfold xcells
    simp only [hg]
    have hd:(kr (ks.drop m)).length=(ks.length-m)*32:=by rw [kr_len (fun k hm=>hk k (List.mem_of_mem_drop hm)),List.length_drop]
    have h6:m*32+(ks.length-m)*32=ks.length*32:=by omega
    rw [if_pos (by rw [laP,hkl];omega),List.drop_append_of_le_length (by rw [hkl];omega),kr_dropV hk hm,List.take_append_of_le_length (by omega),tkL (by omega)]
variable {γ:Nat→Option Nat}
theorem kt_clone(h:Kt H0 Y G b T)(hv:PartK G G.length v ks)(hk:K32 ks)(hc:ks.length≤1000000) :
  AC Tryd.prog H0.length γ 99 #[v] G (fun v' G'=>∃R,KoV R G' v' ks∧FrK H0 Y G b T R G'):=by
 refine (cloneP_ac hv hk hc h.lw.2).mono fun v' G' q=>?_
 obtain⟨ho,lw⟩:=q
 rcases ho with ⟨e1,e2⟩ | ⟨j,cs,h1,h2,h3,h4⟩
 ·exact⟨[],.inl ⟨e1,e2⟩,h.low lw,fun j hj=>lw.1 j (h.y j hj).2,lw.2,fun j hj=>by cases hj⟩
 ·exact⟨[j],.inr ⟨j,cs,h2,h3,h4,by simp⟩,h.grow lw (fun i hi=>by rw [msG.1 hi];exact⟨h1,hget_lt h3⟩),fun j hj=>lw.1 j (h.y j hj).2,lw.2,fun i hi=>by rw [msG.1 hi];exact h1⟩
theorem kt_cloneF(h:Kt H0 Y G b T)(hv:KsV G v ks)(hk:K32 ks)(hc:ks.length≤1000000) :
  AC Tryd.prog H0.length γ 99 #[v] G (fun v' G'=>∃R,OwnF G' v' 26 32 (kr ks) R∧FrK H0 Y G b T R G'):=by
 refine (cloneK_ac hv hk h.lw.2 (by omega)).mono fun v' G' q=>?_
 obtain⟨_,_,lw,R,ho,hR⟩:=q
 rw [ksC_kr]at ho
 exact⟨R,ho,h.grow lw (fun i hi=>⟨hR i hi,ho.lt i hi⟩),fun j hj=>lw.1 j (h.y j hj).2,lw.2,hR⟩
end
end
end Go.Proofs.YtcidhpandnjmoaaDoor
