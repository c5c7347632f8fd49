/-
  Memory told by lists: blocks that the walk knows, by numbers of their own; the frame as a function. What a piece of code does, said of these alone; and that it then holds of the machine. Over any program.
-/
import Derived.WalkKit
import Derived.Scope
import Derived.Deep.Quiet
import Derived.BigQuiet
import Derived.StillTail
import Derived.Lib.ConvBytes
import Derived.Laws.BytesArg
import Derived.Laws.AppendOwn
import Derived.Laws.StructEq
import Derived.MapKept
import Derived.WideKeyRuns
import Derived.Lib.AppendZerosOnto
import Derived.Lib.AppendStr
import Derived.ProofKit
import Derived.OpenShut
import Derived.Carry
import Derived.WideKeyArgs
namespace Go.Proofs.YtcidhpandnjmoaaDoor
open Go Go.RowKit
set_option linter.unusedSimpArgs false
set_option linter.unusedVariables false
set_option maxRecDepth 100000
set_option maxHeartbeats 8000000
theorem tkL{α:Type _}{l:List α}{i:Nat}(h:l.length≤i):l.take i=l:=List.take_of_length_le h
theorem geE{α:Type _}{l:List α}{i:Nat}(h:i<l.length):l[i]? =some l[i]:=List.getElem?_eq_getElem h
theorem gsI{α:Type _}{a:α}{i:Nat}{l:List α}:l[i]? =some a↔∃h:i<l.length,l[i]=a:=List.getElem?_eq_some_iff
theorem gdD{α:Type _}{l:List α}{i:Nat}{a:α}:l.getD i a=l[i]?.getD a:=List.getD_eq_getElem?_getD
theorem moG{α:Type _}{l:List α}{i:Nat}{a:α}(h:l[i]? =some a):a∈l:=List.mem_of_getElem? h
theorem msG{α:Type _}{a b:α}:a∈[b]↔a=b:=List.mem_singleton
theorem nlE(n:Nat):n≤n:=Nat.le_refl n
theorem agD{α:Type _}{xs:Array α}{i:Nat}{d:α}:xs.getD i d=xs[i]?.getD d:=Array.getD_eq_getD_getElem?
theorem asI{α:Type _}{i:Nat}{b:α}{xs:Array α}:xs[i]? =some b↔∃h:i<xs.size,xs[i]=b:=Array.getElem?_eq_some_iff
theorem gmP{α β:Type _}{l:List α}{i:Nat}{f:α→β}:(l.map f)[i]? =l[i]?.map f:=List.getElem?_map
theorem maP{α:Type _}{a:α}{s t:List α}:a∈s++t↔a∈s∨a∈t:=List.mem_append
theorem alT{α:Type _}{p:α→Bool}{l:List α}:l.all p=true↔∀x∈l,p x=true:=List.all_eq_true
theorem laP{α:Type _}{as bs:List α}:(as++bs).length=as.length+bs.length:=List.length_append
theorem gaL{α:Type _}{l₁ l₂:List α}{i:Nat}(hn:i<l₁.length):(l₁++l₂)[i]? =l₁[i]?:=List.getElem?_append_left hn
theorem gaR{α:Type _}{l₁ l₂:List α}{i:Nat}(hn:l₁.length≤i):(l₁++l₂)[i]? =l₂[i-l₁.length]?:=List.getElem?_append_right hn
theorem gcS:(∀{α:Type}{a:α}{l:List α}{i:Nat},(a::l)[i+1]? =l[i]?)∧∀{α:Type}{a:α}{l:List α},(a::l)[0]? =some a:=⟨rfl,rfl⟩
theorem gdZ:(∀{α:Type}{a:α}{l:List α}{i:Nat},(a::l).drop (i+1)=l.drop i)∧∀{α:Type}{l:List α},l.drop 0=l:=⟨rfl,rfl⟩
theorem mcN:(∀{α:Type}{a b:α}{l:List α},a∈b::l↔a=b∨a∈l)∧(∀{α:Type}{a:α},a∈([]:List α)↔False)∧∀{p:Prop},(p∨False)↔p:=⟨List.mem_cons,by simp,by simp⟩
section
structure Ent where
  b:Nat
  o:Nat
  sz:Nat
  es:Option Nat
structure Blk where
  cells:List Value
  ty:TypeId
  es:Option Nat
  [mp:Inhabited (Option (List (Value×Value)))]
def Blk.ents(k:Blk):Option (List (Value×Value)):=k.mp.default
def mblk(t:TypeId)(l:List (Value×Value)):Blk:=@Blk.mk [] t none ⟨some l⟩
theorem ents_lit(c:List Value)(t:TypeId)(e:Option Nat):Blk.ents ⟨c,t,e⟩=none:=rfl
def Blk.with_(k:Blk)(c:List Value):Blk:=@Blk.mk c k.ty k.es k.mp
theorem with_lit(c d:List Value)(t:TypeId)(e:Option Nat):Blk.with_ ⟨c,t,e⟩ d=⟨d,t,e⟩:=rfl
theorem with_eq{k:Blk}(h:k.ents=none)(c:List Value):k.with_ c=⟨c,k.ty,k.es⟩:=by
  cases k with
  | @mk c0 t e q=>
    cases q with
    | mk d=>
      have:d=none:=h
      subst this
      rfl
theorem lit_self{k:Blk}(h:k.ents=none):(⟨k.cells,k.ty,k.es⟩:Blk)=k:=(with_eq h k.cells).symm
theorem with_self(k:Blk):k.with_ k.cells=k:=rfl
theorem ents_mblk(t:TypeId)(l:List (Value×Value)):(mblk t l).ents=some l:=rfl
abbrev AH:=List (Option Blk)
abbrev Fm:=Nat→Value
def plain1:Value→Bool
  | .bool _ | .int _ _ | .float _ _ | .complex _ _ _ | .string _ | .pointer none | .slice none _ _ | .map none | .chan none | .nilFunc | .nilIface=>true
  | .func (.func _) f c=>f.isEmpty&&c.isEmpty
  | _=>false
inductive V1 (m:List Ent):Value→Value→Prop
  | plain {x:Value} (h:plain1 x=true):V1 m x x
  | ptr {i off:Nat} {e:Ent} (h:m[i]?=some e):V1 m (.pointer (some ⟨i,off,none⟩)) (.pointer (some ⟨e.b,e.o+off,none⟩))
  | sl {i off len c:Nat} {e:Ent} (h:m[i]?=some e) (hc:len≤c) (hs:off=0→∀s,e.es=some s→c*s=e.sz∧c≤maxLen):V1 m (.slice (some ⟨i,off,none⟩) len len) (.slice (some ⟨e.b,e.o+off,none⟩) len c)
  | slv {i off len c:Nat} {e:Ent} (h:m[i]?=some e) (hc:len≤c):V1 m (.slice (some ⟨i,off,none⟩) len (len+1)) (.slice (some ⟨e.b,e.o+off,none⟩) len c)
  | slx {i len c:Nat} {e:Ent} (h:m[i]?=some e) (hc:len≤c):V1 m (.slice (some ⟨i,0,some (c+1)⟩) len len) (.slice (some ⟨e.b,e.o+0,none⟩) len c)
  | mp {i:Nat} {e:Ent} (h:m[i]?=some e):V1 m (.map (some i)) (.map (some e.b))
  | sl0 {i off c:Nat} {a:Addr}:V1 m (.slice (some ⟨i,off,some 0⟩) 0 0) (.slice (some a) 0 c)
  | clo {f:Fn} {cs ds es fs:Array Value} (h1:ds.size=cs.size) (h2:fs.size=es.size) (h3:∀ (i:Nat) (x y:Value),cs[i]?=some x→ds[i]?=some y→V1 m x y) (h4:∀ (i:Nat) (x y:Value),es[i]?=some x→fs[i]?=some y→V1 m x y):V1 m (.func f cs es) (.func f ds fs)
  | ifc {t:TypeId} {x y:Value} (h:V1 m x y):V1 m (.iface t x) (.iface t y)
  | ifa {t:TypeId} {cs ds:Array Value} (h1:ds.size=cs.size) (h3:∀ (i:Nat) (x y:Value),cs[i]?=some x→ds[i]?=some y→V1 m x y):V1 m (.iface t (.agg cs)) (.iface t (.agg ds))
inductive V2 (m:List Ent):Value→Value→Prop
  | one {x y:Value} (h:V1 m x y):V2 m x y
  | agg {cs ds:Array Value} (hs:ds.size=cs.size) (h:∀ (i:Nat) (x:Value),cs[i]?=some x→∃y,ds[i]?=some y∧V1 m x y):V2 m (.agg cs) (.agg ds)
inductive V (m:List Ent):Value→Value→Prop
  | two {x y:Value} (h:V2 m x y):V m x y
  | tup {cs ds:Array Value} (hs:ds.size=cs.size) (h:∀ (i:Nat) (x:Value),cs[i]?=some x→∃y,ds[i]?=some y∧V2 m x y):V m (.tuple cs) (.tuple ds)
theorem pre_get{m m':List Ent}(h:m <+: m'){i:Nat}{e:Ent}(he:m[i]?=some e):m'[i]?=some e:=by
  obtain⟨t,rfl⟩:=h
  rw [gaL (by
    rcases Nat.lt_or_ge i m.length with h | h
    · exact h
    · rw [List.getElem?_eq_none h]at he;cases he)]
  exact he
theorem V1.mono{m m':List Ent}(h:m <+: m'){x y:Value}(v:V1 m x y):V1 m' x y:=by
  induction v with
  | plain h1=>exact .plain h1
  | ptr h1=>exact .ptr (pre_get h h1)
  | sl h1 h2 h3=>exact .sl (pre_get h h1) h2 h3
  | slv h1 h2=>exact .slv (pre_get h h1) h2
  | slx h1 h2=>exact .slx (pre_get h h1) h2
  | mp h1=>exact .mp (pre_get h h1)
  | sl0=>exact .sl0
  | clo h1 h2 h3 h4 ih3 ih4=>exact .clo h1 h2 ih3 ih4
  | ifc _ ih=>exact .ifc ih
  | ifa h1 _ ih=>exact .ifa h1 ih
theorem V2.mono{m m':List Ent}(h:m <+: m'){x y:Value}(v:V2 m x y):V2 m' x y:=by
  cases v with
  | one h1=>exact .one (h1.mono h)
  | agg h1 h2=>exact .agg h1 fun i x hx=>let ⟨y,a,b⟩:=h2 i x hx;⟨y,a,b.mono h⟩
theorem V.mono{m m':List Ent}(h:m <+: m'){x y:Value}(v:V m x y):V m' x y:=by
  cases v with
  | two h1=>exact .two (h1.mono h)
  | tup h1 h2=>exact .tup h1 fun i x hx=>let ⟨y,a,b⟩:=h2 i x hx;⟨y,a,b.mono h⟩
def plain2:Value→Bool
  | .agg cs=>cs.all plain1
  | x=>plain1 x
def plainV:Value→Bool
  | .tuple vs=>vs.all plain2
  | x=>plain2 x
theorem V1.eq{m:List Ent}{x y:Value}(v:V1 m x y)(h:plain1 x=true):y=x:=by
  cases v with
  | plain _=>rfl
  | ptr _=>cases h
  | sl _ _ _=>cases h
  | slv _ _=>cases h
  | slx _ _=>cases h
  | mp _=>cases h
  | sl0=>cases h
  | ifc _=>cases h
  | ifa _ _=>cases h
  | @clo g _ _ _ _ h1 h2 _ _=>
    cases g <;> simp only [plain1,Bool.and_eq_true,Array.isEmpty_iff,Bool.false_eq_true]at h
    obtain⟨rfl,rfl⟩:=h
    have e1:=Array.eq_empty_of_size_eq_zero h1
    have e2:=Array.eq_empty_of_size_eq_zero h2
    subst e1 e2
    rfl
theorem V2.eq{m:List Ent}{x y:Value}(v:V2 m x y)(h:plain2 x=true):y=x:=by
  cases v with
  | one h1=>
    cases h1 with
    | plain _=>rfl
    | ptr _=>cases h
    | sl _ _ _=>cases h
    | slv _ _=>cases h
    | slx _ _=>cases h
    | mp _=>cases h
    | sl0=>cases h
    | ifc _=>cases h
    | ifa _ _=>cases h
    | clo h1 h2 h3 h4=>exact V1.eq (.clo h1 h2 h3 h4) h
  | @agg cs ds hs h1=>
    have h:cs.all plain1=true:=h
    rw [Array.all_eq_true]at h
    congr 1
    apply Array.ext_getElem?
    intro i
    cases hx:cs[i]? with
    | none=>rw [Array.getElem?_eq_none_iff]at hx ⊢;omega
    | some x=>
      obtain⟨y,hy,hv⟩:=h1 i x hx
      obtain⟨hi,he⟩:=asI.1 hx
      have h2:plain1 x=true:=by rw [←he];exact h i hi
      rw [hy,hv.eq h2]
theorem V.eq{m:List Ent}{x y:Value}(v:V m x y)(h:plainV x=true):y=x:=by
  cases v with
  | two h1=>
    refine h1.eq ?_
    cases x with
    | tuple vs=>cases h1 with | one h2=>cases h2 with | plain h3=>cases h3
    | _=>exact h
  | @tup cs ds hs h1=>
    have h:cs.all plain2=true:=h
    rw [Array.all_eq_true]at h
    congr 1
    apply Array.ext_getElem?
    intro i
    cases hx:cs[i]? with
    | none=>rw [Array.getElem?_eq_none_iff]at hx ⊢;omega
    | some x=>
      obtain⟨y,hy,hv⟩:=h1 i x hx
      obtain⟨hi,he⟩:=asI.1 hx
      have h2:plain2 x=true:=by rw [←he];exact h i hi
      rw [hy,hv.eq h2]
theorem V.one{m:List Ent}{x y:Value}(h:V1 m x y):V m x y:=.two (.one h)
theorem plain2_mk{m:List Ent}{x:Value}(h:plain2 x=true):V2 m x x:=by
  cases x with
  | agg cs=>
    have h:cs.all plain1=true:=h
    rw [Array.all_eq_true]at h
    exact .agg rfl fun i x hx=>by
      obtain⟨hi,he⟩:=asI.1 hx
      have h2:plain1 x=true:=by rw [←he];exact h i hi
      exact⟨x,hx,.plain h2⟩
  | _=>exact .one (.plain h)
theorem plainV_mk{m:List Ent}{x:Value}(h:plainV x=true):V m x x:=by
  cases x with
  | tuple vs=>
    have h:vs.all plain2=true:=h
    rw [Array.all_eq_true]at h
    exact .tup rfl fun i x hx=>by
      obtain⟨hi,he⟩:=asI.1 hx
      have h2:plain2 x=true:=by rw [←he];exact h i hi
      exact⟨x,hx,plain2_mk h2⟩
  | _=>exact .two (plain2_mk h)
def Fm.put(α:Fm)(d:Option Tmp)(v:Value):Fm:=match d with | none=>α | some d=>fun i=>if i=d then v else α i
def Fm.eval(γ:Nat→Option Nat)(α:Fm):Operand→Value
  | .tmp t=>α t
  | .const v=>v
  | .global g=>match γ g with | some i=>.pointer (some ⟨i,0,none⟩) | none=>undef
  | .func f=>.func (.func f) #[] #[]
def okOpd(n:Nat)(γ:Nat→Option Nat):Operand→Bool
  | .tmp t=>decide (t<n)
  | .const v=>plainV v
  | .global g=>(γ g).isSome
  | .func _=>true
def MapR(m:List Ent)(l:List (Value×Value))(es:Array MapEntry)(cl:Nat):Prop:=
  es.size=l.length∧(∀ (j:Nat) (p:Value×Value),l[j]?=some p→plain2 p.1=true∧∃en,es[j]?=some en∧en.key=p.1∧V2 m p.2 en.val)∧cl=l.length∧∀ (j:Nat) (en:MapEntry),es[j]?=some en→en.born=j
theorem MapR.mono{m m':List Ent}(h:m <+: m'){l:List (Value×Value)}{es:Array MapEntry}{cl:Nat}(hm:MapR m l es cl):MapR m' l es cl:=
  ⟨hm.1,fun j p hp=>by
    obtain⟨a,en,b,c,d⟩:=hm.2.1 j p hp
    exact⟨a,en,b,c,d.mono h⟩,hm.2.2⟩
def Gsz(H:AH)(w:World)(e:Ent)(i:Nat):Prop:=∀ (k:Blk) (cs:Array Value) (ty:TypeId) (fr:Nat×Nat),H[i]?=some (some k)→k.ents=none→w.heap[e.b]?=some (.cells cs ty fr)→cs.size=k.cells.length
structure Rel (nro base:Nat) (γ:Nat→Option Nat) (m:List Ent) (H:AH) (w:World):Prop where
  len:m.length=H.length
  le:nro≤H.length
  base_le:base≤w.heap.size
  inb:∀ (i:Nat) (e:Ent),m[i]?=some e→e.b<w.heap.size
  ro:∀ (i:Nat) (e:Ent),i<nro→m[i]?=some e→e.b<base
  own:∀ (i:Nat) (e:Ent),nro≤i→m[i]?=some e→base≤e.b∧e.o=0
  maps:∀ (i:Nat) (k:Blk) (e:Ent) (l:List (Value×Value)),H[i]?=some (some k)→k.ents=some l→m[i]?=some e→k.cells=[]∧k.es=none∧e.es=none∧∃es clock,w.heap[e.b]?=some (.map es clock)∧MapR m l es clock
  cells:∀ (i:Nat) (k:Blk) (e:Ent),H[i]?=some (some k)→k.ents=none→m[i]?=some e→∃cs fr,w.heap[e.b]?=some (.cells cs k.ty fr)∧(nro≤i→cs.size=e.sz)∧e.es=k.es ∧
    (nro≤i→(∀o,o<cs.size→¬ (fr.1≤o∧o<fr.2))∧(k.es.isSome=true→fr=(0,0)))∧∀ (j:Nat) (x:Value),k.cells[j]?=some x→∃y,cs[e.o+j]?=some y∧V1 m x y
  apart:∀ (i j:Nat) (ki kj:Blk) (ei ej:Ent),nro≤i→nro≤j→i≠j→H[i]?=some (some ki)→H[j]?=some (some kj)→m[i]?=some ei→m[j]?=some ej→ei.b≠ej.b
  glob:∀ (g i:Nat),γ g=some i→i<nro∧∃e:Ent,m[i]?=some e∧e.b=g∧e.o=0∧Gsz H w e i
structure FR (n:Nat) (m:List Ent) (α:Fm) (a:Act):Prop where
  defers:a.defers=[]
  size:a.tmps.size=n
  val:∀i,i<n→V m (α i) (a.tmps.getD i undef)
section
variable {P:Program} {nro n base:Nat} {γ:Nat→Option Nat} {m:List Ent} {H:AH} {α:Fm} {a:Act} {w:World}
theorem FR.mono(h:FR n m α a){m':List Ent}(hm:m <+: m'):FR n m' α a:=⟨h.defers,h.size,fun i hi=>(h.val i hi).mono hm⟩
theorem FR.eval(h:FR n m α a)(hR:Rel nro base γ m H w){x:Operand}(hx:okOpd n γ x=true):V m (α.eval γ x) (a.eval x):=by
  cases x with
  | tmp t=>exact h.val t (by simpa [okOpd] using hx)
  | const v=>exact plainV_mk hx
  | global g=>
    simp only [okOpd]at hx
    obtain⟨i,hi⟩:=Option.isSome_iff_exists.1 hx
    obtain⟨_,e,h1,h2,h3,_⟩:=hR.glob g i hi
    have h4:α.eval γ (.global g)=.pointer (some ⟨i,0,none⟩):=by simp [Fm.eval,hi]
    have h5:a.eval (.global g)=.pointer (some ⟨e.b,e.o+0,none⟩):=by simp [Act.eval,h2,h3]
    rw [h4,h5]
    exact .one (.ptr h1)
  | func f=>exact .one (.plain rfl)
theorem FR.put(h:FR n m α a){d:Option Tmp}{v v':Value}(hv:V m v v'):FR n m (α.put d v) (a.put d v'):=by
  cases d with
  | none=>exact h
  | some d=>
    refine⟨h.defers,by simp [Act.put,h.size],fun i hi=>?_⟩
    simp only [Fm.put,Act.put]
    have hi':i<a.tmps.size:=by rw [h.size];exact hi
    by_cases e:i=d
    · subst e;simp [hi',hv]
    · rw [if_neg e]
      have:=h.val i hi
      simpa [hi',Array.getElem_setIfInBounds,Ne.symm e] using this
theorem Rel.globs(hR:Rel nro base γ m H w){nro':Nat}{m':List Ent}{H':AH}{w':World}(hn:nro≤nro')(hm:∀ (i:Nat) (e:Ent),m[i]?=some e→m'[i]?=some e)(hH:∀ (i:Nat) (k:Blk),i<nro→H'[i]?=some (some k)→H[i]?=some (some k))
    (hw:∀ (i:Nat) (k:Blk) (e:Ent),i<nro→H[i]?=some (some k)→m[i]?=some e→w'.heap[e.b]?=w.heap[e.b]?):∀ (g i:Nat),γ g=some i→i<nro'∧∃e:Ent,m'[i]?=some e∧e.b=g∧e.o=0∧Gsz H' w' e i:=by
  intro g i hg
  obtain⟨h0,e,h1,h2,h3,h4⟩:=hR.glob g i hg
  refine⟨Nat.lt_of_lt_of_le h0 hn,e,hm i e h1,h2,h3,fun k cs ty fr hk hkm hc=>?_⟩
  have hk':=hH i k h0 hk
  exact h4 k cs ty fr hk' hkm ((hw i k e h0 hk' h1).symm.trans hc)
theorem Rel.below(h:Rel nro base γ m H w){w':World}(hb:Below w.heap.size w w'):Rel nro base γ m H w':=
  ⟨h.len,h.le,Nat.le_trans h.base_le hb.size,fun i e he=>Nat.lt_of_lt_of_le (h.inb i e he) hb.size,h.ro,h.own,
   fun i k e l hk hl he=>by
     obtain⟨h1,h2,h0,es,cl,h3,h4⟩:=h.maps i k e l hk hl he
     exact⟨h1,h2,h0,es,cl,(hb.block _ (h.inb i e he)).trans h3,h4⟩,
   fun i k e hk hm he=>by
     obtain⟨cs,fr,h1,h2⟩:=h.cells i k e hk hm he
     exact⟨cs,fr,(hb.block _ (h.inb i e he)).trans h1,h2⟩,h.apart,h.globs (nlE _) (fun _ _ h=>h) (fun _ _ _ h=>h) (fun i k e _ _ he=>hb.block _ (h.inb i e he))⟩
theorem Rel.drewN(h:Rel nro base γ m H w)(q:Nat):Rel nro base γ m H (w.drewN q):=⟨h.len,h.le,h.base_le,h.inb,h.ro,h.own,h.maps,h.cells,h.apart,h.globs (nlE _) (fun _ _ h=>h) (fun _ _ _ h=>h) (fun _ _ _ _ _ _=>rfl)⟩
def Con(nro n:Nat)(γ:Nat→Option Nat)(m0:List Ent)(base:Nat)(w0:World)(Q:Exit→Fm→AH→Prop):Exit→Act→World→Prop:=
  fun e a w=>∃m α H,m0 <+: m∧Rel nro base γ m H w∧FR n m α a∧Below base w0 w∧Q e α H
theorem Con.trans{m0:List Ent}{w0:World}{Q:Exit→Fm→AH→Prop}{e:Exit}{a':Act}{w':World}(hm:m0 <+: m)(hb:Below base w0 w)(h:Con nro n γ m base w Q e a' w'):Con nro n γ m0 base w0 Q e a' w':=
  let ⟨m',α',H',h1,h2,h3,h4,h5⟩:=h
  ⟨m',α',H',hm.trans h1,h2,h3,hb.trans h4,h5⟩
theorem Con.imp{w0:World}{Q Q':Exit→Fm→AH→Prop}{e:Exit}{m0:List Ent}(h:Con nro n γ m0 base w0 Q e a w)(hq:∀e α H,Q e α H→Q' e α H):Con nro n γ m0 base w0 Q' e a w:=
  let ⟨m',α',H',h1,h2,h3,h4,h5⟩:=h
  ⟨m',α',H',h1,h2,h3,h4,hq _ _ _ h5⟩
def AW(P:Program)(nro n:Nat)(γ:Nat→Option Nat)(c:Code)(Q:Exit→Fm→AH→Prop)(α:Fm)(H:AH):Prop:=
  ∀m base w a,Rel nro base γ m H w→FR n m α a→c.wp P (Con nro n γ m base w Q) a w
def thenQ(N:Fm→AH→Prop)(Q:Exit→Fm→AH→Prop):Exit→Fm→AH→Prop
  | .normal=>N
  | e=>Q e
def inBlockQ(id:Nat)(Q:Exit→Fm→AH→Prop):Exit→Fm→AH→Prop
  | .exit id'=>if id'=id then Q .normal else Q (.exit id')
  | e=>Q e
variable {Q:Exit→Fm→AH→Prop}
theorem AW.mono{c:Code}{Q':Exit→Fm→AH→Prop}(h:AW P nro n γ c Q α H)(hq:∀e α H,Q e α H→Q' e α H):AW P nro n γ c Q' α H:=
  fun m base w a hR hF=>Code.wp_mono (fun _ _ _ hc=>hc.imp hq) (h m base w a hR hF)
theorem aw_cut{c:Code}{N:Fm→AH→Prop}(M:Fm→AH→Prop)(h:AW P nro n γ c (thenQ M Q) α H)(k:∀α H,M α H→N α H):AW P nro n γ c (thenQ N Q) α H:=
  h.mono fun e α H hq=>by
    cases e with
    | normal=>exact k _ _ hq
    | _=>exact hq
theorem aw_seq{x y:Code}(h:AW P nro n γ x (thenQ (fun α H=>AW P nro n γ y Q α H) Q) α H):AW P nro n γ (.seq x y) Q α H:=by
  intro m base w a hR hF
  refine wp_seq (Code.wp_mono ?_ (h m base w a hR hF))
  rintro e a' w' ⟨m',α',H',hm,hR',hF',hb,hq⟩
  cases e with
  | normal=>exact Code.wp_mono (fun _ _ _ hc=>hc.trans hm hb) (hq m' base w' a' hR' hF')
  | _=>exact⟨m',α',H',hm,hR',hF',hb,hq⟩
theorem aw_skip(h:Q .normal α H):AW P nro n γ .skip Q α H:=fun m base w _ hR hF=>wp_skip ⟨m,α,H,List.prefix_rfl,hR,hF,.refl _ _,h⟩
theorem aw_ret(h:Q .ret α H):AW P nro n γ .ret Q α H:=fun m base w _ hR hF=>wp_ret ⟨m,α,H,List.prefix_rfl,hR,hF,.refl _ _,h⟩
theorem aw_exit{id:Nat}(h:Q (.exit id) α H):AW P nro n γ (.exit id) Q α H:=fun m base w _ hR hF=>wp_exit ⟨m,α,H,List.prefix_rfl,hR,hF,.refl _ _,h⟩
theorem aw_cond{c:Operand}{x y:Code}{t:Bool}(hc:α.eval γ c=.bool t)(ho:okOpd n γ c=true)(h:AW P nro n γ (if t then x else y) Q α H):AW P nro n γ (.cond c x y) Q α H:=by
  intro m base w a hR hF
  have hv:=hF.eval hR ho
  rw [hc]at hv
  exact wp_cond (hv.eq rfl) (h m base w a hR hF)
def scopeQ(Q:Exit→Fm→AH→Prop):Exit→Fm→AH→Prop
  | .goto _=>fun _ _=>False
  | e=>Q e
theorem aw_block{id:Nat}{c:Code}(h:AW P nro n γ c (inBlockQ id Q) α H):AW P nro n γ (.block id c) Q α H:=by
  intro m base w a hR hF
  refine wp_block (Code.wp_mono ?_ (h m base w a hR hF))
  rintro e a' w' ⟨m',α',H',hm,hR',hF',hb,hq⟩
  cases e with
  | exit id'=>
    simp only [Exit.inBlock,inBlockQ]at hq ⊢
    split
    · rename_i hid;rw [if_pos hid]at hq;exact⟨m',α',H',hm,hR',hF',hb,hq⟩
    · rename_i hid;rw [if_neg hid]at hq;exact⟨m',α',H',hm,hR',hF',hb,hq⟩
  | _=>exact⟨m',α',H',hm,hR',hF',hb,hq⟩
theorem least{p:Nat→Prop}(h:∃k,p k):∃k,p k∧∀j,j<k→¬ p j:=by
  obtain⟨k,hk⟩:=h
  induction k using Nat.strongRecOn with
  | _ k ih=>
    by_cases h:∃j,j<k∧p j
    · obtain⟨j,hj,hp⟩:=h;exact ih j hj hp
    · exact⟨k,hk,fun j hj hp=>h ⟨j,hj,hp⟩⟩
theorem leastOf(p:Act→World→Nat→Prop):∃f:Act→World→Nat,∀a w,(∃k,p a w k)→p a w (f a w)∧∀j,p a w j→f a w≤j:=by
  have h:∀a w,∃n,(∃k,p a w k)→p a w n∧∀j,p a w j→n≤j:=by
    intro a w
    by_cases h:∃k,p a w k
    · obtain⟨k,h1,h2⟩:=least h
      exact⟨k,fun _=>⟨h1,fun j hj=>by
        rcases Nat.lt_or_ge j k with hlt | hge
        · exact absurd hj (h2 j hlt)
        · exact hge⟩⟩
    · exact⟨0,fun hh=>absurd hh h⟩
  exact⟨fun a w=>(h a w).choose,fun a w=>(h a w).choose_spec⟩
theorem aw_loop{c:Code}(I:Nat→Fm→AH→Prop)(k0:Nat)(h0:I k0 α H)
    (round:∀k α H,I k α H→AW P nro n γ c (thenQ (fun α' H'=>∃k',k'<k∧I k' α' H') Q) α H):AW P nro n γ (.loop c) Q α H:=by
  intro m base w a hR hF
  let J (k:Nat) (a':Act) (w':World):Prop:=∃m' α' H',m <+: m'∧Rel nro base γ m' H' w'∧FR n m' α' a'∧Below base w w'∧I k α' H'
  obtain⟨μ,hμ⟩:=leastOf (fun a' w' k=>J k a' w')
  refine wp_loop (fun a' w'=>∃k,J k a' w') μ ⟨k0,m,α,H,List.prefix_rfl,hR,hF,.refl _ _,h0⟩ ?_
  intro a1 w1 hex
  obtain⟨⟨m1,α1,H1,hm1,hR1,hF1,hb1,hi1⟩,_⟩:=hμ a1 w1 hex
  refine Code.wp_mono ?_ (round _ α1 H1 hi1 m1 base w1 a1 hR1 hF1)
  rintro e a2 w2 ⟨m2,α2,H2,hm2,hR2,hF2,hb2,hq⟩
  cases e with
  | normal=>
    obtain⟨k',hlt,hi'⟩:=hq
    have hJ:J k' a2 w2:=⟨m2,α2,H2,hm1.trans hm2,hR2,hF2,hb1.trans hb2,hi'⟩
    exact⟨⟨k',hJ⟩,Nat.lt_of_le_of_lt ((hμ a2 w2 ⟨k',hJ⟩).2 k' hJ) hlt⟩
  | _=>exact⟨m2,α2,H2,hm1.trans hm2,hR2,hF2,hb1.trans hb2,hq⟩
def AL(P:Program)(nro n:Nat)(γ:Nat→Option Nat)(ops:Array Oper)(Q:Exit→Fm→AH→Prop)(l:List Oper)(α:Fm)(H:AH):Prop:=
  ∀m base w a,Rel nro base γ m H w→FR n m α a→wpList P ops (Con nro n γ m base w Q) l a w
theorem aw_region{id:Nat}{l:List Oper}(h:AL P nro n γ l.toArray Q l α H):AW P nro n γ (.region id l.toArray false) Q α H:=
  fun m base w a hR hF=>wp_region_lit (h m base w a hR hF)
theorem wpList_mono{ops:Array Oper}{Q' Q'':Exit→Act→World→Prop}(hq:∀e a w,Q' e a w→Q'' e a w):∀ (l:List Oper) (a:Act) (w:World),wpList P ops Q' l a w→wpList P ops Q'' l a w
  | [],a,w,h=>hq _ _ _ h
  | o::l,a,w,h=>by
    unfold wpList at h ⊢
    have hout:LetsOut Q'→LetsOut Q'':=fun ⟨a,w,h⟩=>⟨a,w,hq _ _ _ h⟩
    split
    · rename_i hw
      rw [if_pos hw]at h
      refine h.imp (fun h=>?_) (fun h=>⟨h.1,hout h.2⟩)
      unfold Oper.wp at h ⊢
      generalize (execOp a.eval o).run P w=r at *
      cases r with
      | ok x w'=>
        cases x <;> simp only [Oper.upon]at h ⊢ <;>
          first
            | exact wpList_mono hq l _ _ h
            | exact Calls.mono h (fun e w'' he=>by cases e <;> first | exact wpList_mono hq l _ _ he | exact hq _ _ _ he | exact hout he)
            | exact Go.Rows.mono h (fun _ _ he=>wpList_mono hq l _ _ he)
      | halt x w'=>cases x <;> simp only [Oper.upon]at h ⊢ <;> first | exact hq _ _ _ h | exact h
    · rename_i hw
      rw [if_neg hw]at h
      exact wpList_mono hq l _ _ h
variable {ops:Array Oper} {rest:List Oper} {o:Oper}
theorem al_nil(h:Q .normal α H):AL P nro n γ ops Q [] α H:=fun m _ _ _ hR hF=>⟨m,α,H,List.prefix_rfl,hR,hF,.refl _ _,h⟩
def AV(P:Program)(nro n:Nat)(γ:Nat→Option Nat)(o:Oper)(α:Fm)(H:AH)(v:Value)(H':AH):Prop:=
  ∀m base w a,Rel nro base γ m H w→FR n m α a→∃m' x w' v',(execOp a.eval o).run P w=.ok x w'∧(x=.value v'∨x=.skip∧v'=undef)∧m <+: m'∧V m' v v'∧Rel nro base γ m' H' w'∧Below base w w'
def AQ(P:Program)(nro n:Nat)(γ:Nat→Option Nat)(o:Oper)(α:Fm)(H:AH)(v:Value):Prop:=
  ∀m base w a,Rel nro base γ m H w→FR n m α a→∃v',V m v v'∧∀w',Below w.heap.size w w'→(execOp a.eval o).run P w'=.ok (.value v') w'
theorem AQ.av{v:Value}(h:AQ P nro n γ o α H v):AV P nro n γ o α H v H:=fun m base w a hR hF=>
  let ⟨v',h1,h2⟩:=h m base w a hR hF
  ⟨m,_,w,v',h2 w (.refl _ _),.inl rfl,List.prefix_rfl,h1,hR,.refl _ _⟩
def wb(v:Value)(want:Bool):Option Bool:=
  match v with
  | .bool b=>some (b==want)
  | .tuple _=>some false
  | _=>none
theorem wb_bool(b want:Bool):wb (.bool b) want=some (b==want):=rfl
theorem wb_undef(want:Bool):wb undef want=some false:=rfl
def wantedA(ops:Array Oper)(n:Nat)(α:Fm)(o:Oper):Option Bool:=
  match o.guard with
  | none=>some true
  | some (j,want)=>
    match (ops[j]?).bind (·.dst) with
    | some d=>if d<n then wb (α d) want else none
    | none=>none
theorem wantedA_spec(hF:FR n m α a){b:Bool}(h:wantedA ops n α o=some b):Region.wanted o (yielded ops a.tmps)=b:=by
  unfold wantedA at h
  unfold Region.wanted
  cases hg:o.guard with
  | none=>rw [hg]at h;exact Option.some.inj h
  | some jw=>
    obtain⟨j,want⟩:=jw
    rw [hg]at h
    show (yielded ops a.tmps j==some want)=b
    unfold yielded
    cases hd:(ops[j]?).bind (·.dst) with
    | none=>simp only [hd]at h;cases h
    | some d=>
      simp only [hd]at h
      by_cases hn:d<n
      · rw [if_pos hn]at h
        have hv:=hF.val d hn
        have hget:a.tmps[d]?=some (a.tmps.getD d undef):=by
          have:d<a.tmps.size:=by rw [hF.size];exact hn
          simp [this]
        unfold wb at h
        split at h
        · rename_i b' hb
          rw [hb]at hv
          have h1:=hv.eq rfl
          have h3:(some d).bind (fun x=>a.tmps[x]?)=some (.bool b'):=by show a.tmps[d]?=_;rw [hget,h1]
          rw [h3]
          simp only [Option.some.injEq]at h
          rw [←h]
          simp
        · rename_i vs hb
          rw [hb]at hv
          have h1:∃ds,a.tmps.getD d undef=.tuple ds:=by
            generalize a.tmps.getD d undef=y at hv
            cases hv with
            | two h=>cases h with | one h=>cases h with | plain h=>cases h
            | tup _ _=>exact⟨_,rfl⟩
          obtain⟨ds,h1⟩:=h1
          have h3:(some d).bind (fun x=>a.tmps[x]?)=some (.tuple ds):=by show a.tmps[d]?=_;rw [hget,h1]
          rw [h3]
          simp only [Option.some.injEq]at h
          rw [←h]
          rfl
        · cases h
      · rw [if_neg hn]at h;cases h
theorem plainV_undef:plainV undef=true:=by simp [plainV,undef]
theorem al_step{v:Value}{H':AH}(hw:wantedA ops n α o=some true)(h:AV P nro n γ o α H v H')(hr:AL P nro n γ ops Q rest (α.put o.dst v) H'):AL P nro n γ ops Q (o::rest) α H:=by
  intro m base w a hR hF
  obtain⟨m',x,w',v',h1,h2,h3,h4,h5,h6⟩:=h m base w a hR hF
  unfold wpList
  rw [wantedA_spec hF hw]
  simp only [if_true]
  refine .inl ?_
  unfold Oper.wp
  rw [h1]
  have hgo:=hr m' base w' (a.put o.dst v') h5 ((hF.mono h3).put h4)
  rcases h2 with rfl | ⟨rfl,rfl⟩
  · exact wpList_mono (fun e a w hc=>hc.trans h3 h6) _ _ _ hgo
  · exact wpList_mono (fun e a w hc=>hc.trans h3 h6) _ _ _ hgo
theorem al_pass(hw:wantedA ops n α o=some false)(hr:AL P nro n γ ops Q rest (α.put o.dst undef) H):AL P nro n γ ops Q (o::rest) α H:=by
  intro m base w a hR hF
  unfold wpList
  rw [wantedA_spec hF hw]
  simp only [Bool.false_eq_true,if_false]
  exact hr m base w _ hR (hF.put (plainV_mk plainV_undef))
def bodied(P:Program)(f:FuncId):Bool:=
  match P.funcs[f]? with
  | some fn=>fn.body.isSome
  | none=>false
def CallsX(P:Program)(f:FuncId)(args:Array Value)(w:World)(R:Ending→World→Prop):Prop:=
  (bodied P f=true∧Calls P f args w R)∨∃v,(callFunc f args).run P w=.ok (.value v) w∧R (.returned v) w
theorem CallsX.mono{f:FuncId}{args:Array Value}{w:World}{R R':Ending→World→Prop}(h:CallsX P f args w R)(hr:∀e w',R e w'→R' e w'):CallsX P f args w R':=by
  rcases h with ⟨h1,h2⟩ | ⟨v,h1,h2⟩
  · exact .inl ⟨h1,h2.mono hr⟩
  · exact .inr ⟨v,h1,hr _ _ h2⟩
def AC(P:Program)(nro:Nat)(γ:Nat→Option Nat)(f:FuncId)(args:Array Value)(H:AH)(Q:Value→AH→Prop):Prop:=
  ∀m base w args',Rel nro base γ m H w→args'.size=args.size→(∀ (i:Nat) (x:Value),args[i]?=some x→∃y,args'[i]?=some y∧V m x y) →
    CallsX P f args' w fun e w'=>∃m' v v' H',e=.returned v'∧m <+: m'∧V m' v v'∧Rel nro base γ m' H' w'∧Below base w w'∧Q v H'
def VC(P:Program)(f:FuncId)(args:Array Value)(v:Value):Prop:=∀w,CallsX P f args w fun e w'=>e=.returned v∧Below w.heap.size w w'
theorem AC.mono{f:FuncId}{args:Array Value}{Q Q':Value→AH→Prop}(h:AC P nro γ f args H Q)(hq:∀v H,Q v H→Q' v H):AC P nro γ f args H Q':=
  fun m base w args' hR h1 h2=>(h m base w args' hR h1 h2).mono fun _ _ ⟨m',v,v',H',a,b,c,d,e,f⟩=>⟨m',v,v',H',a,b,c,d,e,hq _ _ f⟩
end
end
section
def iv(k:IntKind)(l:List Int):List Value:=l.map (Value.int k)
@[simp] theorem iv_length (k:IntKind) (l:List Int):(iv k l).length=l.length:=by simp [iv]
theorem iv_get(k:IntKind)(l:List Int)(i:Nat)(h:i<l.length):(iv k l)[i]?=some (.int k (l.getD i 0)):=by simp [iv,geE h]
theorem iv_append(k:IntKind)(l r:List Int):iv k (l++r)=iv k l++iv k r:=by simp [iv]
theorem iv_take(k:IntKind)(l:List Int)(i:Nat):(iv k l).take i=iv k (l.take i):=by simp [iv,List.map_take]
theorem iv_plain(k:IntKind)(l:List Int):plain2 (.agg (iv k l).toArray)=true:=by
 show (iv k l).toArray.all plain1=true
 simp [iv,plain1]
def zl(n:Nat):List Int:=List.replicate n 0
@[simp] theorem zl_length (n:Nat):(zl n).length=n:=by simp [zl]
def und(P:Program)(t:TypeId):TypeDesc:=(P.underlying t).getD .invalid
def szt(P:Program)(t:TypeId):Nat:=((P.info? t).map (·.size)).getD 0
def isAggD:TypeDesc→Bool | .struct _ | .array _ _=>true | _=>false
theorem und_some{P:Program}{t:TypeId}{d:TypeDesc}(h:und P t=d)(hd:d≠.invalid):P.underlying t=some d:=by
 unfold und at h
 cases hu:P.underlying t with
 | none=>rw [hu]at h;exact absurd h.symm hd
 | some d'=>rw [hu]at h;simp only [Option.getD_some]at h;rw [h]
theorem szt_info{P:Program}{t:TypeId}(h:0<szt P t):∃i,P.info? t=some i∧i.size=szt P t:=by
 unfold szt at h ⊢
 cases hi:P.info? t with
 | none=>rw [hi]at h;simp at h
 | some i=>exact⟨i,rfl,by simp⟩
section
variable {P:Program}
theorem run_sizeOf{t:TypeId}(h:0<szt P t)(w:World):(sizeOf t).run P w=.ok (szt P t) w:=by
 obtain⟨i,h1,h2⟩:=szt_info h
 simp [sizeOf,typeInfo,h1,h2]
theorem run_isAgg{t:TypeId}(h:und P t≠.invalid)(w:World):(isAgg t).run P w=.ok (isAggD (und P t)) w:=by
 have:=und_some rfl h
 simp only [isAgg,Sem.run_bind,run_underlying this,Result.andThen_ok]
 cases und P t <;> simp [isAggD]
theorem run_load_cell{w:World}{b o:Nat}{v:Value}(h:w.cell? ⟨b,o,none⟩=some v):(load ⟨b,o,none⟩).run P w=.ok v w:=by
 simp [load,Sem.run,h]
theorem add_none(b o k:Nat):(⟨b,o,none⟩:Addr).add k=⟨b,o+k,none⟩:=by unfold Addr.add;split <;> simp_all
theorem run_loadVar_one{w:World}{t:TypeId}{b o:Nat}{v:Value}(ht:und P t≠.invalid)(hg:isAggD (und P t)=false)(h:w.cell? ⟨b,o,none⟩=some v):(loadVar t ⟨b,o,none⟩).run P w=.ok v w:=by
 simp only [loadVar,Sem.run_bind,run_isAgg ht,hg,Result.andThen_ok,Bool.false_eq_true,if_false]
 exact run_load_cell h
theorem run_loadVar_agg{w:World}{t:TypeId}{b o:Nat}{cs:List Value}(ht:und P t≠.invalid)(hg:isAggD (und P t)=true)(hs:0<szt P t)(hl:cs.length=szt P t)
  (h:∀j v,cs[j]?=some v→w.cell? ⟨b,o+j,none⟩=some v):(loadVar t ⟨b,o,none⟩).run P w=.ok (.agg cs.toArray) w:=by
 have h1:=run_loadCells_list (P:=P) w ⟨b,o,none⟩ cs (fun j v hj=>by rw [add_none];exact h j v hj)
 rw [hl]at h1
 simp [loadVar,run_isAgg ht,hg,run_sizeOf hs,h1]
end
def hget(H:AH)(i:Nat):Option Blk:=(H[i]?).join
theorem hget_some{H:AH}{i:Nat}{k:Blk}(h:hget H i=some k):H[i]?=some (some k):=by
 unfold hget at h
 cases hi:H[i]? with
 | none=>rw [hi]at h;cases h
 | some x=>rw [hi]at h;simp at h;rw [h]
def gb(s:ByteArray)(i:Nat):Int:=((s.data.toList.getD i 0).toNat:Int)
theorem gb_at(s:ByteArray)(i:Nat)(h:i<s.size):gb s i=(s[i].toNat:Int):=by
 unfold gb
 have h':i<s.data.toList.length:=by simpa using h
 rw [gdD,geE h']
 simp [ByteArray.getElem_eq_getElem_data]
def bitsOf(op:BinOp)(k:IntKind)(x y:Int):Int:=
 let a:=BitVec.ofInt k.bits x
 let b:=BitVec.ofInt k.bits y
 match op with
 | .and=>k.wrap (a &&& b).toNat
 | .or=>k.wrap (a ||| b).toNat
 | .xor=>k.wrap (a ^^^ b).toNat
 | _=>k.wrap (a &&& ~~~b).toNat
def xint(op:BinOp)(k:IntKind)(a b:Int):Option Value:=
 match op with
 | .add=>some (.int k (k.wrap (a+b)))
 | .sub=>some (.int k (k.wrap (a-b)))
 | .mul=>some (.int k (k.wrap (a*b)))
 | .quo=>if b=0 then none else some (.int k (k.wrap (a.tdiv b)))
 | .rem=>if b=0 then none else some (.int k (a.tmod b))
 | .and=>some (.int k (bitsOf .and k a b))
 | .or=>some (.int k (bitsOf .or k a b))
 | .xor=>some (.int k (bitsOf .xor k a b))
 | .andNot=>some (.int k (bitsOf .andNot k a b))
 | .eql=>some (.bool (a==b))
 | .neq=>some (.bool (a != b))
 | .lss=>some (.bool (decide (a<b)))
 | .leq=>some (.bool (decide (a≤b)))
 | .gtr=>some (.bool (decide (a>b)))
 | .geq=>some (.bool (decide (a≥b)))
 | _=>none
def xstr(op:BinOp)(a b:ByteArray):Option Value:=
 match op with
 | .add=>if a.size+b.size≤9223372036854775807 then some (.string (a++b)) else none
 | .eql=>some (.bool (a.toList==b.toList))
 | .neq=>some (.bool (!(a.toList==b.toList)))
 | .lss=>some (.bool (Op.bytesLess a.toList b.toList))
 | .leq=>some (.bool (Op.bytesLess a.toList b.toList||a.toList==b.toList))
 | .gtr=>some (.bool (!(Op.bytesLess a.toList b.toList||a.toList==b.toList)))
 | .geq=>some (.bool (!(Op.bytesLess a.toList b.toList)))
 | _=>none
def xbin(P:Program)(op:BinOp)(t:TypeId)(x y:Value):Option Value:=
 match op,x,y with
 | .shl,.int k a,.int _ b=>if b<0 then none else some (.int k (k.wrap (a*2 ^ (min b.toNat k.bits))))
 | .shr,.int k a,.int _ b=>if b<0 then none else some (.int k (a.fdiv (2 ^ (min b.toNat k.bits))))
 | op,.int k a,.int k' b=>if k=k' then xint op k a b else none
 | op,.string a,.string b=>xstr op a b
 | .eql,.bool a,.bool b=>match und P t with | .bool=>some (.bool (a==b)) | _=>none
 | .neq,.bool a,.bool b=>match und P t with | .bool=>some (.bool (a != b)) | _=>none
 | _,_,_=>none
def xun(op:UnOp)(x:Value):Option Value:=
 match op,x with
 | .neg,.int k a=>some (.int k (k.wrap (0-a)))
 | .xor,.int k a=>some (.int k (bitsOf .xor k (if k.signed then -1 else k.max) a))
 | .not,.bool b=>some (.bool !b)
 | _,_=>none
section
variable {P:Program}
theorem xint_run{op:BinOp}{k:IntKind}{t:TypeId}{a b:Int}{v:Value}(h:xint op k a b=some v)(h1:op≠.shl)(h2:op≠.shr)(w:World):(binOp op t (.int k a) (.int k b)).run P w=.ok v w:=by
 cases op <;> simp only [xint]at h <;> first | (cases h;done) | skip
 case quo=>split at h <;> cases h;rename_i hb;simp [binOp,Op.intDiv,hb]
 case rem=>split at h <;> cases h;rename_i hb;simp [binOp,Op.intDiv,hb]
 all_goals (cases h;first | (simp [binOp,Op.intArith];done) | (simp [binOp,Op.intBits,bitsOf];done) | (simp [binOp,Op.intCmp];done) | exact absurd rfl h1 | exact absurd rfl h2)
theorem xstr_run{op:BinOp}{t:TypeId}{a b:ByteArray}{v:Value}(h:xstr op a b=some v)(w:World):(binOp op t (.string a) (.string b)).run P w=.ok v w:=by
 cases op <;> simp only [xstr]at h <;> first | (cases h;done) | skip
 case add=>
  split at h <;> cases h
  rename_i hb
  have hb':¬ ((a.size:Int)+b.size>IntKind.i64.max):=by have:IntKind.i64.max=9223372036854775807:=rfl;omega
  simp [binOp,Op.stringOp]
  omega
 all_goals (cases h;simp [binOp,Op.stringOp])
theorem guard_int(op:BinOp)(t:TypeId)(ox oy:Operand)(k k':IntKind)(a b:Int)(w:World):(eqGuard op t ox oy (.int k a) (.int k' b)).run P w=.ok () w:=by
 cases op <;> simp [eqGuard]
theorem guard_str(op:BinOp)(t:TypeId)(ox oy:Operand)(a b:ByteArray)(w:World):(eqGuard op t ox oy (.string a) (.string b)).run P w=.ok () w:=by
 cases op <;> simp [eqGuard]
theorem guard_bool(op:BinOp)(t:TypeId)(ox oy:Operand)(a b:Bool)(w:World):(eqGuard op t ox oy (.bool a) (.bool b)).run P w=.ok () w:=by
 cases op <;> simp [eqGuard]
theorem run_equal_bool{t:TypeId}(hu:P.underlying t=some .bool)(a b:Bool)(w:World):(Op.equal t (.bool a) (.bool b)).run P w=.ok (a==b) w:=by
 show (Op.equalIn (9999+1) t (.bool a) (.bool b)).run P w=_
 unfold Op.equalIn
 rw [Sem.run_bind,run_underlying hu]
 rfl
theorem xbin_run{op:BinOp}{t:TypeId}{x y:Value}{v:Value}(h:xbin P op t x y=some v)(ox oy:Operand)(w:World) :
  (do eqGuard op t ox oy x y;binOp op t x y:Sem Value).run P w=.ok v w:=by
 unfold xbin at h
 split at h
 ·split at h <;> cases h
  rename_i hb
  rw [Sem.run_bind,guard_int]
  simp [binOp,Op.shift,hb]
 ·split at h <;> cases h
  rename_i hb
  rw [Sem.run_bind,guard_int]
  simp [binOp,Op.shift,hb]
 ·rename_i h1 h2
  split at h
  ·rename_i hk
   subst hk
   rw [Sem.run_bind,guard_int]
   exact xint_run h (fun e=>h1 e) (fun e=>h2 e) w
  ·cases h
 ·rw [Sem.run_bind,guard_str]
  exact xstr_run h w
 ·split at h <;> cases h
  rename_i x y _ hu
  rw [Sem.run_bind,guard_bool]
  have h2:(binOp .eql t (.bool x) (.bool y)).run P w=.ok (.bool (x==y)) w:=by
   show ((do pure (.bool (←Op.equal t (.bool x) (.bool y))):Sem Value).run P w)=_
   rw [Sem.run_bind,run_equal_bool (und_some hu (by simp))]
   rfl
  exact h2
 ·split at h <;> cases h
  rename_i x y _ hu
  rw [Sem.run_bind,guard_bool]
  have h2:(binOp .neq t (.bool x) (.bool y)).run P w=.ok (.bool (x != y)) w:=by
   show ((do pure (.bool (!(←Op.equal t (.bool x) (.bool y)))):Sem Value).run P w)=_
   rw [Sem.run_bind,run_equal_bool (und_some hu (by simp))]
   rfl
  exact h2
 ·cases h
theorem xun_run{op:UnOp}{x:Value}{v:Value}(h:xun op x=some v)(w:World):(Op.unary op x).run P w=.ok v w:=by
 unfold xun at h
 split at h <;> cases h
 ·simp [Op.unary,Op.intArith]
 ·simp [Op.unary,Op.intBits,bitsOf]
 ·simp [Op.unary]
end
end
section
def isU8:Value→Bool | .int .u8 _=>true | _=>false
def num:Value→Int | .int _ x=>x | _=>0
def byteList(l:List Value):Option (List Int):=if l.all isU8 then some (l.map num) else none
theorem byteList_iv(l:List Int):byteList (iv .u8 l)=some l:=by
 unfold byteList
 have h1:(iv .u8 l).all isU8=true:=by simp [iv,isU8]
 rw [if_pos h1]
 simp [iv]
 exact List.map_id'' (fun _=>rfl) l
theorem byteList_spec{l:List Value}{ns:List Int}(h:byteList l=some ns):l=iv .u8 ns:=by
 unfold byteList at h
 split at h
 ·rename_i ha
  cases h
  unfold iv
  induction l with
  | nil=>rfl
  | cons x l ih=>
   simp only [List.all_cons,Bool.and_eq_true]at ha
   rw [List.map_cons,List.map_cons,←ih ha.2]
   congr 1
   have:=ha.1
   unfold isU8 at this
   split at this
   ·rfl
   ·cases this
 ·cases h
def okD:TypeDesc→Bool | .invalid=>false | _=>true
theorem okD_ne{d:TypeDesc}(h:okD d=true):d≠.invalid:=by intro e;subst e;cases h
theorem agg_ne{d:TypeDesc}(h:isAggD d=true):d≠.invalid:=by intro e;subst e;cases h
def zer(P:Program)(t:TypeId):Option Value:=(P.info? t).bind (·.zero)
def asInt?:Value→Option Int | .int _ x=>some x | _=>none
def xload(P:Program)(t:TypeId)(x:Value)(H:AH):Option Value:=
 match x with
 | .pointer (some ⟨i,off,none⟩)=>
  match hget H i with
  | none=>none
  | some k=>
   if isAggD (und P t)=true then (if 0<szt P t∧off+szt P t≤k.cells.length then some (.agg ((k.cells.drop off).take (szt P t)).toArray) else none)
   else if okD (und P t)=true then k.cells[off]? else none
 | _=>none
def xconv(P:Program)(s d:TypeId)(x:Value)(H:AH):Option Value:=
 match und P d,x with
 | .int k,.int _ v=>if okD (und P s)=true then some (.int k (k.wrap v)) else none
 | .string,.string b=>if okD (und P s)=true then some (.string b) else none
 | .string,.slice none _ _=>(match und P s with | .slice e=>(match und P e with | .int .u8=>some (.string ByteArray.empty) | _=>none) | _=>none)
 | .string,.slice (some ⟨i,off,none⟩) len _=>(match und P s with
   | .slice e=>(match und P e with
    | .int .u8=>(match hget H i with
     | some k=>(match byteList ((k.cells.drop off).take len) with | some ns=>if ns.length=len then some (.string (strOfNums ns)) else none | none=>none)
     | none=>none)
    | _=>none)
   | _=>none)
 | _,_=>none
def xpart(P:Program)(e:TypeId)(cs:Array Value)(off:Nat):Option Value:=
 if isAggD (und P e)=true then (if 0<szt P e∧off+szt P e≤cs.size then some (.agg (cs.extract off (off+szt P e))) else none)
 else if okD (und P e)=true then cs[off]? else none
def flds(P:Program)(t:TypeId):Option (List (TypeId×Nat)):=
 match und P t with
 | .struct fs=>some (fs.toList.map fun f=>(f.type,f.offset))
 | _=>none
theorem flds_some{P:Program}{t:TypeId}{l:List (TypeId×Nat)}(h:flds P t=some l):∃fs,und P t=.struct fs∧l=fs.toList.map fun f=>(f.type,f.offset):=by
 unfold flds at h
 split at h
 ·rename_i fs hu;cases h;exact⟨fs,hu,rfl⟩
 ·cases h
def xfield(P:Program)(t:TypeId)(x:Value)(f:Nat):Option Value:=
 match flds P t,x with
 | some fs,.agg cs=>(match fs[f]? with | some fd=>xpart P fd.1 cs fd.2 | none=>none)
 | _,_=>none
def xfieldAddr(P:Program)(t:TypeId)(x:Value)(f:Nat):Option Value:=
 match flds P t,x with
 | some fs,.pointer (some ⟨i,off,none⟩)=>(match fs[f]? with | some fd=>if 0<szt P fd.1 then some (.pointer (some ⟨i,off+fd.2,none⟩)) else none | none=>none)
 | _,_=>none
def xindexAddr(P:Program)(t:TypeId)(x ix:Value):Option Value:=
 match und P t,x,ix with
 | .array n e,.pointer (some ⟨i,off,none⟩),.int _ j=>if 0≤j∧j<n∧0<szt P e then some (.pointer (some ⟨i,off+j.toNat*szt P e,none⟩)) else none
 | .slice e,.slice (some ⟨i,off,none⟩) len _,.int _ j=>if 0≤j∧j<len∧0<szt P e then some (.pointer (some ⟨i,off+j.toNat*szt P e,none⟩)) else none
 | .slice e,.slice (some ⟨i,0,some (_+1)⟩) len _,.int _ j=>if 0≤j∧j<len∧0<szt P e then some (.pointer (some ⟨i,j.toNat*szt P e,none⟩)) else none
 | _,_,_=>none
def xindex(P:Program)(t:TypeId)(x ix:Value):Option Value:=
 match und P t,x,ix with
 | .array n e,.agg cs,.int _ j=>if 0≤j∧j<n∧0<szt P e then xpart P e cs (j.toNat*szt P e) else none
 | .string,.string s,.int _ j=>if 0≤j∧j<s.size then some (.int .u8 (gb s j.toNat)) else none
 | _,_,_=>none
def bnd(o:Option Value)(d:Nat):Option Int:=match o with | none=>some d | some v=>asInt? v
def xslice(P:Program)(t:TypeId)(x:Value)(lo hi:Option Value)(H:AH):Option Value:=
 match und P t,x with
 | .string,.string s=>(match bnd lo 0,bnd hi s.size with
  | some l,some h=>if 0≤l∧l≤h∧h≤s.size then some (.string (s.extract l.toNat h.toNat)) else none
  | _,_=>none)
 | .array n e,.pointer (some ⟨i,off,none⟩)=>(match bnd lo 0,bnd hi n with
  | some l,some h=>if 0≤l∧l≤h∧h≤n∧0<szt P e∧(hget H i).isSome=true then
    some (if l≠0∧h=l then .slice (some ⟨i,off,some 0⟩) 0 0 else .slice (some ⟨i,off+l.toNat*szt P e,none⟩) (h.toNat-l.toNat) (if (hget H i).map (·.es)=some none then h.toNat-l.toNat else h.toNat-l.toNat+1)) else none
  | _,_=>none)
 | .slice e,.slice (some ⟨i,off,none⟩) len c=>(match bnd lo 0,bnd hi len with
  | some l,some h=>if 0≤l∧l≤h∧h≤len∧0<szt P e then
    some (if l≠0∧h=l then .slice (some ⟨i,off,some 0⟩) 0 0 else .slice (some ⟨i,off+l.toNat*szt P e,none⟩) (h.toNat-l.toNat) (if c=len then h.toNat-l.toNat else h.toNat-l.toNat+1)) else none
  | _,_=>none)
 | .slice e,.slice none 0 0=>(match bnd lo 0,bnd hi 0 with
  | some l,some h=>if l=0∧h=0∧0<szt P e then some (.slice none 0 0) else none
  | _,_=>none)
 | .slice e,.slice (some ⟨i,0,some (c+1)⟩) len _=>(match bnd lo 0,bnd hi len with
  | some l,some h=>if 0≤l∧l≤h∧h≤c∧0<szt P e then
    some (if l≠0∧h=l then .slice (some ⟨i,0,some 0⟩) 0 0 else .slice (some ⟨i,l.toNat*szt P e,none⟩) (h.toNat-l.toNat) (h.toNat-l.toNat+1)) else none
  | _,_=>none)
 | _,_=>none
def xlen(P:Program)(t:TypeId)(x:Value):Option Value:=
 match und P t,x with
 | .string,.string s=>some (.int .i64 s.size)
 | .slice _,.slice _ n _=>some (.int .i64 n)
 | .array n _,_=>some (.int .i64 n)
 | .pointer arr,_=>(match und P arr with | .array n _=>some (.int .i64 n) | _=>none)
 | _,_=>none
def xmin(x y:Value):Option Value:=match x,y with | .int k a,.int _ b=>some (.int k (if b<a then b else a)) | _,_=>none
def xmax(x y:Value):Option Value:=match x,y with | .int k a,.int _ b=>some (.int k (if b>a then b else a)) | _,_=>none
section
variable {P:Program} {nro n base:Nat} {γ:Nat→Option Nat} {m:List Ent} {H:AH} {α:Fm} {a:Act} {w:World}
theorem V.int_{k:IntKind}{x:Int}{y:Value}(h:V m (.int k x) y):y=.int k x:=h.eq rfl
theorem V.ptr_{i off:Nat}{y:Value}(h:V m (.pointer (some ⟨i,off,none⟩)) y):∃e,m[i]?=some e∧y=.pointer (some ⟨e.b,e.o+off,none⟩):=by
 cases h with
 | two h=>
  cases h with
  | one h=>
   cases h with
   | plain h=>cases h
   | ptr h=>exact⟨_,h,rfl⟩
theorem V.sl_{i off len c:Nat}{y:Value}(h:V m (.slice (some ⟨i,off,none⟩) len c) y)(hcl:c=len:=by rfl):∃e c',c=len∧m[i]?=some e∧len≤c'∧(off=0→∀s,e.es=some s→c'*s=e.sz∧c'≤maxLen)∧y=.slice (some ⟨e.b,e.o+off,none⟩) len c':=by
 cases h with
 | two h=>
  cases h with
  | one h=>
   cases h with
   | plain h=>cases h
   | sl h1 h2 h3=>exact⟨_,_,rfl,h1,h2,h3,rfl⟩
   | slv h1 h2=>omega
theorem V.slw_{i off len c:Nat}{y:Value}(h:V m (.slice (some ⟨i,off,none⟩) len c) y):∃e c',m[i]?=some e∧len≤c'∧y=.slice (some ⟨e.b,e.o+off,none⟩) len c'∧(c=len∨c=len+1):=by
 cases h with
 | two h=>
  cases h with
  | one h=>
   cases h with
   | plain h=>cases h
   | sl h1 h2 h3=>exact⟨_,_,h1,h2,rfl,.inl rfl⟩
   | slv h1 h2=>exact⟨_,_,h1,h2,rfl,.inr rfl⟩
theorem V.slx_{i len c d:Nat}{y:Value}(h:V m (.slice (some ⟨i,0,some (c+1)⟩) len d) y):∃e,m[i]?=some e∧len≤c∧y=.slice (some ⟨e.b,e.o+0,none⟩) len c:=by
 cases h with
 | two h=>
  cases h with
  | one h=>
   cases h with
   | plain h=>cases h
   | slx h1 h2=>exact⟨_,h1,h2,rfl⟩
theorem V.slxw{i len c d:Nat}{y:Value}(h:V m (.slice (some ⟨i,0,some (c+1)⟩) len d) y):V m (.slice (some ⟨i,0,none⟩) len (len+1)) y:=by
 obtain⟨e,h1,h2,rfl⟩:=h.slx_
 exact .one (.slv h1 h2)
theorem V.agg_{cs:Array Value}{y:Value}(h:V m (.agg cs) y):∃ds:Array Value,y=.agg ds∧ds.size=cs.size∧∀ (i:Nat) (x:Value),cs[i]?=some x→∃y,ds[i]?=some y∧V1 m x y:=by
 cases h with
 | two h=>
  cases h with
  | one h=>cases h with | plain h=>cases h
  | agg h1 h2=>exact⟨_,rfl,h1,h2⟩
theorem V.tup_{cs:Array Value}{y:Value}(h:V m (.tuple cs) y):∃ds:Array Value,y=.tuple ds∧ds.size=cs.size∧∀ (i:Nat) (x:Value),cs[i]?=some x→∃y,ds[i]?=some y∧V2 m x y:=by
 cases h with
 | two h=>cases h with | one h=>cases h with | plain h=>cases h
 | tup h1 h2=>exact⟨_,rfl,h1,h2⟩
theorem Rel.cell(hR:Rel nro base γ m H w){i:Nat}{k:Blk}{e:Ent}(hk:hget H i=some k)(he:m[i]?=some e){off:Nat}{x:Value}(hx:k.cells[off]?=some x) :
  ∃y,w.cell? ⟨e.b,e.o+off,none⟩=some y∧V1 m x y:=by
 have hkm:k.ents=none:=by
  cases hl:k.ents with
  | none=>rfl
  | some l=>
   have:=(hR.maps i k e l (hget_some hk) hl he).1
   rw [this]at hx
   cases hx
 obtain⟨cs,fr,h1,h2,_,_,h3⟩:=hR.cells i k e (hget_some hk) hkm he
 obtain⟨y,hy,hv⟩:=h3 off x hx
 refine⟨y,?_,hv⟩
 simp [World.cell?,h1,hy]
theorem list_of_cells{R:Value→Value→Prop}{f:Nat→Option Value}:∀ (l:List Value) (o:Nat),(∀j x,l[j]?=some x→∃y,f (o+j)=some y∧R x y) →
  ∃l':List Value,l'.length=l.length∧(∀ (j:Nat) (x:Value),l[j]?=some x→∃y,l'[j]?=some y∧R x y)∧∀j v,l'[j]?=some v→f (o+j)=some v
 | [],o,_=>⟨[],rfl,by simp,by simp⟩
 | x::l,o,h=>by
  obtain⟨y,hy,hr⟩:=h 0 x rfl
  obtain⟨l',h1,h2,h3⟩:=list_of_cells (R:=R) (f:=f) l (o+1) (fun j x hx=>by
   obtain⟨y,hy,hr⟩:=h (j+1) x (by simpa using hx)
   exact⟨y,by rw [show o+1+j=o+(j+1) by omega];exact hy,hr⟩)
  refine⟨y::l',by simp [h1],fun j z hz=>?_,fun j v hv=>?_⟩
  ·cases j with
   | zero=>simp at hz;subst hz;exact⟨y,rfl,hr⟩
   | succ j=>simp at hz;simpa using h2 j z hz
  ·cases j with
   | zero=>simp at hv;subst hv;exact hy
   | succ j=>simp at hv;rw [show o+(j+1)=o+1+j by omega];exact h3 j v hv
theorem list_agg{m:List Ent}{l l':List Value}(hl:l'.length=l.length)(h:∀ (j:Nat) (x:Value),l[j]?=some x→∃y,l'[j]?=some y∧V1 m x y):V m (.agg l.toArray) (.agg l'.toArray):=
 .two (.agg (by simp [hl]) fun i x hx=>by
  obtain⟨y,h1,h2⟩:=h i x (by simpa using hx)
  exact⟨y,by simpa using h1,h2⟩)
theorem xload_run(hR:Rel nro base γ m H w){t:TypeId}{x x' v:Value}(hx:V m x x')(h:xload P t x H=some v):∃v',V m v v'∧∀w',Below w.heap.size w w'→(Instr.loadAt t x').run P w'=.ok v' w':=by
 unfold xload at h
 split at h
 case h_2=>cases h
 rename_i i off
 obtain⟨e,he,rfl⟩:=hx.ptr_
 split at h
 ·cases h
 rename_i k hk
 have hin:=hR.inb i e he
 split at h
 ·rename_i hg
  split at h
  case isFalse=>cases h
  rename_i hs
  cases h
  obtain⟨l',h1,h2,h3⟩:=list_of_cells (R:=V1 m) (f:=fun j=>w.cell? ⟨e.b,e.o+j,none⟩) ((k.cells.drop off).take (szt P t)) off (fun j x hx=>by
   have hj:j<szt P t:=by
    rcases Nat.lt_or_ge j (szt P t) with h | h
    ·exact h
    ·rw [List.getElem?_eq_none (by simp;omega)]at hx;cases hx
   rw [List.getElem?_take_of_lt hj,List.getElem?_drop]at hx
   obtain⟨y,hy,hv⟩:=hR.cell hk he hx
   exact⟨y,hy,hv⟩)
  have hlen:((k.cells.drop off).take (szt P t)).length=szt P t:=by simp;omega
  refine⟨.agg l'.toArray,list_agg h1 h2,fun w' hb=>?_⟩
  simp only [Instr.loadAt,Instr.sureAddr,Sem.run_bind,Sem.run_pure,Result.andThen_ok]
  refine run_loadVar_agg (agg_ne hg) hg hs.1 (by rw [h1,hlen]) (fun j v hv=>?_)
  rw [Nat.add_assoc]
  exact (hb.cell (p:=⟨e.b,e.o+(off+j),none⟩) hin).trans (h3 j v hv)
 ·rename_i hg
  split at h
  case isFalse=>cases h
  rename_i hu
  obtain⟨y,hy,hv⟩:=hR.cell hk he h
  refine⟨y,.one hv,fun w' hb=>?_⟩
  simp only [Instr.loadAt,Instr.sureAddr,Sem.run_bind,Sem.run_pure,Result.andThen_ok]
  exact run_loadVar_one (okD_ne hu) (by simpa using hg) ((hb.cell (p:=⟨e.b,e.o+off,none⟩) hin).trans hy)
theorem xpart_run{e:TypeId}{cs ds:Array Value}{off:Nat}{v:Value}(hs:ds.size=cs.size)(hv:∀ (i:Nat) (x:Value),cs[i]?=some x→∃y,ds[i]?=some y∧V1 m x y)(h:xpart P e cs off=some v) :
  ∃v',V2 m v v'∧∀w',(part e ds off).run P w'=.ok v' w':=by
 unfold xpart at h
 split at h
 ·rename_i hg
  split at h
  case isFalse=>cases h
  rename_i hsz
  cases h
  refine⟨.agg (ds.extract off (off+szt P e)),.agg (by simp [hs]) (fun i x hx=>?_),fun w'=>?_⟩
  ·have hi:i<szt P e:=by
    rcases Nat.lt_or_ge i (szt P e) with h | h
    ·exact h
    ·rw [Array.getElem?_eq_none (by simp;omega)]at hx;cases hx
   have h1:(cs.extract off (off+szt P e))[i]?=cs[off+i]?:=by
    rw [Array.getElem?_extract];simp;omega
   have h2:(ds.extract off (off+szt P e))[i]?=ds[off+i]?:=by
    rw [Array.getElem?_extract];simp;omega
   rw [h1]at hx
   rw [h2]
   exact hv _ _ hx
  ·simp [part,run_isAgg (agg_ne hg),hg,run_sizeOf hsz.1]
 ·rename_i hg
  split at h
  case isFalse=>cases h
  rename_i hu
  obtain⟨y,hy,hvv⟩:=hv _ _ h
  refine⟨y,.one hvv,fun w'=>?_⟩
  have hg':isAggD (und P e)=false:=by simpa using hg
  simp [part,run_isAgg (okD_ne hu),hg',hy]
end
end
section
section
variable {P:Program} {nro n base:Nat} {γ:Nat→Option Nat} {m:List Ent} {H:AH} {α:Fm} {a:Act} {w:World}
theorem xconv_run(hR:Rel nro base γ m H w){s d:TypeId}{x x' v:Value}(hx:V m x x')(h:xconv P s d x H=some v):∃v',V m v v'∧∀w',Below w.heap.size w w'→(convert s d x').run P w'=.ok v' w':=by
 unfold xconv at h
 split at h
 ·rename_i k k0 v0 hd
  split at h
  case isFalse=>cases h
  rename_i hs
  cases h
  have:=hx.int_
  subst this
  have h1:=und_some (rfl:und P s=und P s) (okD_ne hs)
  have h2:=und_some hd (by simp)
  refine⟨_,plainV_mk rfl,fun w' _=>?_⟩
  simp only [convert,Sem.run_bind,run_underlying h1,run_underlying h2,Result.andThen_ok]
  cases und P s <;> simp [Conv.intToInt]
 ·rename_i b hd
  split at h
  case isFalse=>cases h
  rename_i hs
  cases h
  have:=hx.eq rfl
  subst this
  have h1:=und_some (rfl:und P s=und P s) (okD_ne hs)
  have h2:=und_some hd (by simp)
  refine⟨_,plainV_mk rfl,fun w' _=>?_⟩
  simp only [convert,Sem.run_bind,run_underlying h1,run_underlying h2,Result.andThen_ok]
  cases und P s <;> simp
 ·rename_i l c hd
  split at h
  case h_2=>cases h
  rename_i e hs
  split at h
  case h_2=>cases h
  rename_i he
  cases h
  have:=hx.eq rfl
  subst this
  exact⟨_,plainV_mk rfl,fun w' _=>run_convert_bytes_nil w' s e (und_some hs (by simp)) (und_some he (by simp)) _ _ d (und_some hd (by simp))⟩
 ·rename_i i off len c hd
  split at h
  case h_2=>cases h
  rename_i e hs
  split at h
  case h_2=>cases h
  rename_i he
  split at h
  case h_2=>cases h
  rename_i k hk
  split at h
  case h_2=>cases h
  rename_i ns hns
  split at h
  case isFalse=>cases h
  rename_i hl
  cases h
  obtain⟨en,c',hen,hc,rfl,_⟩:=hx.slw_
  have hin:=hR.inb i en hen
  refine⟨_,plainV_mk rfl,fun w' hb=>run_convert_bytes_arg w' s e (und_some hs (by simp)) (und_some he (by simp)) en.b (en.o+off) _ c' ns hl (fun j hj=>?_) d (und_some hd (by simp))⟩
  have h1:=byteList_spec hns
  have h2:(iv .u8 ns)[j]?=some (.int .u8 (ns.getD j 0)):=iv_get _ _ _ (by omega)
  rw [←h1]at h2
  rw [List.getElem?_take_of_lt (by omega),List.getElem?_drop]at h2
  obtain⟨y,hy,hv⟩:=hR.cell hk hen h2
  have:=hv.eq rfl
  subst this
  rw [Nat.add_assoc]
  exact (hb.cell (p:=⟨en.b,en.o+(off+j),none⟩) hin).trans hy
 ·cases h
theorem xfield_run{t:TypeId}{x x' v:Value}{f:Nat}(hx:V m x x')(h:xfield P t x f=some v):∃v',V m v v'∧∀w':World,(Instr.field t x' f).run P w'=.ok v' w':=by
 unfold xfield at h
 split at h
 case h_2=>cases h
 rename_i l cs hfl
 obtain⟨fs,hu,rfl⟩:=flds_some hfl
 split at h
 case h_2=>cases h
 rename_i fd0 hf0
 rw [gmP]at hf0
 cases hf:fs.toList[f]? with
 | none=>rw [hf]at hf0;cases hf0
 | some fd=>
 rw [hf]at hf0
 cases hf0
 have hf:fs[f]?=some fd:=by simpa using hf
 obtain⟨ds,rfl,hs,hv⟩:=hx.agg_
 obtain⟨v',h1,h2⟩:=xpart_run hs hv h
 refine⟨v',.two h1,fun w'=>?_⟩
 simp [Instr.field,run_underlying (und_some hu (by simp)),hf,asAgg,h2]
theorem xfieldAddr_run{t:TypeId}{x x' v:Value}{f:Nat}(hx:V m x x')(h:xfieldAddr P t x f=some v):∃v',V m v v'∧∀w':World,(Instr.fieldAt t x' f).run P w'=.ok v' w':=by
 unfold xfieldAddr at h
 split at h
 case h_2=>cases h
 rename_i l i off hfl
 obtain⟨fs,hu,rfl⟩:=flds_some hfl
 split at h
 case h_2=>cases h
 rename_i fd0 hf0
 rw [gmP]at hf0
 cases hf:fs.toList[f]? with
 | none=>rw [hf]at hf0;cases hf0
 | some fd=>
 rw [hf]at hf0
 cases hf0
 have hf:fs[f]?=some fd:=by simpa using hf
 split at h
 case isFalse=>cases h
 rename_i hs
 cases h
 obtain⟨e,he,rfl⟩:=hx.ptr_
 refine⟨.pointer (some ⟨e.b,e.o+(off+fd.offset),none⟩),.one (.ptr he),fun w'=>?_⟩
 have hs:0<szt P fd.type:=hs
 have hs':¬ szt P fd.type=0:=by omega
 simp [Instr.fieldAt,run_underlying (und_some hu (by simp)),hf,Instr.sureAddr,fieldPlace,run_sizeOf hs,hs',add_none,Nat.add_assoc]
theorem xindexAddr_run{t:TypeId}{x x' ix ix' v:Value}(hx:V m x x')(hi:V m ix ix')(h:xindexAddr P t x ix=some v):∃v',V m v v'∧∀w':World,(Instr.indexAt t x' ix').run P w'=.ok v' w':=by
 unfold xindexAddr at h
 split at h
 ·rename_i nn e i off k j hu
  split at h
  case isFalse=>cases h
  rename_i hc
  cases h
  obtain⟨en,he,rfl⟩:=hx.ptr_
  have:=hi.int_
  subst this
  refine⟨.pointer (some ⟨en.b,en.o+(off+j.toNat*szt P e),none⟩),.one (.ptr he),fun w'=>?_⟩
  have h3:0≤j∧j<(nn:Int):=⟨hc.1,hc.2.1⟩
  simp [Instr.indexAt,asIntOf,run_underlying (und_some hu (by simp)),Instr.sureAddr,h3,run_sizeOf hc.2.2,add_none,Nat.add_assoc]
 ·rename_i e i off len c k j hu
  split at h
  case isFalse=>cases h
  rename_i hc
  cases h
  obtain⟨en,c',he,_,rfl,_⟩:=hx.slw_
  have:=hi.int_
  subst this
  refine⟨.pointer (some ⟨en.b,en.o+(off+j.toNat*szt P e),none⟩),.one (.ptr he),fun w'=>?_⟩
  have h3:0≤j∧j<(len:Int):=⟨hc.1,hc.2.1⟩
  simp [Instr.indexAt,asIntOf,run_underlying (und_some hu (by simp)),h3,run_sizeOf hc.2.2,add_none,Nat.add_assoc]
 ·rename_i e i cc len c k j hu
  split at h
  case isFalse=>cases h
  rename_i hc
  cases h
  obtain⟨en,he,_,rfl⟩:=hx.slx_
  have:=hi.int_
  subst this
  refine⟨.pointer (some ⟨en.b,en.o+(j.toNat*szt P e),none⟩),.one (.ptr he),fun w'=>?_⟩
  have h3:0≤j∧j<(len:Int):=⟨hc.1,hc.2.1⟩
  simp [Instr.indexAt,asIntOf,run_underlying (und_some hu (by simp)),h3,run_sizeOf hc.2.2,add_none]
 ·cases h
theorem xindex_run{t:TypeId}{x x' ix ix' v:Value}(hx:V m x x')(hi:V m ix ix')(h:xindex P t x ix=some v):∃v',V m v v'∧∀w':World,(Instr.index t x' ix').run P w'=.ok v' w':=by
 unfold xindex at h
 split at h
 ·rename_i nn e cs k j hu
  split at h
  case isFalse=>cases h
  rename_i hc
  obtain⟨ds,rfl,hs,hv⟩:=hx.agg_
  have:=hi.int_
  subst this
  obtain⟨v',h1,h2⟩:=xpart_run hs hv h
  refine⟨v',.two h1,fun w'=>?_⟩
  have h3:0≤j∧j<(nn:Int):=⟨hc.1,hc.2.1⟩
  simp [Instr.index,asIntOf,run_underlying (und_some hu (by simp)),h3,run_sizeOf hc.2.2,h2]
 ·rename_i s k j hu
  split at h
  case isFalse=>cases h
  rename_i hc
  cases h
  have h1:=hx.eq rfl
  have h2:=hi.int_
  subst h1 h2
  refine⟨_,plainV_mk rfl,fun w'=>?_⟩
  have h3:j.toNat<s.size:=by omega
  simp [Instr.index,asIntOf,run_underlying (und_some hu (by simp)),hc.1,h3,gb_at s _ h3]
 ·cases h
theorem xlen_run{t ty:TypeId}{x x' v:Value}(hx:V m x x')(h:xlen P t x=some v):∃v',V m v v'∧∀w':World,(Builtin.len_ #[t] ty #[x']).run P w'=.ok v' w':=by
 unfold xlen at h
 split at h
 ·rename_i s hu
  cases h
  have:=hx.eq rfl
  subst this
  refine⟨_,plainV_mk rfl,fun w'=>?_⟩
  simp [Builtin.len_,run_underlying (und_some hu (by simp)),goInt]
 ·rename_i e ad k c hu
  cases h
  have hy:∃ad' c',x'=.slice ad' k c':=by
   cases hx with
   | two h=>cases h with
    | one h=>cases h with
     | plain _=>exact⟨_,_,rfl⟩
     | sl _ _ _=>exact⟨_,_,rfl⟩
     | slv _ _=>exact⟨_,_,rfl⟩
     | slx _ _=>exact⟨_,_,rfl⟩
     | sl0=>exact⟨_,_,rfl⟩
  obtain⟨ad',c',rfl⟩:=hy
  refine⟨_,plainV_mk rfl,fun w'=>?_⟩
  simp [Builtin.len_,run_underlying (und_some hu (by simp)),goInt]
 ·rename_i k e hu
  cases h
  refine⟨_,plainV_mk rfl,fun w'=>?_⟩
  simp [Builtin.len_,run_underlying (und_some hu (by simp)),goInt]
 ·rename_i arr hu
  split at h
  case h_2=>cases h
  rename_i k e hu2
  cases h
  refine⟨_,plainV_mk rfl,fun w'=>?_⟩
  simp [Builtin.len_,run_underlying (und_some hu (by simp)),run_underlying (und_some hu2 (by simp)),goInt]
 ·cases h
theorem bnd_cases{m:List Ent}{γ:Nat→Option Nat}{α:Fm}{a:Act}{o:Option Operand}{d:Nat}{l:Int}(ho:∀x,o=some x→V m (α.eval γ x) (a.eval x))(h:bnd (o.map (α.eval γ)) d=some l) :
  (o.map a.eval=none∧l=d)∨∃k,o.map a.eval=some (.int k l):=by
 cases o with
 | none=>left;simp [bnd]at h;exact⟨rfl,h.symm⟩
 | some x=>
  right
  have hv:=ho x rfl
  simp only [Option.map_some,bnd]at h
  unfold asInt? at h
  split at h
  ·rename_i k v hk
   cases h
   rw [hk]at hv
   exact⟨k,by rw [Option.map_some,hv.int_]⟩
  ·cases h
theorem bounds_run{isS:Bool}{lo hi:Option Value}{len cap:Nat}{l h:Int}(hl:(lo=none∧l=0)∨∃k,lo=some (.int k l))(hh:(hi=none∧h=len)∨∃k,hi=some (.int k h))
  (h0:0≤l) (h1:l≤h) (h2:h≤cap) (w':World):(Instr.sliceBounds isS len cap lo hi none).run P w'=.ok (l.toNat,h.toNat,cap) w':=by
 have h3:0≤h:=by omega
 have h4:l≤(h.toNat:Int):=by omega
 rcases hl with ⟨rfl,rfl⟩ | ⟨k,rfl⟩ <;> rcases hh with ⟨rfl,rfl⟩ | ⟨k',rfl⟩
 ·simp [Instr.sliceBounds]
 ·simp [Instr.sliceBounds,Instr.sliceBound,asIntOf,h3,h2]
 ·have h5:l≤(len:Int):=h1
  simp [Instr.sliceBounds,Instr.sliceBound,asIntOf,h0,h5]
 ·simp [Instr.sliceBounds,Instr.sliceBound,asIntOf,h0,h3,h2]
  intro hlt
  omega
theorem xslice_run(hR:Rel nro base γ m H w){t:TypeId}{x x' v:Value}{lo hi:Option Operand}(hx:V m x x')(hlo:∀x,lo=some x→V m (α.eval γ x) (a.eval x))(hhi:∀x,hi=some x→V m (α.eval γ x) (a.eval x))
  (h:xslice P t x (lo.map (α.eval γ)) (hi.map (α.eval γ)) H=some v):∃v',V m v v'∧∀w':World,(Instr.sliceAt t x' (lo.map a.eval) (hi.map a.eval) none).run P w'=.ok v' w':=by
 unfold xslice at h
 split at h
 ·rename_i s hu
  split at h
  case h_2=>cases h
  rename_i l h' hl hh
  split at h
  case isFalse=>cases h
  rename_i hc
  cases h
  have:=hx.eq rfl
  subst this
  refine⟨_,plainV_mk rfl,fun w'=>?_⟩
  have hb:=bounds_run (P:=P) (isS:=false) (cap:=s.size) (bnd_cases hlo hl) (bnd_cases hhi hh) hc.1 hc.2.1 hc.2.2 w'
  simp [Instr.sliceAt,Instr.slice,run_underlying (und_some hu (by simp)),hb]
 ·rename_i k e i off hu
  split at h
  case h_2=>cases h
  rename_i l h' hl hh
  split at h
  case isFalse=>cases h
  rename_i hc
  cases h
  obtain⟨en,he,rfl⟩:=hx.ptr_
  have hes:(hget H i).map (·.es)=some none→en.es=none:=by
   intro h5
   cases hk:hget H i with
   | none=>rw [hk]at h5;cases h5
   | some kk=>
    rw [hk]at h5
    cases hl:kk.ents with
    | none=>
     obtain⟨_,_,_,_,h6,_⟩:=hR.cells i kk en (hget_some hk) hl he
     rw [h6];simpa using h5
    | some l=>exact (hR.maps i kk en l (hget_some hk) hl he).2.2.1
  have hrun:∀w':World,(Instr.sliceAt t (.pointer (some ⟨en.b,en.o+off,none⟩)) (lo.map a.eval) (hi.map a.eval) none).run P w' =
    .ok (.slice (some (if k=l.toNat then ⟨en.b,en.o+off,none⟩ else (⟨en.b,en.o+off,none⟩:Addr).add (l.toNat*szt P e))) (h'.toNat-l.toNat) (k-l.toNat)) w':=by
   intro w'
   have hb:=bounds_run (P:=P) (isS:=false) (cap:=k) (bnd_cases hlo hl) (bnd_cases hhi hh) hc.1 hc.2.1 hc.2.2.1 w'
   simp [Instr.sliceAt,run_underlying (und_some hu (by simp)),Instr.sureAddr,hb,run_sizeOf hc.2.2.2.1]
  by_cases h0:l≠0∧h'=l
  ·rw [if_pos h0]
   have e0:h'.toNat-l.toNat=0:=by rw [h0.2];omega
   refine⟨_,.one ?_,hrun⟩
   rw [e0]
   exact .sl0
  ·rw [if_neg h0]
   have hne:k=l.toNat→l.toNat*szt P e=0:=by
    intro hk
    by_cases hl0:l=0
    ·subst hl0;simp
    ·exact absurd ⟨hl0,by omega⟩ h0
   have e1:(if k=l.toNat then (⟨en.b,en.o+off,none⟩:Addr) else (⟨en.b,en.o+off,none⟩:Addr).add (l.toNat*szt P e))=⟨en.b,en.o+(off+l.toNat*szt P e),none⟩:=by
    rw [add_none,←Nat.add_assoc]
    split
    ·rename_i hk;rw [hne hk];simp
    ·rfl
   rw [e1]at hrun
   by_cases hv:(hget H i).map (·.es)=some none
   ·rw [if_pos hv]
    exact⟨_,.one (.sl he (by omega) (fun _ s hs=>by rw [hes hv]at hs;cases hs)),hrun⟩
   ·rw [if_neg hv]
    exact⟨_,.one (.slv he (by omega)),hrun⟩
 ·rename_i e i off len c hu
  split at h
  case h_2=>cases h
  rename_i l h' hl hh
  split at h
  case isFalse=>cases h
  rename_i hc
  cases h
  obtain⟨en,c',he,hcc,rfl,hcl⟩:=hx.slw_
  have hrun:∀w':World,(Instr.sliceAt t (.slice (some ⟨en.b,en.o+off,none⟩) len c') (lo.map a.eval) (hi.map a.eval) none).run P w' =
    .ok (.slice (if c'=l.toNat then some ⟨en.b,en.o+off,none⟩ else (some ⟨en.b,en.o+off,none⟩:Option Addr).map (·.add (l.toNat*szt P e))) (h'.toNat-l.toNat) (c'-l.toNat)) w':=by
   intro w'
   have hb:=bounds_run (P:=P) (isS:=true) (cap:=c') (bnd_cases hlo hl) (bnd_cases hhi hh) hc.1 hc.2.1 (by omega) w'
   simp [Instr.sliceAt,Instr.slice,run_underlying (und_some hu (by simp)),hb,run_sizeOf hc.2.2.2]
  by_cases h0:l≠0∧h'=l
  ·rw [if_pos h0]
   have e0:h'.toNat-l.toNat=0:=by rw [h0.2];omega
   refine⟨_,.one ?_,hrun⟩
   rw [e0]
   split
   ·exact .sl0
   ·exact .sl0
  ·rw [if_neg h0]
   have hne:c'=l.toNat→l.toNat*szt P e=0:=by
    intro hk
    by_cases hl0:l=0
    ·subst hl0;simp
    ·exact absurd ⟨hl0,by omega⟩ h0
   have e1:(if c'=l.toNat then some ⟨en.b,en.o+off,none⟩ else (some ⟨en.b,en.o+off,none⟩:Option Addr).map (·.add (l.toNat*szt P e)))=some ⟨en.b,en.o+(off+l.toNat*szt P e),none⟩:=by
    rw [Option.map_some,add_none,←Nat.add_assoc]
    split
    ·rename_i hk;rw [hne hk];simp
    ·rfl
   rw [e1]at hrun
   by_cases hcv:c=len
   case neg=>
    rw [if_neg hcv]
    exact⟨_,.one (.slv he (by omega)),hrun⟩
   rw [if_pos hcv]
   subst hcv
   obtain⟨en2,c2,_,he2,_,hsz,hy2⟩:=hx.sl_
   rw [he]at he2
   cases he2
   cases hy2
   refine⟨_,.one (.sl he (by omega) (fun hz s hs=>?_)),hrun⟩
   have hl0:l.toNat=0:=by
    have:l.toNat*szt P e=0:=by omega
    rcases Nat.mul_eq_zero.1 this with h | h
    ·exact h
    ·have:=hc.2.2.2;omega
   rw [hl0,Nat.sub_zero]
   exact hsz (by omega) s hs
 ·rename_i e hu
  split at h
  case h_2=>cases h
  rename_i l h' hl hh
  split at h
  case isFalse=>cases h
  rename_i hc
  cases h
  have:=hx.eq rfl
  subst this
  obtain⟨rfl,rfl,hs⟩:=hc
  refine⟨_,plainV_mk rfl,fun w'=>?_⟩
  have hb:=bounds_run (P:=P) (isS:=true) (cap:=0) (bnd_cases hlo hl) (bnd_cases hhi hh) (by omega) (by omega) (by omega) w'
  simp [Instr.sliceAt,Instr.slice,run_underlying (und_some hu (by simp)),hb,run_sizeOf hs]
 ·rename_i e i c' len c hu
  split at h
  case h_2=>cases h
  rename_i l h' hl hh
  split at h
  case isFalse=>cases h
  rename_i hc
  cases h
  obtain⟨en,he,hcc,rfl⟩:=hx.slx_
  have hrun:∀w':World,(Instr.sliceAt t (.slice (some ⟨en.b,en.o+0,none⟩) len c') (lo.map a.eval) (hi.map a.eval) none).run P w' =
    .ok (.slice (if c'=l.toNat then some ⟨en.b,en.o+0,none⟩ else (some ⟨en.b,en.o+0,none⟩:Option Addr).map (·.add (l.toNat*szt P e))) (h'.toNat-l.toNat) (c'-l.toNat)) w':=by
   intro w'
   have hb:=bounds_run (P:=P) (isS:=true) (cap:=c') (bnd_cases hlo hl) (bnd_cases hhi hh) hc.1 hc.2.1 (by omega) w'
   simp [Instr.sliceAt,Instr.slice,run_underlying (und_some hu (by simp)),hb,run_sizeOf hc.2.2.2]
  by_cases h0:l≠0∧h'=l
  ·rw [if_pos h0]
   have e0:h'.toNat-l.toNat=0:=by rw [h0.2];omega
   refine⟨_,.one ?_,hrun⟩
   rw [e0]
   split
   ·exact .sl0
   ·exact .sl0
  ·rw [if_neg h0]
   have hne:c'=l.toNat→l.toNat*szt P e=0:=by
    intro hk
    by_cases hl0:l=0
    ·subst hl0;simp
    ·exact absurd ⟨hl0,by omega⟩ h0
   have e1:(if c'=l.toNat then some ⟨en.b,en.o+0,none⟩ else (some ⟨en.b,en.o+0,none⟩:Option Addr).map (·.add (l.toNat*szt P e)))=some ⟨en.b,en.o+(l.toNat*szt P e),none⟩:=by
    rw [Option.map_some,add_none,Nat.add_zero]
    split
    ·rename_i hk;rw [hne hk];simp
    ·rfl
   rw [e1]at hrun
   exact⟨_,.one (.slv he (by omega)),hrun⟩
 ·cases h
end
end
section
def setR:List Value→Nat→List Value→List Value
 | cells,_,[]=>cells
 | cells,off,x::r=>setR (cells.set off x) (off+1) r
theorem setR_one(cells:List Value)(off:Nat)(x:Value):setR cells off [x]=cells.set off x:=rfl
@[simp] theorem setR_length (xs:List Value):∀ (cells:List Value) (off:Nat),(setR cells off xs).length=cells.length:=by
 induction xs with
 | nil=>intro cells off;rfl
 | cons x xs ih=>intro cells off;rw [setR,ih,List.length_set]
theorem setR_get(xs:List Value):∀ (cells:List Value) (off j:Nat),off+xs.length≤cells.length→(setR cells off xs)[j]?=if off≤j∧j<off+xs.length then xs[j-off]? else cells[j]?:=by
 induction xs with
 | nil=>
  intro cells off j _
  rw [if_neg (by simp)]
  rfl
 | cons x xs ih=>
  intro cells off j h
  simp only [List.length_cons]at h
  rw [setR,ih _ _ _ (by rw [List.length_set];omega)]
  by_cases h1:off+1≤j∧j<off+1+xs.length
  ·rw [if_pos h1,if_pos (by simp only [List.length_cons];omega),show j-off=(j-(off+1))+1 by omega,List.getElem?_cons_succ]
  ·rw [if_neg h1]
   by_cases h2:j=off
   ·subst h2
    rw [if_pos (by simp only [List.length_cons];omega),Nat.sub_self,List.getElem?_cons_zero,List.getElem?_set_self (by omega)]
   ·rw [if_neg (by simp only [List.length_cons];omega),List.getElem?_set_ne (by omega)]
theorem setR_all(cells xs:List Value)(h:xs.length=cells.length):setR cells 0 xs=xs:=by
 apply List.ext_getElem?
 intro j
 rw [setR_get _ _ _ _ (by omega)]
 by_cases hj:j<xs.length
 ·rw [if_pos (by omega),Nat.sub_zero]
 ·rw [if_neg (by omega),List.getElem?_eq_none (by omega),List.getElem?_eq_none (by omega)]
theorem setR_app(xs ys:List Value):∀ (cells:List Value) (off:Nat),setR cells off (xs++ys)=setR (setR cells off xs) (off+xs.length) ys:=by
 induction xs with
 | nil=>intro cells off;simp [setR]
 | cons x xs ih=>intro cells off;simp only [List.cons_append,setR,ih,List.length_cons];congr 1;omega
def xfill(place:Nat→Option (Nat×Nat)):List Value→List (Nat×Value)→Option (List Value)
 | cells,[]=>some cells
 | cells,(i,v)::rest=>
  match place i with
  | none=>none
  | some (off,size)=>if v.cells.size=size∧off+v.cells.size≤cells.length then xfill place (setR cells off v.cells.toList) rest else none
def notTuple:Value→Bool | .tuple _=>false | _=>true
def xbuild(P:Program)(t:TypeId)(parts:List (Nat×Value)):Option Value:=
 match flds P t with
 | some fs=>(match zer P t with
  | some z=>if (fs.all fun f=>decide (0<szt P f.1))=true∧z.cells.toList.all plain1=true∧(parts.all fun p=>notTuple p.2)=true then
    (match xfill (fun i=>(fs[i]?).map fun f=>(f.2,szt P f.1)) z.cells.toList parts with | some cs=>some (.agg cs.toArray) | none=>none) else none
  | none=>none)
 | none=>(match und P t,zer P t with
  | .array _ e,some z=>if 0<szt P e∧z.cells.toList.all plain1=true∧(parts.all fun p=>notTuple p.2)=true then
    (match xfill (fun i=>some (i*szt P e,szt P e)) z.cells.toList parts with | some cs=>some (.agg cs.toArray) | none=>none) else none
  | _,_=>none)
section
variable {P:Program} {m:List Ent}
def Vs(m:List Ent)(l l':List Value):Prop:=l'.length=l.length∧∀ (j:Nat) (x:Value),l[j]?=some x→∃y,l'[j]?=some y∧V1 m x y
theorem Vs.setR{l l' xs ys:List Value}(h:Vs m l l')(hx:Vs m xs ys){off:Nat}(hl:off+xs.length≤l.length):Vs m (setR l off xs) (setR l' off ys):=by
 refine⟨by rw [setR_length,setR_length,h.1],fun j x hj=>?_⟩
 rw [setR_get _ _ _ _ hl]at hj
 rw [setR_get _ _ _ _ (by rw [hx.1,h.1];exact hl),hx.1]
 split
 ·rename_i hc
  rw [if_pos hc]at hj
  exact hx.2 _ _ hj
 ·rename_i hc
  rw [if_neg hc]at hj
  exact h.2 _ _ hj
theorem V2.cells{x y:Value}(h:V2 m x y)(hn:notTuple x=true):Vs m x.cells.toList y.cells.toList∧y.cells.size=x.cells.size:=by
 cases h with
 | one h=>
  have hc:∀ {x y:Value},V1 m x y→notTuple x=true→x.cells=#[x]∧y.cells=#[y]:=by
   intro x y h hn
   cases h with
   | plain h=>cases x <;> first | exact⟨rfl,rfl⟩ | cases h
   | ptr _=>exact⟨rfl,rfl⟩
   | sl _ _ _=>exact⟨rfl,rfl⟩
   | slv _ _=>exact⟨rfl,rfl⟩
   | slx _ _=>exact⟨rfl,rfl⟩
   | mp _=>exact⟨rfl,rfl⟩
   | sl0=>exact⟨rfl,rfl⟩
   | clo _ _ _ _=>exact⟨rfl,rfl⟩
   | ifc _=>exact⟨rfl,rfl⟩
   | ifa _ _=>exact⟨rfl,rfl⟩
  obtain⟨h1,h2⟩:=hc h hn
  rw [h1,h2]
  refine⟨⟨rfl,fun j x hj=>?_⟩,rfl⟩
  cases j with
  | zero=>cases hj;exact⟨_,rfl,h⟩
  | succ j=>cases hj
 | agg hs h=>exact⟨⟨by simpa [Value.cells] using hs,fun j x hj=>by
   obtain⟨y,h1,h2⟩:=h j x (by simpa [Value.cells] using hj)
   exact⟨y,by simpa [Value.cells] using h1,h2⟩⟩,hs⟩
theorem V.v2{x y:Value}(h:V m x y)(hn:notTuple x=true):V2 m x y:=by
 cases h with
 | two h=>exact h
 | tup _ _=>cases hn
theorem foldl_setR(xs:List Value):∀ (cs:Array Value) (off k:Nat),(xs.zipIdx k).foldl (fun cs (p:Value×Nat)=>cs.setIfInBounds (off+p.2) p.1) cs=(setR cs.toList (off+k) xs).toArray:=by
 induction xs with
 | nil=>intro cs off k;simp [setR]
 | cons x xs ih=>
  intro cs off k
  rw [List.zipIdx_cons,List.foldl_cons,ih]
  simp only [setR,Array.toList_setIfInBounds]
  rfl
theorem fill_run{place:Nat→Option (Nat×Nat)}:∀ (parts parts':List (Nat×Value)) (l:List Value) (c:Array Value) (l':List Value),
  parts'.length=parts.length→(∀ (j:Nat) (p:Nat×Value),parts[j]?=some p→∃p':Nat×Value,parts'[j]?=some p'∧p'.1=p.1∧V2 m p.2 p'.2)→(parts.all fun p=>notTuple p.2)=true →
  Vs m l c.toList→xfill place l parts=some l'→∃c',Instr.fill place c parts'=some c'∧Vs m l' c'.toList:=by
 intro parts
 induction parts with
 | nil=>
  intro parts' l c l' hlen _ _ hv h
  have:parts'=[]:=List.eq_nil_of_length_eq_zero hlen
  subst this
  cases h
  exact⟨c,rfl,hv⟩
 | cons p rest ih=>
  intro parts' l c l' hlen hp hn hv h
  obtain⟨i,v⟩:=p
  cases parts' with
  | nil=>cases hlen
  | cons p' rest'=>
   obtain⟨p0,h1,h2,h3⟩:=hp 0 (i,v) rfl
   cases h1
   obtain⟨i',v'⟩:=p'
   simp only at h2 h3
   subst h2
   simp only [List.all_cons,Bool.and_eq_true]at hn
   obtain⟨hc,hsz⟩:=h3.cells hn.1
   unfold xfill at h
   unfold Instr.fill
   cases hpl:place i' with
   | none=>rw [hpl]at h;cases h
   | some os=>
    obtain⟨off,size⟩:=os
    rw [hpl]at h
    simp only at h ⊢
    split at h
    case isFalse=>cases h
    rename_i hcond
    have hcl:c.size=l.length:=by have:=hv.1;simpa using this
    rw [if_neg (by rw [hsz,hcl];simp;omega)]
    have hfold:v'.cells.zipIdx.foldl (fun cs (x:Value×Nat)=>cs.setIfInBounds (off+x.2) x.1) c=(setR c.toList off v'.cells.toList).toArray:=by
     have:=foldl_setR v'.cells.toList c off 0
     rw [Nat.add_zero]at this
     rw [←this,←Array.foldl_toList]
     simp
    have hgo:=ih rest' (setR l off v.cells.toList) (setR c.toList off v'.cells.toList).toArray l' (by simpa using hlen) (fun j p hj=>hp (j+1) p (by simpa using hj)) hn.2
     (by simpa using hv.setR hc (by simpa using hcond.2)) h
    obtain⟨c',h4,h5⟩:=hgo
    exact⟨c',by rw [←h4];exact congrArg (fun z=>Instr.fill place z rest') hfold,h5⟩
theorem plain_Vs{l:List Value}(h:l.all plain1=true):Vs m l l:=⟨rfl,fun j x hj=>⟨x,hj,.plain (alT.1 h x (moG hj))⟩⟩
theorem mapM_places:∀ (fs:List Field),(fs.all fun f=>decide (0<szt P f.type))=true→fs.mapM (fun f=>(P.info? f.type).map fun i=>(f.offset,i.size))=some (fs.map fun f=>(f.offset,szt P f.type))
 | [],_=>rfl
 | f::fs,h=>by
  simp only [List.all_cons,Bool.and_eq_true,decide_eq_true_eq]at h
  obtain⟨i,h1,h2⟩:=szt_info h.1
  rw [List.mapM_cons,h1,mapM_places fs h.2]
  simp [h2]
theorem xbuild_run{t:TypeId}{parts parts':List (Nat×Value)}{v:Value}(hlen:parts'.length=parts.length)(hp:∀ (j:Nat) (p:Nat×Value),parts[j]?=some p→∃p':Nat×Value,parts'[j]?=some p'∧p'.1=p.1∧V m p.2 p'.2)
  (h:xbuild P t parts=some v):∃v',V m v v'∧∀w':World,(Instr.build t parts'.toArray).run P w'=.ok v' w':=by
 unfold xbuild at h
 split at h
 ·rename_i l hfl
  obtain⟨fs,hu,rfl⟩:=flds_some hfl
  split at h
  case h_2=>cases h
  rename_i z hz
  split at h
  case isFalse=>cases h
  rename_i hc
  split at h
  case h_2=>cases h
  rename_i cs hf
  cases h
  obtain⟨c',h1,h2⟩:=fill_run parts parts' z.cells.toList z.cells cs hlen (fun j p hj=>by
   obtain⟨p',a,b,c⟩:=hp j p hj
   exact⟨p',a,b,c.v2 (alT.1 hc.2.2 p (moG hj))⟩) hc.2.2 (plain_Vs hc.2.1) hf
  refine⟨.agg c',list_agg (l':=c'.toList) h2.1 h2.2,fun w'=>run_build w' t _ _ ?_⟩
  unfold zer at hz
  cases hi:P.info? t with
  | none=>rw [hi]at hz;cases hz
  | some it=>
   rw [hi]at hz
   have hz':it.zero=some z:=hz
   have hc1:(fs.toList.all fun f=>decide (0<szt P f.type))=true:=by
    have:=hc.1
    rw [List.all_map]at this
    exact this
   simp only [Program.built,hi,und_some hu (by simp),hz',mapM_places fs.toList hc1]
   rw [←h1]
   congr 1
   funext i
   simp [Function.comp_def]
 ·split at h
  case h_2=>cases h
  rename_i nn e z hu hz
  split at h
  case isFalse=>cases h
  rename_i hc
  split at h
  case h_2=>cases h
  rename_i cs hf
  cases h
  obtain⟨c',h1,h2⟩:=fill_run parts parts' z.cells.toList z.cells cs hlen (fun j p hj=>by
   obtain⟨p',a,b,c⟩:=hp j p hj
   exact⟨p',a,b,c.v2 (alT.1 hc.2.2 p (moG hj))⟩) hc.2.2 (plain_Vs hc.2.1) hf
  refine⟨.agg c',list_agg (l':=c'.toList) h2.1 h2.2,fun w'=>run_build w' t _ _ ?_⟩
  obtain⟨ie,hie,hsz⟩:=szt_info hc.1
  unfold zer at hz
  cases hi:P.info? t with
  | none=>rw [hi]at hz;cases hz
  | some it=>
   rw [hi]at hz
   have hz':it.zero=some z:=hz
   simp only [Program.built,hi,und_some hu (by simp),hz',hie,hsz]
   exact h1
end
end
section
def ints(k:IntKind)(l:List Int):Array Value:=(l.map (Value.int k)).toArray
theorem ints_at(k:IntKind)(l:List Int)(i:Nat)(h:i<l.length):(ints k l)[i]?=some (.int k (l.getD i 0)):=by
 simp [ints,geE h]
section
variable {P:Program}
theorem run_part_ints(w:World)(e:TypeId)(k kk:IntKind)(l:List Int)(i:Nat)(hu:P.underlying e=some (.int kk))(hi:i<l.length) :
  (part e (ints k l) i).run P w=.ok (.int k (l.getD i 0)) w:=by
 simp [part,isAgg,run_underlying hu,ints_at k l i hi]
theorem run_equalIn_ints_from(d:Nat)(e:TypeId)(k kk:IntKind)(l m:List Int)(he:P.underlying e=some (.int kk))(hl:l.length=m.length)(w:World) :
  ∀j i,i+j=l.length →
  (forIn (m:=Sem) (List.range' i j 1) ((none,()):Option Bool×Unit) fun i _=>do
    let a ←part e (ints k l) (i*1)
    let b ←part e (ints k m) (i*1)
    let r ←Op.equalIn (d+1) e a b
    if (!r)=true then pure (ForInStep.done (some false,())) else pure (ForInStep.yield (none,()))).run P w =
   .ok (if l.drop i=m.drop i then (none,()) else (some false,())) w:=by
 intro j
 induction j with
 | zero=>intro i hij;simp [List.drop_eq_nil_of_le (show l.length≤i by omega),List.drop_eq_nil_of_le (show m.length≤i by omega)]
 | succ j ih=>
  intro i hij
  have hp:=run_part_ints (P:=P) w e k kk l i he (by omega)
  have hq:=run_part_ints (P:=P) w e k kk m i he (by omega)
  have hr:=run_equalIn_int (P:=P) w d e k kk (l.getD i 0) (m.getD i 0) he
  have hl1:l.drop i=l.getD i 0::l.drop (i+1):=by rw [List.drop_eq_getElem_cons (show i<l.length by omega)];simp [geE (show i<l.length by omega)]
  have hm1:m.drop i=m.getD i 0::m.drop (i+1):=by rw [List.drop_eq_getElem_cons (show i<m.length by omega)];simp [geE (show i<m.length by omega)]
  rw [List.range'_succ,List.forIn_cons]
  simp only [Sem.run_bind,Nat.mul_one,hp,hq,hr,Result.andThen_ok]
  by_cases hx:l.getD i 0=m.getD i 0
  ·simp only [hx,beq_self_eq_true,Bool.not_true,Bool.false_eq_true,if_false,Sem.run_pure,Result.andThen_ok]
   have:=ih (i+1) (by omega)
   simp only [Nat.mul_one]at this
   rw [this,hl1,hm1,hx]
   simp
  ·have hb:(l.getD i 0==m.getD i 0)=false:=by simpa using hx
   simp only [hb,Bool.not_false,if_true,Sem.run_pure,Result.andThen_ok]
   rw [hl1,hm1,if_neg (by intro h;injection h with h;exact hx h)]
theorem run_equalIn_ints(d:Nat)(t e:TypeId)(n:Nat)(k kk:IntKind)(info:TypeInfo)(l m:List Int)(ht:P.underlying t=some (.array n e))(he:P.underlying e=some (.int kk))
  (hs:P.info? e=some info) (h1:info.size=1) (hl:l.length=n) (hm:m.length=n) (w:World) :
  (Op.equalIn (d+2) t (.agg (ints k l)) (.agg (ints k m))).run P w=.ok (l==m) w:=by
 have h:=run_equalIn_ints_from (P:=P) d e k kk l m he (by omega) w n 0 (by omega)
 rw [show d+2=(d+1)+1 from rfl]
 unfold Op.equalIn
 simp only [Sem.run_bind,run_underlying ht,Result.andThen_ok,sizeOf,typeInfo,run_program,hs,Sem.run_pure,h1]
 rw [Std.Legacy.Range.forIn_eq_forIn_range']
 simp only [Std.Legacy.Range.size,Nat.sub_zero,Nat.add_sub_cancel,Nat.div_one]
 rw [h]
 by_cases hx:l=m
 ·subst hx;simp
 ·simp [hx]
end
def allK(k:IntKind)(l:List Value):Bool:=l.all fun v=>match v with | .int k' _=>decide (k'=k) | _=>false
theorem allK_iv(k:IntKind)(l:List Int):allK k (iv k l)=true:=by
 unfold allK iv
 rw [List.all_map,alT]
 intro x _
 simp
theorem num_iv(k:IntKind)(l:List Int):(iv k l).map num=l:=by
 unfold iv
 rw [List.map_map]
 exact List.map_id'' (fun _=>rfl) l
theorem allK_spec{k:IntKind}{l:List Value}(h:allK k l=true):l=iv k (l.map num):=by
 unfold allK at h
 unfold iv
 induction l with
 | nil=>rfl
 | cons x l ih=>
  simp only [List.all_cons,Bool.and_eq_true]at h
  rw [List.map_cons,List.map_cons,←ih h.2]
  congr 1
  have h1:=h.1
  split at h1
  ·simp at h1;subst h1;rfl
  ·cases h1
def gl(P:Program)(t:TypeId):Bool:=!(P.eqGuardType P.depth t)
def xarr(P:Program)(t:TypeId)(xs ys:List Value):Option Bool:=
 match und P t with
 | .array n e=>(match und P e with
  | .int k=>if gl P t=true∧allK k xs=true∧allK k ys=true∧xs.length=n∧ys.length=n∧szt P e=1 then some (xs.map num==ys.map num) else none
  | _=>none)
 | _=>none
inductive CmpK where
 | int | str | bool
def cmpKs(P:Program):Nat→List Field→Option (List CmpK)
 | _,[]=>some []
 | o,f::fs=>if f.name = "_" ∨ f.offset≠o then none else
  match und P f.type with
  | .int _=>(cmpKs P (o+1) fs).map (.int::·)
  | .string=>(cmpKs P (o+1) fs).map (.str::·)
  | .bool=>(cmpKs P (o+1) fs).map (.bool::·)
  | _=>none
def cmpT(P:Program)(t:TypeId):Option (List CmpK):=
 match und P t with
 | .struct fs=>if gl P t=true∧P.stoodInHeld t=false then cmpKs P 0 fs.toList else none
 | _=>none
def xcmp:List CmpK→List Value→List Value→Option Bool
 | [],[],[]=>some true
 | .int::ks,.int k a::xs,.int k' b::ys=>if k=k' then (xcmp ks xs ys).map (a==b&&·) else none
 | .str::ks,.string a::xs,.string b::ys=>(xcmp ks xs ys).map (a.toList==b.toList&&·)
 | .bool::ks,.bool a::xs,.bool b::ys=>(xcmp ks xs ys).map (a==b&&·)
 | _,_,_=>none
def xpartV(P:Program)(t:TypeId)(xs:Array Value)(o:Nat):Option Value:=
 if isAggD (und P t)=true then (if 0<szt P t then some (.agg (xs.extract o (o+szt P t))) else none) else xs[o]?
def xdf(P:Program)(q:TypeId→Value→Value→Option Bool):List Field→Array Value→Array Value→Option Bool
 | [],_,_=>some true
 | f::fs,xs,ys=>if f.name = "_" then none else match xpartV P f.type xs f.offset,xpartV P f.type ys f.offset with
  | some u,some v=>(match q f.type u v,xdf P q fs xs ys with | some r,some b=>some (r&&b) | _,_=>none)
  | _,_=>none
def xdq(P:Program):Nat→TypeId→Value→Value→Option Bool
 | 0,_,_,_=>none
 | d+1,t,x,y=>match und P t,x,y with
  | .int _,.int k a,.int k' b=>if k=k' then some (a==b) else none
  | .string,.string a,.string b=>some (a.toList==b.toList)
  | .bool,.bool a,.bool b=>some (a==b)
  | .array n e,.agg xs,.agg ys=>(match und P e with
   | .int k=>if allK k xs.toList=true∧allK k ys.toList=true∧xs.toList.length=n∧ys.toList.length=n∧szt P e=1 then some (xs.toList.map num==ys.toList.map num) else none
   | _=>none)
  | .struct fs,.agg xs,.agg ys=>if P.stoodInHeld t=false then xdf P (fun t' u v=>xdq P d t' u v) fs.toList xs ys else none
  | _,_,_=>none
def xdeep(P:Program)(t:TypeId)(xs ys:List Value):Option Bool:=
 if gl P t=true∧xs.all plain1=true∧ys.all plain1=true then xdq P 6 t (.agg xs.toArray) (.agg ys.toArray) else none
def xagg(P:Program)(t:TypeId)(xs ys:List Value):Option Bool:=
 match cmpT P t with
 | some ks=>xcmp ks xs ys
 | none=>(match xarr P t xs ys with | some b=>some b | none=>xdeep P t xs ys)
def xeqA(P:Program)(op:BinOp)(t:TypeId)(x y:Value):Option Value:=
 match op,x,y with
 | .eql,.agg xs,.agg ys=>(xagg P t xs.toList ys.toList).map .bool
 | .neq,.agg xs,.agg ys=>(xagg P t xs.toList ys.toList).map fun b=>.bool (!b)
 | _,_,_=>none
section
variable {P:Program}
theorem guard_gl{op:BinOp}{t:TypeId}(h:gl P t=true)(ox oy:Operand)(xs ys:Array Value)(w:World):(eqGuard op t ox oy (.agg xs) (.agg ys)).run P w=.ok () w:=by
 have h':P.eqGuardType P.depth t=false:=by simpa [gl] using h
 cases op <;> simp [eqGuard,h']
theorem xarr_run{t:TypeId}{xs ys:Array Value}{b:Bool}(h:xarr P t xs.toList ys.toList=some b)(w:World):(Op.equal t (.agg xs) (.agg ys)).run P w=.ok b w∧gl P t=true∧xs.all plain1=true∧ys.all plain1=true:=by
 unfold xarr at h
 split at h
 case h_2=>cases h
 rename_i n e hu
 split at h
 case h_2=>cases h
 rename_i k he
 split at h
 case isFalse=>cases h
 rename_i hc
 cases h
 obtain⟨h1,h2,h3,h4,h5,h6⟩:=hc
 have ex:=allK_spec h2
 have ey:=allK_spec h3
 obtain⟨info,hi,hs⟩:=szt_info (P:=P) (t:=e) (by omega)
 have e1:xs=ints k (xs.toList.map num):=by
  apply Array.toList_inj.1
  exact ex
 have e2:ys=ints k (ys.toList.map num):=by
  apply Array.toList_inj.1
  exact ey
 have pl:∀ (zs:Array Value),zs.toList=iv k (zs.toList.map num)→zs.all plain1=true:=by
  intro zs hz
  rw [Array.all_eq_true]
  intro i hi
  have:zs.toList[i]?=some zs[i]:=by simp [hi]
  rw [hz]at this
  simp only [iv,gmP]at this
  cases hq:(zs.toList.map num)[i]? with
  | none=>simp only [gmP]at hq;rw [hq]at this;cases this
  | some q=>simp only [gmP]at hq;rw [hq]at this;simp at this;rw [←this];rfl
 refine⟨?_,h1,pl xs ex,pl ys ey⟩
 rw [e1,e2]
 have:=run_equalIn_ints (P:=P) 9998 t e n k k info (xs.toList.map num) (ys.toList.map num) (und_some hu (by simp)) (und_some he (by simp)) hi (by rw [hs];exact h6) (by simpa using h4) (by simpa using h5) w
 rw [←e1,←e2]at this ⊢
 exact this
theorem part_one{xs:Array Value}{o:Nat}{t:TypeId}{v:Value}(ht:isAggD (und P t)=false)(hu:P.underlying t=some (und P t))(h:xs.toList[o]?=some v)(w:World):(part t xs o).run P w=.ok v w:=by
 have h':xs[o]?=some v:=by simpa using h
 have h2:∀d,P.underlying t=some d→isAggD d=false→(isAgg t).run P w=.ok false w:=fun d hd hg=>by
  cases d <;> first | (simp [isAggD]at hg;done) | simp [isAgg,run_underlying hd]
 simp [part,h2 _ hu ht,h']
theorem xcmp_step{d:Nat}{w:World}{xs ys:Array Value}{f:Field}{fs:List Field}{u v:Value}{r b':Bool}(hn1:f.name ≠ "_")(p1:(part f.type xs f.offset).run P w=.ok u w)(p2:(part f.type ys f.offset).run P w=.ok v w)(hq:(Op.equalIn d f.type u v).run P w=.ok r w)
  (q1:(Op.eqFields d xs ys fs).run P w=.ok b' w):(Op.eqFields d xs ys (f::fs)).run P w=.ok (r&&b') w:=by
 rw [Op.eqFields,if_pos hn1]
 simp only [Sem.run_bind,p1,p2,hq,Result.andThen_ok]
 cases r with
 | true=>simpa using q1
 | false=>simp
theorem xcmp_cons{k:CmpK}{ks:List CmpK}{X Y:List Value}{b:Bool}(h:xcmp (k::ks) X Y=some b) :
  ∃u v X' Y' r b',X=u::X'∧Y=v::Y'∧xcmp ks X' Y'=some b'∧b=(r&&b')∧plain1 u=true∧plain1 v=true ∧
   ((k=.int∧∃ka a c,u=.int ka a∧v=.int ka c∧r=(a==c))∨(k=.str∧∃a c,u=.string a∧v=.string c∧r=(a.toList==c.toList))∨(k=.bool∧∃a c,u=.bool a∧v=.bool c∧r=(a==c))):=by
 unfold xcmp at h
 split at h
 ·rename_i e;cases e
 ·rename_i ks' ka a X' kb c Y' e
  cases e
  split at h
  case isFalse=>cases h
  rename_i hk
  subst hk
  cases hc:xcmp ks X' Y' with
  | none=>rw [hc]at h;cases h
  | some b'=>
   rw [hc]at h;cases h
   exact⟨_,_,_,_,_,b',rfl,rfl,hc,rfl,rfl,rfl,.inl ⟨rfl,_,_,_,rfl,rfl,rfl⟩⟩
 ·rename_i ks' a X' c Y' e
  cases e
  cases hc:xcmp ks X' Y' with
  | none=>rw [hc]at h;cases h
  | some b'=>
   rw [hc]at h;cases h
   exact⟨_,_,_,_,_,b',rfl,rfl,hc,rfl,rfl,rfl,.inr (.inl ⟨rfl,_,_,rfl,rfl,rfl⟩)⟩
 ·rename_i ks' a X' c Y' e
  cases e
  cases hc:xcmp ks X' Y' with
  | none=>rw [hc]at h;cases h
  | some b'=>
   rw [hc]at h;cases h
   exact⟨_,_,_,_,_,b',rfl,rfl,hc,rfl,rfl,rfl,.inr (.inr ⟨rfl,_,_,rfl,rfl,rfl⟩)⟩
 ·cases h
theorem xcmp_run{d:Nat}(w:World){xs ys:Array Value}:∀ (fs:List Field) (ks:List CmpK) (o:Nat) (b:Bool),cmpKs P o fs=some ks→xcmp ks (xs.toList.drop o) (ys.toList.drop o)=some b →
  (Op.eqFields (d+1) xs ys fs).run P w=.ok b w∧(xs.toList.drop o).all plain1=true∧(ys.toList.drop o).all plain1=true
 | [],ks,o,b,hk,hx=>by
  cases hk
  generalize xs.toList.drop o=X at hx
  generalize ys.toList.drop o=Y at hx
  unfold xcmp at hx
  split at hx <;> first | (cases hx;done) | skip
  ·cases hx
   exact⟨by simp [Op.eqFields],rfl,rfl⟩
  all_goals (rename_i h;cases h)
 | f::fs,ks,o,b,hk,hx=>by
  unfold cmpKs at hk
  split at hk
  ·cases hk
  rename_i hn
  have hn1:f.name ≠ "_" := fun e=>hn (.inl e)
  have hn2:f.offset=o:=by rcases Classical.em (f.offset=o) with h | h;exact h;exact absurd (.inr h) hn
  have get:∀ (zs:Array Value) (v:Value) (r:List Value),zs.toList.drop o=v::r→zs.toList[o]?=some v∧zs.toList.drop (o+1)=r:=fun zs v r h=>by
   constructor
   ·have:=congrArg (·[0]?) h
    simpa using this
   ·rw [←List.drop_drop,h];rfl
  have main:∀ (k:CmpK) (ks':List CmpK),ks=k::ks'→cmpKs P (o+1) fs=some ks'→P.underlying f.type=some (und P f.type)→isAggD (und P f.type)=false →
    (∀ka a c,k=.int→∀w,(Op.equalIn (d+1) f.type (.int ka a) (.int ka c)).run P w=.ok (a==c) w)→(∀a c,k=.str→∀w,(Op.equalIn (d+1) f.type (.string a) (.string c)).run P w=.ok (a.toList==c.toList) w)→(∀a c,k=.bool→∀w,(Op.equalIn (d+1) f.type (.bool a) (.bool c)).run P w=.ok (a==c) w) →
    (Op.eqFields (d+1) xs ys (f::fs)).run P w=.ok b w∧(xs.toList.drop o).all plain1=true∧(ys.toList.drop o).all plain1=true:=by
   intro k ks' hks hr hP hA h1 h2 h3
   rw [hks]at hx
   obtain⟨u,v,X',Y',r,b',hX,hY,hc,rfl,pu,pv,hcase⟩:=xcmp_cons hx
   obtain⟨g1,g2⟩:=get xs _ _ hX
   obtain⟨g3,g4⟩:=get ys _ _ hY
   obtain⟨q1,q2,q3⟩:=xcmp_run (d:=d) (xs:=xs) (ys:=ys) w fs ks' (o+1) b' hr (by rw [g2,g4];exact hc)
   rw [g2]at q2;rw [g4]at q3
   have p1:=part_one (P:=P) (t:=f.type) hA hP g1 w
   have p2:=part_one (P:=P) (t:=f.type) hA hP g3 w
   rw [←hn2]at p1 p2
   refine⟨xcmp_step hn1 p1 p2 ?_ q1,by rw [hX,List.all_cons,pu,q2];rfl,by rw [hY,List.all_cons,pv,q3];rfl⟩
   rcases hcase with ⟨rfl,ka,a,c,rfl,rfl,rfl⟩ | ⟨rfl,a,c,rfl,rfl,rfl⟩ | ⟨rfl,a,c,rfl,rfl,rfl⟩
   ·exact h1 _ _ _ rfl w
   ·exact h2 _ _ rfl w
   ·exact h3 _ _ rfl w
  split at hk
  ·rename_i k hu
   have hP:=und_some hu (by simp)
   cases hr:cmpKs P (o+1) fs with
   | none=>rw [hr]at hk;cases hk
   | some ks'=>
    rw [hr]at hk;cases hk
    exact main _ _ rfl hr (by rw [hu];exact hP) (by rw [hu];rfl) (fun ka a c _ w=>run_equalIn_int w d f.type ka k a c hP) (fun _ _ e=>by cases e) (fun _ _ e=>by cases e)
  ·rename_i hu
   have hP:=und_some hu (by simp)
   cases hr:cmpKs P (o+1) fs with
   | none=>rw [hr]at hk;cases hk
   | some ks'=>
    rw [hr]at hk;cases hk
    exact main _ _ rfl hr (by rw [hu];exact hP) (by rw [hu];rfl) (fun _ _ _ e=>by cases e) (fun a c _ w=>run_equalIn_string w d f.type a c hP) (fun _ _ e=>by cases e)
  ·rename_i hu
   have hP:=und_some hu (by simp)
   cases hr:cmpKs P (o+1) fs with
   | none=>rw [hr]at hk;cases hk
   | some ks'=>
    rw [hr]at hk;cases hk
    exact main _ _ rfl hr (by rw [hu];exact hP) (by rw [hu];rfl) (fun _ _ _ e=>by cases e) (fun _ _ e=>by cases e) (fun a c _ w=>run_equalIn_bool' w d f.type a c hP)
  ·cases hk
theorem part_agg{xs:Array Value}{o:Nat}{t:TypeId}(ht:isAggD (und P t)=true)(hz:0<szt P t)(w:World):(part t xs o).run P w=.ok (.agg (xs.extract o (o+szt P t))) w:=by
 obtain⟨info,hi,hs⟩:=szt_info (P:=P) (t:=t) hz
 have hne:und P t≠.invalid:=fun e=>by rw [e]at ht;simp [isAggD]at ht
 have hu:P.underlying t=some (und P t):=und_some rfl hne
 have h1:(isAgg t).run P w=.ok true w:=by
  generalize und P t=u at *
  cases u <;> first | (simp [isAggD]at ht;done) | simp [isAgg,run_underlying hu]
 unfold part
 simp [h1,sizeOf,typeInfo,run_program,hi,hs]
theorem partV_run{xs:Array Value}{o:Nat}{t:TypeId}{v:Value}(h:xpartV P t xs o=some v)(hu:P.underlying t=some (und P t))(w:World):(part t xs o).run P w=.ok v w:=by
 unfold xpartV at h
 split at h
 ·rename_i ha
  split at h
  ·rename_i hz
   cases h
   exact part_agg ha hz w
  ·cases h
 ·rename_i ha
  exact part_one (by simpa using ha) hu (by simpa using h) w
theorem xdf_run{D:Nat}{q:TypeId→Value→Value→Option Bool}(hq:∀t u v r,q t u v=some r→P.underlying t=some (und P t)∧∀w,(Op.equalIn D t u v).run P w=.ok r w){xs ys:Array Value}:∀ (fs:List Field) (b:Bool),xdf P q fs xs ys=some b→∀w,(Op.eqFields D xs ys fs).run P w=.ok b w
 | [],b,h,w=>by
  cases h
  simp [Op.eqFields]
 | f::fs,b,h,w=>by
  unfold xdf at h
  split at h
  ·cases h
  rename_i hn
  split at h
  case h_2=>cases h
  rename_i u v hu hv
  split at h
  case h_2=>cases h
  rename_i r b' hr hb
  cases h
  obtain⟨h1,h2⟩:=hq _ _ _ _ hr
  exact xcmp_step hn (partV_run hu h1 w) (partV_run hv h1 w) (h2 w) (xdf_run hq fs b' hb w)
theorem xdq_run:∀ (d D:Nat) (t:TypeId) (x y:Value) (b:Bool),xdq P d t x y=some b→P.underlying t=some (und P t)∧∀w,(Op.equalIn (D+2*d) t x y).run P w=.ok b w
 | 0,D,t,x,y,b,h=>by cases h
 | d+1,D,t,x,y,b,h=>by
  have e:D+2*(d+1)=(D+2*d+1)+1:=by omega
  unfold xdq at h
  split at h
  ·rename_i kk k a k' c hu
   have hP:=und_some hu (by simp)
   split at h
   case isFalse=>cases h
   rename_i hk
   subst hk
   cases h
   rw [hu,e]
   exact⟨hP,fun w=>run_equalIn_int w _ t k kk a c hP⟩
  ·rename_i a c hu
   have hP:=und_some hu (by simp)
   cases h
   rw [hu,e]
   exact⟨hP,fun w=>run_equalIn_string w _ t a c hP⟩
  ·rename_i a c hu
   have hP:=und_some hu (by simp)
   cases h
   rw [hu,e]
   exact⟨hP,fun w=>run_equalIn_bool' w _ t a c hP⟩
  ·rename_i n el xs ys hu
   have hP:=und_some hu (by simp)
   split at h
   case h_2=>cases h
   rename_i k he
   split at h
   case isFalse=>cases h
   rename_i hc
   cases h
   obtain⟨h2,h3,h4,h5,h6⟩:=hc
   obtain⟨info,hi,hs⟩:=szt_info (P:=P) (t:=el) (by omega)
   have e1:xs=ints k (xs.toList.map num):=Array.toList_inj.1 (allK_spec h2)
   have e2:ys=ints k (ys.toList.map num):=Array.toList_inj.1 (allK_spec h3)
   rw [hu]
   refine⟨hP,fun w=>?_⟩
   have:=run_equalIn_ints (P:=P) (D+2*d) t el n k k info (xs.toList.map num) (ys.toList.map num) hP (und_some he (by simp)) hi (by rw [hs];exact h6) (by simpa using h4) (by simpa using h5) w
   rw [←e1,←e2]at this
   rw [e]
   exact this
  ·rename_i fs xs ys hu
   have hP:=und_some hu (by simp)
   split at h
   case isFalse=>cases h
   rename_i hc
   have hf:P.fieldsOf t=fs:=by unfold Program.fieldsOf;rw [hP]
   rw [hu]
   refine⟨hP,fun w=>?_⟩
   have:=run_equalIn_struct (P:=P) (w:=w) (D+2*d+1) t xs ys (by rw [hf];exact hP) hc
   rw [e,this,hf]
   exact xdf_run (D:=D+2*d+1) (q:=fun t' u v=>xdq P d t' u v) (fun t' u v r hr=>by
    have:=xdq_run d (D+1) t' u v r hr
    rw [show D+1+2*d=D+2*d+1 by omega]at this
    exact this) fs.toList b h w
  ·cases h
theorem xdeep_run{t:TypeId}{xs ys:Array Value}{b:Bool}(h:xdeep P t xs.toList ys.toList=some b)(w:World):(Op.equal t (.agg xs) (.agg ys)).run P w=.ok b w∧gl P t=true∧xs.all plain1=true∧ys.all plain1=true:=by
 unfold xdeep at h
 split at h
 case isFalse=>cases h
 rename_i hc
 refine⟨?_,hc.1,by simpa using hc.2.1,by simpa using hc.2.2⟩
 exact (xdq_run (P:=P) 6 9988 t (.agg xs) (.agg ys) b (by simpa using h)).2 w
theorem xagg_run{t:TypeId}{xs ys:Array Value}{b:Bool}(h:xagg P t xs.toList ys.toList=some b)(w:World):(Op.equal t (.agg xs) (.agg ys)).run P w=.ok b w∧gl P t=true∧xs.all plain1=true∧ys.all plain1=true:=by
 unfold xagg at h
 cases hT:cmpT P t with
 | none=>
  rw [hT]at h
  simp only at h
  split at h
  ·rename_i b' hx
   cases h
   exact xarr_run hx w
  ·exact xdeep_run h w
 | some ks=>
  rw [hT]at h
  unfold cmpT at hT
  split at hT
  ·rename_i fs hu
   split at hT
   ·rename_i hc
    have hP:=und_some hu (by simp)
    have hf:P.fieldsOf t=fs:=by unfold Program.fieldsOf;rw [hP]
    obtain⟨h1,h2,h3⟩:=xcmp_run (P:=P) (d:=9998) w (xs:=xs) (ys:=ys) fs.toList ks 0 b hT (by simpa using h)
    refine⟨?_,hc.1,by simpa using h2,by simpa using h3⟩
    have:=run_equalIn_struct (P:=P) w 9999 t xs ys (by rw [hf];exact hP) hc.2
    rw [hf,h1]at this
    exact this
   ·cases hT
  ·cases hT
theorem xeqA_run{op:BinOp}{t:TypeId}{x y v:Value}(h:xeqA P op t x y=some v)(ox oy:Operand)(w:World) :
  (do eqGuard op t ox oy x y;binOp op t x y:Sem Value).run P w=.ok v w∧plainV x=true∧plainV y=true∧plainV v=true:=by
 unfold xeqA at h
 split at h
 ·rename_i xs ys
  cases hx:xagg P t xs.toList ys.toList with
  | none=>rw [hx]at h;cases h
  | some b=>
   rw [hx]at h
   cases h
   obtain⟨h1,h2,h3,h4⟩:=xagg_run hx w
   refine⟨?_,h3,h4,rfl⟩
   rw [Sem.run_bind,guard_gl h2]
   show ((do pure (.bool (←Op.equal t (.agg xs) (.agg ys))):Sem Value).run P w)=_
   rw [Sem.run_bind,h1]
   rfl
 ·rename_i xs ys
  cases hx:xagg P t xs.toList ys.toList with
  | none=>rw [hx]at h;cases h
  | some b=>
   rw [hx]at h
   cases h
   obtain⟨h1,h2,h3,h4⟩:=xagg_run hx w
   refine⟨?_,h3,h4,rfl⟩
   rw [Sem.run_bind,guard_gl h2]
   show ((do pure (.bool (!(←Op.equal t (.agg xs) (.agg ys)))):Sem Value).run P w)=_
   rw [Sem.run_bind,h1]
   rfl
 ·cases h
end
end
section
def keyOk(P:Program)(kt:TypeId)(k:Value):Bool:=
  match und P kt,k with
  | .int kk,.int k' _=>decide (k'=kk)
  | .string,.string _=>true
  | .array n e,.agg cs=>(match und P e with | .int kk=>gl P kt&&allK kk cs.toList&&decide (cs.size=n)&&decide (szt P e=1) | _=>false)
  | _,_=>false
def keyEq:Value→Value→Bool
  | .int _ a,.int _ b=>a==b
  | .string a,.string b=>a==b
  | .agg a,.agg b=>a.toList.map num==b.toList.map num
  | _,_=>false
def mfind(k:Value):List (Value×Value)→Option Nat
  | []=>none
  | p::l=>if keyEq k p.1=true then some 0 else (mfind k l).map (·+1)
def mget(k:Value)(l:List (Value×Value)):Option Value:=(mfind k l).bind fun i=>(l[i]?).map (·.2)
def mput(k v:Value)(l:List (Value×Value)):List (Value×Value):=
  match mfind k l with
  | some i=>l.set i (k,v)
  | none=>l++[(k,v)]
def mapOk(P:Program)(kt:TypeId)(l:List (Value×Value)):Bool:=l.all fun p=>keyOk P kt p.1
def xlookup(P:Program)(t:TypeId)(x idx:Value)(ok:Bool)(H:AH):Option Value:=
  match und P t,x with
  | .map kt et,.map (some i)=>(match (hget H i).bind Blk.ents with
    | some l=>if keyOk P kt idx=true∧mapOk P kt l=true then
        (match mget idx l with
        | some v=>some (if ok then .tuple #[v,.bool true] else v)
        | none=>(match zer P et with
          | some z=>if plain2 z=true then some (if ok then .tuple #[z,.bool false] else z) else none
          | none=>none)) else none
    | none=>none)
  | .map kt et, .map none => if keyOk P kt idx = true then
        (match zer P et with
          | some z=>if plain2 z=true then some (if ok then .tuple #[z,.bool false] else z) else none
          | none=>none) else none
  | _,_=>none
def xmakeMap(P:Program)(t:TypeId)(r:Option Value)(H:AH):Option (Value×AH):=
  match und P t,r with
  | .map _ _,none=>some (.map (some H.length),H++[some (mblk t [])])
  | .map _ _,some (.int _ _)=>some (.map (some H.length),H++[some (mblk t [])])
  | _,_=>none
def xmapUpd(P:Program)(nro:Nat)(t:TypeId)(x k v:Value)(H:AH):Option (Value×AH):=
  match und P t,x with
  | .map kt et,.map (some i)=>(match hget H i with
    | some b=>(match b.ents with
      | some l=>if nro≤i∧keyOk P kt k=true∧mapOk P kt l=true∧notTuple v=true then some (undef,H.set i (some (mblk b.ty (mput k v l)))) else none
      | none=>none)
    | none=>none)
  | _,_=>none
def xmapEnt(P:Program)(nro:Nat)(t:TypeId)(x k:Value)(H:AH):Option (Value×AH):=
  match und P t,x with
  | .map kt et,.map (some i)=>(match hget H i with
    | some b=>(match b.ents with
      | some l=>if nro≤i∧keyOk P kt k=true∧mapOk P kt l=true then
          (match mfind k l with
          | some j=>some (.tuple #[(l.getD j (undef,undef)).2,.int .i64 (j:Nat)],H.set i (some (mblk b.ty (l.set j (k,(l.getD j (undef,undef)).2)))))
          | none=>(match zer P et with
            | some z=>if plain2 z=true then some (.tuple #[z,.int .i64 (l.length:Nat)],H.set i (some (mblk b.ty (l++[(k,z)])))) else none
            | none=>none)) else none
      | none=>none)
    | none=>none)
  | _,_=>none
def xentSt(nro:Nat)(x s v:Value)(H:AH):Option (Value×AH):=
  match x,s with
  | .map (some i),.int .i64 z=>(match hget H i with
    | some b=>(match b.ents with
      | some l=>if nro≤i∧0≤z∧z.toNat<l.length∧notTuple v=true then some (undef,H.set i (some (mblk b.ty (l.set z.toNat ((l.getD z.toNat (undef,undef)).1,v))))) else none
      | none=>none)
    | none=>none)
  | _,_=>none
section
variable {P:Program} {nro n base:Nat} {γ:Nat→Option Nat} {m:List Ent} {H:AH} {α:Fm} {a:Act} {w:World}
theorem keyOk_plain{kt:TypeId}{k:Value}(h:keyOk P kt k=true):plain2 k=true:=by
  unfold keyOk at h
  split at h
  · rfl
  · rfl
  · rename_i n e cs hu
    split at h
    · rename_i kk he
      simp only [Bool.and_eq_true,decide_eq_true_eq]at h
      have h2:=allK_spec h.1.1.2
      have:=iv_plain kk (cs.toList.map num)
      rw [←h2]at this
      simpa using this
    · cases h
  · cases h
theorem keyEq_run{kt:TypeId}{k k':Value}(h:keyOk P kt k=true)(h':keyOk P kt k'=true) :
    Instr.sameNow (und P kt) k k'=some (keyEq k k')∨((∃n e,und P kt=.array n e)∧Instr.sameNow (und P kt) k k'=none∧∀w:World,(Op.equal kt k k').run P w=.ok (keyEq k k') w):=by
  unfold keyOk at h h'
  split at h
  · rename_i kk k1 z hu
    rw [hu]at h' ⊢
    cases k' <;> simp only [decide_eq_true_eq]at h' <;> try (cases h';done)
    simp only [decide_eq_true_eq]at h
    subst h h'
    exact .inl (by simp [Instr.sameNow,keyEq])
  · rename_i z hu
    rw [hu]at h' ⊢
    cases k' <;> simp only []at h' <;> try (cases h';done)
    exact .inl (by simp [Instr.sameNow,keyEq])
  · rename_i n e cs hu
    cases he:und P e <;> rw [he]at h <;> simp only []at h <;> try (cases h;done)
    rename_i kk
    rw [hu]at h' ⊢
    cases k' <;> simp only []at h' <;> try (cases h';done)
    rename_i ds
    rw [he]at h'
    simp only [Bool.and_eq_true,decide_eq_true_eq]at h h'
    refine .inr ⟨⟨n,e,rfl⟩,by simp [Instr.sameNow],fun w=>?_⟩
    have hx:xarr P kt cs.toList ds.toList=some (keyEq (.agg cs) (.agg ds)):=by
      unfold xarr
      rw [hu]
      simp only [he]
      rw [if_pos ⟨h.1.1.1,h.1.1.2,h'.1.1.2,by simpa using h.1.2,by simpa using h'.1.2,h.2⟩]
      rfl
    exact (xarr_run hx w).1
  · cases h
theorem key_und{kt:TypeId}{k:Value}(h:keyOk P kt k=true):P.underlying kt=some (und P kt):=by
  refine und_some rfl (fun e=>?_)
  unfold keyOk at h
  rw [e]at h
  cases h
theorem find_run{kt:TypeId}{k:Value}(hk:keyOk P kt k=true){l:List (Value×Value)}(hl:mapOk P kt l=true){es:Array MapEntry}{cl:Nat}(hm:MapR m l es cl)(w':World) :
    (Instr.findKey kt k es.toList).run P w'=.ok ((mfind k l).map fun j=>(j,(es.toList.getD j default).val)) w':=by
  have hu:=key_und hk
  obtain⟨ls,hls⟩:∃ls,ls=es.toList:=⟨_,rfl⟩
  have hsz:ls.length=l.length:=by rw [hls];simpa using hm.1
  have hkeys:∀ (j:Nat) (p:Value×Value),l[j]?=some p→∃en,ls[j]?=some en∧en.key=p.1:=fun j p hp=>by
    obtain⟨_,en,b,c,_⟩:=hm.2.1 j p hp
    exact⟨en,by rw [hls];simpa using b,c⟩
  rw [←hls]
  clear hm
  have hall:∀p∈l,keyOk P kt p.1=true:=alT.1 hl
  clear hl hls
  have now:∀ (l:List (Value×Value)) (ls:List MapEntry) (i:Nat),(∀p∈l,Instr.sameNow (und P kt) k p.1=some (keyEq k p.1))→ls.length=l.length→(∀ (j:Nat) (p:Value×Value),l[j]?=some p→∃en,ls[j]?=some en∧en.key=p.1) →
      Instr.findNow (und P kt) k ls i=some ((mfind k l).map fun j=>(i+j,(ls.getD j default).val)):=by
    intro l
    induction l with
    | nil=>
      intro ls i _ hs _
      have:ls=[]:=List.eq_nil_of_length_eq_zero hs
      subst this
      rfl
    | cons p l ih=>
      intro ls i h1 hs h2
      cases ls with
      | nil=>simp at hs
      | cons en ls=>
        obtain⟨en',e1,e2⟩:=h2 0 p rfl
        cases e1
        have h0:=h1 p (by simp)
        unfold Instr.findNow
        rw [e2,h0]
        cases hq:keyEq k p.1 with
        | true=>simp [mfind,hq]
        | false=>
          have:=ih ls (i+1) (fun p' hp'=>h1 p' (by simp [hp'])) (by simpa using hs) (fun j p' hj=>by simpa using h2 (j+1) p' (by simpa using hj))
          simp only [this,mfind,hq]
          simp only [Bool.false_eq_true,if_false,Option.map_map]
          congr 1
          congr 1
          funext j
          simp only [Function.comp]
          rw [List.getD_cons_succ]
          congr 1
          omega
  have ask:∀ (l:List (Value×Value)) (ls:List MapEntry) (i:Nat),(∀p∈l,∀w:World,(Op.equal kt k p.1).run P w=.ok (keyEq k p.1) w)→ls.length=l.length→(∀ (j:Nat) (p:Value×Value),l[j]?=some p→∃en,ls[j]?=some en∧en.key=p.1) →
      (Instr.findAsking kt k ls i).run P w'=.ok ((mfind k l).map fun j=>(i+j,(ls.getD j default).val)) w':=by
    intro l
    induction l with
    | nil=>
      intro ls i _ hs _
      have:ls=[]:=List.eq_nil_of_length_eq_zero hs
      subst this
      rfl
    | cons p l ih=>
      intro ls i h1 hs h2
      cases ls with
      | nil=>simp at hs
      | cons en ls=>
        obtain⟨en',e1,e2⟩:=h2 0 p rfl
        cases e1
        have h0:=h1 p (by simp) w'
        unfold Instr.findAsking
        simp only [Sem.run_bind,e2,h0,Result.andThen_ok]
        cases hq:keyEq k p.1 with
        | true=>simp [mfind,hq]
        | false=>
          have:=ih ls (i+1) (fun p' hp'=>h1 p' (by simp [hp'])) (by simpa using hs) (fun j p' hj=>by simpa using h2 (j+1) p' (by simpa using hj))
          simp only [Bool.false_eq_true,if_false,this,mfind,hq,Option.map_map]
          congr 1
          congr 1
          funext j
          simp only [Function.comp]
          rw [List.getD_cons_succ]
          congr 1
          omega
  by_cases hA:∃n e,und P kt=.array n e
  · obtain⟨n,e,he⟩:=hA
    rw [run_findKey_eq (P:=P) w' (by rw [hu,he])]
    have:=ask l ls 0 (fun p hp w=>by
      rcases keyEq_run hk (hall p hp) with h | ⟨_,_,h⟩
      · rw [he]at h
        simp [Instr.sameNow]at h
      · exact h w) hsz hkeys
    simpa using this
  · have:=now l ls 0 (fun p hp=>by
      rcases keyEq_run hk (hall p hp) with h | ⟨h,_⟩
      · exact h
      · exact absurd h hA) hsz hkeys
    rw [MapKept.run_findKey hu this]
    simp
theorem checkKey_run{kt:TypeId}{k:Value}(hk:keyOk P kt k=true)(em:Bool)(d:Nat)(w':World):(Instr.checkKey em (d+2) kt k).run P w'=.ok () w':=by
  have hu:=key_und hk
  unfold keyOk at hk
  split at hk
  · rename_i kk k1 z h
    rw [h]at hu
    simp [Instr.checkKey,run_underlying hu]
  · rename_i z h
    rw [h]at hu
    simp [Instr.checkKey,run_underlying hu]
  · rename_i n e cs h
    rw [h]at hu
    cases he:und P e <;> rw [he]at hk <;> simp only []at hk <;> try (cases hk;done)
    rename_i kk
    simp only [Bool.and_eq_true,decide_eq_true_eq]at hk
    have heu:=und_some he (by simp)
    have hcs:=allK_spec hk.1.1.2
    have hn:(cs.toList.map num).length=n:=by simpa using hk.1.2
    generalize cs.toList.map num=xs at *
    have hca:cs=ints kk xs:=by
      apply Array.toList_inj.1
      rw [hcs];rfl
    subst hca
    have loop:∀j i,i+j=xs.length→(forIn (m:=Sem) (List.range' i j 1) () fun i _=>do
        let s ←sizeOf e
        let p ←part e (ints kk xs) (i*s)
        Instr.checkKey em (d+1) e p
        pure (ForInStep.yield ())).run P w'=.ok () w':=by
      intro j
      induction j with
      | zero=>intro i _;rfl
      | succ j ih=>
        intro i hij
        have hp:=run_part_ints (P:=P) w' e kk kk xs i heu (by omega)
        rw [List.range'_succ,List.forIn_cons]
        have hck:(Instr.checkKey em (d+1) e (.int kk (xs.getD i 0))).run P w'=.ok () w':=by simp [Instr.checkKey,run_underlying heu]
        have hs1:(sizeOf e).run P w'=.ok 1 w':=by
          have:=run_sizeOf (P:=P) (t:=e) (by rw [hk.2];omega) w'
          rw [hk.2]at this;exact this
        simp only [Sem.run_bind,hs1,Result.andThen_ok,Nat.mul_one,hp,hck,Sem.run_pure]
        exact ih (i+1) (by omega)
    have:=loop n 0 (by omega)
    unfold Instr.checkKey
    simp only [Sem.run_bind,run_underlying hu,Result.andThen_ok]
    rw [Std.Legacy.Range.forIn_eq_forIn_range']
    simp only [Std.Legacy.Range.size,Nat.sub_zero,Nat.add_sub_cancel,Nat.div_one]
    exact (congrArg (fun r:Result PUnit=>r.andThen fun _ w'=>Sem.run P (pure ()) w') this).trans rfl
  · cases hk
theorem mfind_lt{k:Value}:∀ {l:List (Value×Value)} {j:Nat},mfind k l=some j→j<l.length∧∃p,l[j]?=some p∧keyEq k p.1=true
  | [],j,h=>by cases h
  | p::l,j,h=>by
    unfold mfind at h
    by_cases hq:keyEq k p.1=true
    · rw [if_pos hq]at h
      cases h
      exact⟨by simp,p,rfl,hq⟩
    · rw [if_neg hq]at h
      cases hf:mfind k l with
      | none=>rw [hf]at h;cases h
      | some i=>
        rw [hf]at h
        cases h
        obtain⟨h1,q,h2,h3⟩:=mfind_lt hf
        exact⟨by simp;omega,q,by simpa using h2,h3⟩
theorem V.map_{i:Nat}{y:Value}(h:V m (.map (some i)) y):∃e,m[i]?=some e∧y=.map (some e.b):=by
  cases h with
  | two h=>
    cases h with
    | one h=>
      cases h with
      | plain h=>cases h
      | mp h=>exact⟨_,h,rfl⟩
theorem xlookup_shape{t:TypeId}{x k v:Value}{ok:Bool}(h:xlookup P t x k ok H=some v):(∃o,x=.map o)∧plain2 k=true:=by
  unfold xlookup at h
  split at h
  case h_3=>cases h
  case h_2=>
    split at h
    case isFalse=>cases h
    rename_i hc
    exact⟨⟨_,rfl⟩,keyOk_plain hc⟩
  split at h
  case h_2=>cases h
  split at h
  case isFalse=>cases h
  rename_i hc
  exact⟨⟨_,rfl⟩,keyOk_plain hc.1⟩
theorem xlookup_run(hR:Rel nro base γ m H w){t:TypeId}{x x' k k' v:Value}{ok:Bool}(hx:V m x x')(hk:V m k k')(h:xlookup P t x k ok H=some v) :
    ∃v',V m v v'∧∀w',Below w.heap.size w w'→(Instr.lookup t x' k' ok).run P w'=.ok v' w':=by
  unfold xlookup at h
  split at h
  case h_3=>cases h
  case h_2=>
    rename_i kt et hu
    split at h
    case isFalse=>cases h
    rename_i hc
    split at h
    case h_2=>cases h
    rename_i z hz
    split at h
    case isFalse=>cases h
    rename_i hp
    cases h
    have hkp:=keyOk_plain hc
    obtain rfl:k'=k:=hk.eq (by
      cases k <;> first | exact hkp | cases hkp)
    have hx0:x'=.map none:=hx.eq rfl
    subst hx0
    have hzz:∀w':World,(zeroValue et).run P w'=.ok z w':=fun w'=>by
      unfold zer at hz
      cases hi:P.info? et with
      | none=>rw [hi]at hz;cases hz
      | some it=>
        rw [hi]at hz
        have h':it.zero=some z:=hz
        simp [zeroValue,typeInfo,hi,h']
    refine⟨if ok then .tuple #[z,.bool false] else z,?_,fun w' hb=>?_⟩
    · have hz2:=plain2_mk (m:=m) hp
      cases ok with
      | false=>exact .two hz2
      | true=>
        refine .tup rfl fun j x hj=>?_
        match j,hj with
        | 0,hj=>cases hj;exact⟨z,rfl,hz2⟩
        | 1,hj=>cases hj;exact⟨.bool false,rfl,.one (.plain rfl)⟩
        | j+2,hj=>simp at hj
    · have hck:=checkKey_run (P:=P) hc true 9998 w'
      unfold Instr.lookup
      simp only [Sem.run_bind,run_underlying (und_some hu (by simp)),Result.andThen_ok,Sem.run_pure]
      have hfk:(Instr.findKey kt k' (#[]:Array MapEntry).toList).run P w'=.ok none w':=by
        have hok:∃d,P.underlying kt=some d:=by
          have hkk:und P kt≠.invalid:=by
            intro e
            unfold keyOk at hc
            rw [e]at hc
            cases hc
          exact⟨_,und_some rfl hkk⟩
        obtain⟨d,hd⟩:=hok
        simp [Instr.findKey,run_underlying hd,Instr.findNow]
      have hem:(#[]:Array MapEntry).isEmpty=true:=rfl
      rw [hem]
      simp only [hck,hfk,hzz,Result.andThen_ok,Sem.run_bind,Sem.run_pure]
  rename_i kt et i hu
  split at h
  case h_2=>cases h
  rename_i l hb
  split at h
  case isFalse=>cases h
  rename_i hc
  obtain⟨e,he,rfl⟩:=hx.map_
  obtain⟨b,hb1,hb2⟩:=Option.bind_eq_some_iff.1 hb
  obtain⟨_,_,_,es,cl,g1,g2⟩:=hR.maps i b e l (hget_some hb1) hb2 he
  have hkp:=keyOk_plain hc.1
  obtain rfl:k'=k:=hk.eq (by
    cases k <;> first | exact hkp | cases hkp)
  have hin:=hR.inb i e he
  have pre:∀ (w':World),Below w.heap.size w w'→w'.heap[e.b]?=some (.map es cl)∧(Instr.findKey kt k' es.toList).run P w'=.ok ((mfind k' l).map fun j=>(j,(es.toList.getD j default).val)) w'∧(Instr.checkKey es.isEmpty 10000 kt k').run P w'=.ok () w':=fun w' hb=>
    ⟨(hb.block _ hin).trans g1,find_run hc.1 hc.2 g2 w',checkKey_run hc.1 es.isEmpty 9998 w'⟩
  have tup:∀ (z z':Value) (b:Bool),V2 m z z'→V m (if ok then .tuple #[z,.bool b] else z) (if ok then .tuple #[z',.bool b] else z'):=by
    intro z z' b hz
    cases ok with
    | false=>exact .two hz
    | true=>
      refine .tup rfl fun j x hj=>?_
      match j,hj with
      | 0,hj=>cases hj;exact⟨z',rfl,hz⟩
      | 1,hj=>cases hj;exact⟨.bool b,rfl,.one (.plain rfl)⟩
      | j+2,hj=>simp at hj
  cases hf:mfind k' l with
  | some j=>
    obtain⟨hj,p,hp,_⟩:=mfind_lt hf
    have hg:mget k' l=some p.2:=by simp [mget,hf,hp]
    rw [hg]at h
    cases h
    obtain⟨_,en,a1,a2,a3⟩:=g2.2.1 j p hp
    have hen:es.toList.getD j default=en:=by rw [gdD,Array.getElem?_toList,a1];rfl
    refine⟨_,tup _ _ true a3,fun w' hb=>?_⟩
    obtain⟨b1,b2,b3⟩:=pre w' hb
    rw [hf]at b2
    simp only [Option.map_some,hen]at b2
    unfold Instr.lookup
    simp only [Sem.run_bind,run_underlying (und_some hu (by simp)),Result.andThen_ok,MapKept.run_getObj_map b1,Sem.run_pure,b2,b3]
  | none=>
    have hg:mget k' l=none:=by simp [mget,hf]
    rw [hg]at h
    simp only at h
    split at h
    case h_2=>cases h
    rename_i z hz
    split at h
    case isFalse=>cases h
    rename_i hzp
    cases h
    refine⟨_,tup _ _ false (plain2_mk hzp),fun w' hb=>?_⟩
    obtain⟨b1,b2,b3⟩:=pre w' hb
    rw [hf]at b2
    simp only [Option.map_none]at b2
    unfold Instr.lookup
    have hzr:(zeroValue et).run P w'=.ok z w':=by
      unfold zer at hz
      cases hi:P.info? et with
      | none=>rw [hi]at hz;cases hz
      | some it=>
        rw [hi]at hz
        have h':it.zero=some z:=hz
        simp [zeroValue,typeInfo,hi,h']
    simp only [Sem.run_bind,run_underlying (und_some hu (by simp)),Result.andThen_ok,MapKept.run_getObj_map b1,Sem.run_pure,b2,b3,hzr]
end
end
section
def xcells(sz:Nat)(x:Value)(H:AH):Option (List Value):=
  match x with
  | .slice none 0 0=>some []
  | .slice (some ⟨_,_,some 0⟩) 0 0=>some []
  | .slice (some ⟨i,off,none⟩) len _=>(match hget H i with
    | some k=>if off+len*sz≤k.cells.length then some ((k.cells.drop off).take (len*sz)) else none
    | none=>none)
  | .string s=>if sz=1 then some (iv .u8 (s.data.toList.map fun b=>(b.toNat:Int))) else none
  | _=>none
def byt(P:Program)(t:TypeId):Nat:=((P.info? t).map (·.bytes)).getD 0
def nums(s:ByteArray):List Int:=s.data.toList.map fun b=>(b.toNat:Int)
def xappend(P:Program)(nro:Nat)(t:TypeId)(s x:Value)(H:AH):Option (Value×AH):=
  match und P t with
  | .slice e=>
    (match x with
    | .string _=>none
    | _=>(match xcells (szt P e) x H with
      | none=>none
      | some news=>(match s with
        | .slice none 0 0=>
          if 0<szt P e∧(zer P e).map (·.cells.size)=some (szt P e)∧news.length*byt P e≤140737488355328∧news.length≤maxLen then
            (if news=[] then some (.slice none 0 0,H) else some (.slice (some ⟨H.length,0,none⟩) (news.length/szt P e) (news.length/szt P e),H++[some ⟨news,e,some (szt P e)⟩]))
          else none
        | .slice (some ⟨i,0,none⟩) len c=>(match hget H i with
          | some k=>if c=len∧0<szt P e∧(zer P e).map (·.cells.size)=some (szt P e)∧nro≤i∧k.ty=e∧k.es=some (szt P e)∧len*szt P e≤k.cells.length∧(len*szt P e+news.length)*byt P e≤140737488355328∧len*szt P e+news.length≤maxLen then
              some (.slice (some ⟨H.length,0,none⟩) (len+news.length/szt P e) (len+news.length/szt P e),H.set i none++[some ⟨k.cells.take (len*szt P e)++news,e,some (szt P e)⟩]) else none
          | none=>none)
        | _=>none)))
  | _=>none
def xcopy(P:Program)(nro:Nat)(t:TypeId)(d x:Value)(H:AH):Option (Value×AH):=
  match und P t with
  | .slice e=>(match xcells (szt P e) x H,d with
    | some news,.slice (some ⟨i,off,none⟩) len _=>(match hget H i with
      | some k=>if 0<szt P e∧nro≤i∧off+len*szt P e≤k.cells.length then
          some (.int .i64 ((min (news.length/szt P e) len:Nat):Int),H.set i (some (k.with_ (setR k.cells off (news.take (min (news.length/szt P e) len*szt P e)))))) else none
      | none=>none)
    | some news,.slice (some ⟨_,_,some 0⟩) 0 0=>if 0<szt P e then some (.int .i64 0,H) else none
    | some news,.slice (some ⟨i,0,some (_+1)⟩) len _=>(match hget H i with
      | some k=>if 0<szt P e∧nro≤i∧len*szt P e≤k.cells.length then
          some (.int .i64 ((min (news.length/szt P e) len:Nat):Int),H.set i (some (k.with_ (setR k.cells 0 (news.take (min (news.length/szt P e) len*szt P e)))))) else none
      | none=>none)
    | _,_=>none)
  | _=>none
def xappmk(P:Program)(t u:TypeId)(s x:Value)(H:AH):Option (Value×AH):=
  match und P t,und P u,s,x with
  | .slice e,.int _,.slice none 0 0,.int _ n=>
    (match zer P e with
      | some z=>if 0<n∧0<szt P e∧z.cells.size=szt P e∧z.cells.toList.all plain1=true∧n*byt P e≤140737488355328∧n≤maxLen then
          some (.slice (some ⟨H.length,0,none⟩) n.toNat n.toNat,H++[some ⟨(List.range (n.toNat*szt P e)).map fun j=>z.cells.toList.getD (j%szt P e) undef,e,some (szt P e)⟩]) else none
      | none=>none)
  | _,_,_,_=>none
def xappstr(P:Program)(nro:Nat)(t:TypeId)(s x:Value)(H:AH):Option (Value×AH):=
  match und P t,x with
  | .slice e,.string b=>
    (match zer P e with
    | some (.int .u8 z)=>if z=0∧szt P e=1∧byt P e=1 then
      (match s with
      | .slice none 0 0=>if b.size≤140737488355328∧b.size≤maxLen then
          (if b.size=0 then some (.slice none 0 0,H) else some (.slice (some ⟨H.length,0,none⟩) b.size b.size,H++[some ⟨iv .u8 (nums b),e,some 1⟩])) else none
      | .slice (some ⟨i,0,none⟩) len c=>(match hget H i with
        | some k=>if c=len∧nro≤i∧k.ty=e∧k.es=some 1∧len≤k.cells.length∧len+b.size≤140737488355328∧len+b.size≤maxLen then
            some (.slice (some ⟨H.length,0,none⟩) (len+b.size) (len+b.size),H.set i none++[some ⟨k.cells.take len++iv .u8 (nums b),e,some 1⟩]) else none
        | none=>none)
      | _=>none) else none
    | _=>none)
  | _,_=>none
def xapp2(P:Program)(nro:Nat)(t u:TypeId)(s x:Value)(H:AH):Option (Value×AH):=
  match und P u with
  | .string=>xappstr P nro t s x H
  | _=>xappmk P t u s x H
def xcap(P:Program)(t:TypeId)(x:Value):Option Value:=
  match und P t,x with
  | .slice _,.slice none 0 0=>some (.int .i64 0)
  | .slice _,.slice (some ⟨_,0,some (c+1)⟩) _ _=>some (.int .i64 (c:Nat))
  | _,_=>none
def xeff(P:Program)(nro:Nat)(γ:Nat→Option Nat)(op:Op)(α:Fm)(H:AH):Option (Value×AH):=
  match op with
  | .alloc t=>(match zer P t with | some z=>if z.cells.toList.all plain1=true then some (.pointer (some ⟨H.length,0,none⟩),H++[some ⟨z.cells.toList,t,none⟩]) else none | none=>none)
  | .box t x=>if notTuple (α.eval γ x)=true then some (.pointer (some ⟨H.length,0,none⟩),H++[some ⟨(α.eval γ x).cells.toList,t,none⟩]) else none
  | .store t p x=>(match α.eval γ p with
    | .pointer (some ⟨i,off,none⟩)=>(match hget H i with
      | some k=>if nro≤i∧notTuple (α.eval γ x)=true∧(α.eval γ x).cells.toList.length=szt P t∧0<szt P t∧off+szt P t≤k.cells.length then
          some (undef,H.set i (some ⟨setR k.cells off (α.eval γ x).cells.toList,k.ty,k.es⟩)) else if szt P t=0∧isAggD (und P t)=true∧notTuple (α.eval γ x)=true∧(α.eval γ x).cells.toList.length=0∧nro≤i then some (undef,H) else none
      | none=>none)
    | _=>none)
  | .buildSlice t len ps=>(match und P t with
    | .slice e=>(match zer P e with
      | some z=>if 0<szt P e∧z.cells.size=szt P e∧z.cells.toList.all plain1=true∧len*szt P e≤16777216∧(ps.toList.all fun p=>notTuple (α.eval γ p.2))=true then
          (match xfill (fun i=>some (i*szt P e,szt P e)) ((List.range (len*szt P e)).map fun j=>z.cells.toList.getD (j%szt P e) undef) (ps.toList.map fun p=>(p.1,α.eval γ p.2)) with
            | some cs=>some (.slice (some ⟨H.length,0,none⟩) len len,H++[some ⟨cs,e,some (szt P e)⟩])
            | none=>none) else none
      | none=>none)
    | _=>none)
  | .makeSlice t l c=>(match und P t,α.eval γ l,α.eval γ c with
    | .slice e,.int _ l,.int _ c=>(match zer P e with
      | some z=>if 0<szt P e∧z.cells.size=szt P e∧z.cells.toList.all plain1=true∧0≤l∧l≤c∧c*byt P e≤140737488355328∧c≤maxLen then
          some (.slice (some ⟨H.length,0,if l<c∧1<szt P e then some (c.toNat+1) else none⟩) l.toNat l.toNat,H++[some ⟨(List.range (c.toNat*szt P e)).map fun j=>z.cells.toList.getD (j%szt P e) undef,e,some (szt P e)⟩]) else none
      | none=>none)
    | _,_,_=>none)
  | .convert s d x=>(match und P s,und P d,α.eval γ x with
    | .string,.slice e,.string b=>(match und P e with | .int .u8=>some (.slice (some ⟨H.length,0,none⟩) b.size b.size,H++[some ⟨iv .u8 (nums b),e,none⟩]) | _=>none)
    | _,_,_=>none)
  | .call c=>(match c.callee,c.args.toList,c.argTypes.toList with
    | .builtin .append,[s,x],[t,u]=>if t=u then xappend P nro t (α.eval γ s) (α.eval γ x) H else xapp2 P nro t u (α.eval γ s) (α.eval γ x) H
    | .builtin .copy,[d,x],[t,_]=>xcopy P nro t (α.eval γ d) (α.eval γ x) H
    | _,_,_=>none)
  | .makeMap t r=>xmakeMap P t (r.map (α.eval γ)) H
  | .mapUpdate t x k v=>xmapUpd P nro t (α.eval γ x) (α.eval γ k) (α.eval γ v) H
  | .mapEntry t x k=>xmapEnt P nro t (α.eval γ x) (α.eval γ k) H
  | .entryStore _ x s v=>xentSt nro (α.eval γ x) (α.eval γ s) (α.eval γ v) H
  | _=>none
def xnil(P:Program)(op:BinOp)(t:TypeId)(x y:Value):Option Value:=
  match op,und P t,x,y with
  | .eql,.pointer _,.pointer a,.pointer none=>some (.bool a.isNone)
  | .eql,.pointer _,.pointer none,.pointer b=>some (.bool b.isNone)
  | .eql,.slice _,.slice a _ _,.slice none _ _=>some (.bool a.isNone)
  | .eql,.slice _,.slice none _ _,.slice b _ _=>some (.bool b.isNone)
  | .neq,.pointer _,.pointer a,.pointer none=>some (.bool (!a.isNone))
  | .neq,.pointer _,.pointer none,.pointer b=>some (.bool (!b.isNone))
  | .neq,.slice _,.slice a _ _,.slice none _ _=>some (.bool (!a.isNone))
  | .neq,.slice _,.slice none _ _,.slice b _ _=>some (.bool (!b.isNone))
  | .eql,.func _ _ _,.func (.func _) _ _,.nilFunc=>some (.bool false)
  | .neq,.func _ _ _,.func (.func _) _ _,.nilFunc=>some (.bool true)
  | _,_,_,_=>none
def ifcOk:TypeDesc→Bool
  | .interface _ | .invalid=>false
  | _=>true
def xmeth(P:Program)(t:TypeId)(name:String):Option (FuncId×Option Nat):=
  match P.info? t with
  | none=>none
  | some i=>match i.methods.find? (·.name==name) with
    | none=>none
    | some m=>match m.path.toList,m.func with
      | [],some (f,p)=>(match und P t,p with
        | .invalid,_=>none
        | .pointer _,true=>some (f,none)
        | .pointer _,false=>none
        | _,true=>none
        | _,false=>some (f,none))
      | [s],some (f,true)=>if s.deref then none else (match und P s.struct with
        | .struct fs=>(match fs[s.index]? with
          | some fd=>(match und P fd.type with | .pointer _=>some (f,some fd.offset) | _=>none)
          | none=>none)
        | _=>none)
      | _,_=>none
def xrecv(P:Program)(t:TypeId)(name:String)(v:Value):Option Value:=
  match xmeth P t name with
  | some (_,none)=>if notTuple v=true then some v else none
  | some (_,some off)=>(match v with | .agg cs=>cs[off]? | _=>none)
  | none=>none
def oneV:Value→Bool
  | .agg _ | .tuple _=>false
  | _=>true
def xread(P:Program)(γ:Nat→Option Nat)(op:Op)(α:Fm)(H:AH):Option Value:=
  match op with
  | .move x=>some (α.eval γ x)
  | .assign x=>some (α.eval γ x)
  | .pick c a b=>(match α.eval γ c with | .bool t=>some (if t then α.eval γ a else α.eval γ b) | _=>none)
  | .binOp op t x y _=>(match xeqA P op t (α.eval γ x) (α.eval γ y) with | some v=>some v | none=>(match xbin P op t (α.eval γ x) (α.eval γ y) with | some v=>some v | none=>xnil P op t (α.eval γ x) (α.eval γ y)))
  | .unOp op _ x=>xun op (α.eval γ x)
  | .convert s d x=>xconv P s d (α.eval γ x) H
  | .load t x=>xload P t (α.eval γ x) H
  | .fieldAddr t x f=>xfieldAddr P t (α.eval γ x) f
  | .field t x f=>xfield P t (α.eval γ x) f
  | .indexAddr t x i=>xindexAddr P t (α.eval γ x) (α.eval γ i)
  | .index t x i=>xindex P t (α.eval γ x) (α.eval γ i)
  | .slice t x lo hi none=>xslice P t (α.eval γ x) (lo.map (α.eval γ)) (hi.map (α.eval γ)) H
  | .extract x i=>(match α.eval γ x with | .tuple vs=>vs[i]? | _=>none)
  | .lookup t x i ok=>xlookup P t (α.eval γ x) (α.eval γ i) ok H
  | .nilCheck x=>(match α.eval γ x with
    | .pointer (some a)=>some (.pointer (some a))
    | .iface t v=>some (.iface t v)
    | .func (.method nm) fs cs=>(match fs.toList with
      | [.iface t v]=>(match xmeth P t nm,xrecv P t nm v with
        | some _,some _=>some (.func (.method nm) fs cs)
        | _,_=>none)
      | _=>none)
    | _=>none)
  | .build t ps=>xbuild P t (ps.toList.map fun p=>(p.1,α.eval γ p.2))
  | .makeInterface t x=>if ifcOk (und P t)=true∧notTuple (α.eval γ x)=true then some (.iface t (α.eval γ x)) else none
  | .sliceToArrayPointer t x=>(match und P t,α.eval γ x with
    | .array n _,.slice (some ⟨i,off,none⟩) len _=>if n≤len then some (.pointer (some ⟨i,off,none⟩)) else none
    | _,_=>none)
  | .makeFunc (.func f) fs cs=>if ((fs.toList.all fun o=>oneV (α.eval γ o))&&(cs.toList.all fun o=>oneV (α.eval γ o)))=true then some (.func (.func f) (fs.map (α.eval γ)) (cs.map (α.eval γ))) else none
  | .makeFunc (.method nm) fs cs=>if ((fs.toList.all fun o=>oneV (α.eval γ o))&&(cs.toList.all fun o=>oneV (α.eval γ o)))=true then some (.func (.method nm) (fs.map (α.eval γ)) (cs.map (α.eval γ))) else none
  | .call c=>(match c.callee,c.args.toList,c.argTypes.toList with
    | .builtin .len,[x],[t]=>xlen P t (α.eval γ x)
    | .builtin .min,[x,y],_=>xmin (α.eval γ x) (α.eval γ y)
    | .builtin .max,[x,y],_=>xmax (α.eval γ x) (α.eval γ y)
    | .builtin .cap,[x],[t]=>xcap P t (α.eval γ x)
    | _,_,_=>none)
  | _=>none
section
variable {P:Program} {nro n base:Nat} {γ:Nat→Option Nat} {m:List Ent} {H:AH} {α:Fm} {a:Act} {w:World}
theorem xint_plain{op:BinOp}{k:IntKind}{a b:Int}{v:Value}(h:xint op k a b=some v):plainV v=true:=by
  cases op <;> simp only [xint]at h <;> first | (cases h;done) | (cases h;rfl) | (split at h <;> cases h;rfl)
theorem xstr_plain{op:BinOp}{a b:ByteArray}{v:Value}(h:xstr op a b=some v):plainV v=true:=by
  cases op <;> simp only [xstr]at h <;> first | (cases h;done) | (cases h;rfl) | (split at h <;> cases h;rfl)
theorem xbin_plain{op:BinOp}{t:TypeId}{x y v:Value}(h:xbin P op t x y=some v):plainV v=true:=by
  unfold xbin at h
  split at h
  · split at h <;> cases h;rfl
  · split at h <;> cases h;rfl
  · split at h
    · exact xint_plain h
    · cases h
  · exact xstr_plain h
  · split at h <;> cases h;rfl
  · split at h <;> cases h;rfl
  · cases h
theorem V.pnil{o:Option Addr}{y:Value}(h:V m (.pointer o) y):∃o',y=.pointer o'∧o'.isNone=o.isNone:=by
  cases h with
  | two h=>
    cases h with
    | one h=>
      cases h with
      | plain h=>exact⟨_,rfl,rfl⟩
      | ptr h=>exact⟨_,rfl,rfl⟩
theorem V.snil{o:Option Addr}{l c:Nat}{y:Value}(h:V m (.slice o l c) y):∃o' l' c',y=.slice o' l' c'∧o'.isNone=o.isNone:=by
  cases h with
  | two h=>
    cases h with
    | one h=>
      cases h with
      | plain h=>exact⟨_,_,_,rfl,rfl⟩
      | sl h1 h2 h3=>exact⟨_,_,_,rfl,rfl⟩
      | slv h1 h2=>exact⟨_,_,_,rfl,rfl⟩
      | slx h1 h2=>exact⟨_,_,_,rfl,rfl⟩
      | sl0=>exact⟨_,_,_,rfl,rfl⟩
theorem run_equal_ptr{t e:TypeId}(hu:P.underlying t=some (.pointer e))(a b:Option Addr)(hab:a=none∨b=none)(w:World):(Op.equal t (.pointer a) (.pointer b)).run P w=.ok (a.isNone&&b.isNone) w:=by
  show (Op.equalIn (9999+1) t (.pointer a) (.pointer b)).run P w=_
  unfold Op.equalIn
  rw [Sem.run_bind,run_underlying hu]
  rcases hab with rfl | rfl
  · simp
  · cases a <;> simp
theorem run_equal_sl{t e:TypeId}(hu:P.underlying t=some (.slice e))(a b:Option Addr)(l c l' c':Nat)(hab:a=none∨b=none)(w:World):(Op.equal t (.slice a l c) (.slice b l' c')).run P w=.ok (a.isNone&&b.isNone) w:=by
  show (Op.equalIn (9999+1) t (.slice a l c) (.slice b l' c')).run P w=_
  unfold Op.equalIn
  rw [Sem.run_bind,run_underlying hu]
  rcases hab with rfl | rfl
  · simp
  · cases a <;> simp
theorem guard_ptr(op:BinOp)(t:TypeId)(ox oy:Operand)(a b:Option Addr)(w:World):(eqGuard op t ox oy (.pointer a) (.pointer b)).run P w=.ok () w:=by
  cases op <;> simp [eqGuard]
theorem guard_sl(op:BinOp)(t:TypeId)(ox oy:Operand)(a b:Option Addr)(l c l' c':Nat)(w:World):(eqGuard op t ox oy (.slice a l c) (.slice b l' c')).run P w=.ok () w:=by
  cases op <;> simp [eqGuard]
theorem V.fsh{f:FuncId}{cs es:Array Value}{y:Value}(h:V m (.func (.func f) cs es) y):∃ds fs,y=.func (.func f) ds fs:=by
  cases h with
  | two h=>
    cases h with
    | one h=>
      cases h with
      | plain h=>exact⟨_,_,rfl⟩
      | clo h1 h2 h3 h4=>exact⟨_,_,rfl⟩
theorem V.if_{t:TypeId}{v y:Value}(h:V m (.iface t v) y):∃v',y=.iface t v'∧V2 m v v':=by
  cases h with
  | two h=>cases h with
    | one h=>cases h with
      | plain h=>cases h
      | ifc h=>exact⟨_,rfl,.one h⟩
      | ifa h1 h3=>exact⟨_,rfl,.agg h1 fun i x hx=>by
          have hlt:=(asI.1 hx).1
          exact⟨_,Array.getElem?_eq_getElem (by omega),h3 i x _ hx (Array.getElem?_eq_getElem (by omega))⟩⟩
theorem V.meth_{nm:String}{t:TypeId}{v y:Value}{fs cs:Array Value}(h:V m (.func (.method nm) fs cs) y)(hfs:fs.toList=[.iface t v]):∃ds gs v',y=.func (.method nm) ds gs∧ds=#[.iface t v']∧V2 m v v':=by
  cases h with
  | two h=>cases h with
    | one h=>cases h with
      | plain h=>cases h
      | @clo _ _ ds _ gs h1 h2 h3 h4=>
        have hsz:fs.size=1:=by rw [←Array.length_toList,hfs];rfl
        have h0:fs[0]?=some (.iface t v):=by rw [←Array.getElem?_toList,hfs];rfl
        have hlt:0<ds.size:=by omega
        have hd:ds[0]?=some ds[0]:=Array.getElem?_eq_getElem hlt
        have hv:=h3 0 _ _ h0 hd
        obtain⟨v',e,hv2⟩:=V.if_ (.two (.one hv))
        refine⟨ds,gs,v',rfl,?_,hv2⟩
        apply Array.ext
        · simp;omega
        · intro i h1 h2
          have:i=0:=by simp at h2;omega
          subst this
          simpa using e
theorem ahead_run{t:TypeId}{name:String}{v v' u:Value}{fo:FuncId×Option Nat}(hm:xmeth P t name=some fo)(hr:xrecv P t name v=some u)(hv:V2 m v v')(k:Nat)(w:World) :
    (nilAhead (k+1) t v' name).run P w=.ok (some false) w:=by
  unfold xrecv at hr
  rw [hm]at hr
  unfold xmeth at hm
  split at hm
  · cases hm
  rename_i i hi
  split at hm
  · cases hm
  rename_i mm hf
  split at hm
  · rename_i f' p hp hfn
    cases p with
    | true=>
      unfold nilAhead
      simp [typeInfo,hi,hf,hp,hfn,followBlind]
    | false=>
      cases hu:und P t <;> rw [hu]at hm <;> cases hm
      all_goals
        unfold nilAhead
        simp [typeInfo,hi,hf,hp,hfn,followBlind,run_underlying (und_some hu (by simp))]
  · rename_i s f' hp hfn
    split at hm
    · cases hm
    rename_i hd
    split at hm
    case h_2=>cases hm
    rename_i fs hu
    split at hm
    case h_2=>cases hm
    rename_i fd hfd
    split at hm
    case h_2=>cases hm
    rename_i e hue
    cases hm
    simp only at hr
    split at hr
    case h_2=>cases hr
    rename_i cs
    have hxp:xpart P fd.type cs fd.offset=some u:=by
      unfold xpart
      rw [hue]
      simpa [isAggD,okD] using hr
    obtain⟨ds,hy,hs,hvv⟩:∃ds:Array Value,v'=.agg ds∧ds.size=cs.size∧∀ (i:Nat) (x:Value),cs[i]?=some x→∃y,ds[i]?=some y∧V1 m x y:=by
      cases hv with
      | one h=>cases h with | plain h=>cases h
      | agg hs h=>exact⟨_,rfl,hs,h⟩
    subst hy
    obtain⟨u',h1,h2⟩:=xpart_run hs hvv hxp
    have hdf:s.deref=false:=by simpa using hd
    unfold nilAhead
    simp [typeInfo,hi,hf,hp,hfn,followBlind,hdf,run_underlying (und_some hu (by simp)),hfd,h2]
  · cases hm
theorem V.nilF{y:Value}(h:V m .nilFunc y):y=.nilFunc:=by
  cases h with
  | two h=>
    cases h with
    | one h=>
      cases h with
      | plain h=>rfl
theorem run_equal_fn{t:TypeId}{ps rs:Array TypeId}{vr:Bool}(hu:P.underlying t=some (.func ps rs vr))(f:FuncId)(ds fs:Array Value)(w:World):(Op.equal t (.func (.func f) ds fs) .nilFunc).run P w=.ok false w:=by
  show (Op.equalIn (9999+1) t (.func (.func f) ds fs) .nilFunc).run P w=_
  unfold Op.equalIn
  rw [Sem.run_bind,run_underlying hu]
  simp
theorem guard_fn(op:BinOp)(t:TypeId)(ox oy:Operand)(f:FuncId)(ds fs:Array Value)(w:World):(eqGuard op t ox oy (.func (.func f) ds fs) .nilFunc).run P w=.ok () w:=by
  cases op <;> simp [eqGuard]
theorem isNone_none{o:Option Addr}(h:o.isNone=true):o=none:=by cases o;rfl;cases h
theorem xnil_run{op:BinOp}{t:TypeId}{x y x' y' v:Value}(hx:V m x x')(hy:V m y y')(h:xnil P op t x y=some v)(ox oy:Operand)(w:World) :
    (do eqGuard op t ox oy x' y';binOp op t x' y':Sem Value).run P w=.ok v w∧plainV v=true:=by
  unfold xnil at h
  split at h <;> (try (cases h;done))
  case h_9 hu=>
    cases h
    obtain⟨ds,fs,rfl⟩:=hx.fsh
    obtain rfl:=hy.nilF
    refine⟨?_,rfl⟩
    rw [Sem.run_bind,guard_fn]
    simp [binOp,run_equal_fn (und_some hu (by simp)) _ ds fs w]
  case h_10 hu=>
    cases h
    obtain⟨ds,fs,rfl⟩:=hx.fsh
    obtain rfl:=hy.nilF
    refine⟨?_,rfl⟩
    rw [Sem.run_bind,guard_fn]
    simp [binOp,run_equal_fn (und_some hu (by simp)) _ ds fs w]
  all_goals (rename_i e a b hu;cases h)
  all_goals first
    | (obtain⟨a',rfl,ha⟩:=hx.pnil
       obtain⟨b',rfl,hb⟩:=hy.pnil
       refine⟨?_,rfl⟩
       rw [Sem.run_bind,guard_ptr]
       first
         | (have hn:=isNone_none (hb.trans rfl)
            subst hn
            simp [binOp,run_equal_ptr (und_some hu (by simp)) a' none (.inr rfl) w,ha])
         | (have hn:=isNone_none (ha.trans rfl)
            subst hn
            simp [binOp,run_equal_ptr (und_some hu (by simp)) none b' (.inl rfl) w,hb]))
    | (obtain⟨a',l1,c1,rfl,ha⟩:=hx.snil
       obtain⟨b',l2,c2,rfl,hb⟩:=hy.snil
       refine⟨?_,rfl⟩
       rw [Sem.run_bind,guard_sl]
       first
         | (have hn:=isNone_none (hb.trans rfl)
            subst hn
            simp [binOp,run_equal_sl (und_some hu (by simp)) a' none l1 c1 l2 c2 (.inr rfl) w,ha])
         | (have hn:=isNone_none (ha.trans rfl)
            subst hn
            simp [binOp,run_equal_sl (und_some hu (by simp)) none b' l1 c1 l2 c2 (.inl rfl) w,hb]))
theorem run_v{S:Sem Value}{x:Value}{w':World}(h:S.run P w'=.ok x w'):(do pure (.value (←S)):Sem Next).run P w'=.ok (.value x) w':=by
  simp [h]
theorem V.v1{x y:Value}(h:V m x y)(ho:oneV x=true):V1 m x y:=by
  cases h with
  | two h=>
    cases h with
    | one h=>exact h
    | agg _ _=>cases ho
  | tup _ _=>cases ho
theorem v1_map{os:Array Operand}{α:Fm}{a:Act}(ev:∀x∈os,V m (α.eval γ x) (a.eval x))(h:(os.toList.all fun o=>oneV (α.eval γ o))=true) :
    (os.map a.eval).size=(os.map (α.eval γ)).size∧∀ (i:Nat) (x y:Value),(os.map (α.eval γ))[i]?=some x→(os.map a.eval)[i]?=some y→V1 m x y:=by
  refine⟨by simp,fun i x y hx hy=>?_⟩
  rw [Array.getElem?_map]at hx hy
  cases hq:os[i]? with
  | none=>rw [hq]at hx;cases hx
  | some q=>
    rw [hq]at hx hy
    cases hx
    cases hy
    have hm:q∈os:=Array.mem_of_getElem? hq
    exact (ev q hm).v1 (alT.1 h q (by simpa using hm))
theorem iface_v1{t:TypeId}{x y:Value}(h:V2 m x y):V1 m (.iface t x) (.iface t y):=by
  cases h with
  | one h=>exact .ifc h
  | agg hs h=>
    refine .ifa hs fun i x y hx hy=>?_
    obtain⟨z,hz,hv⟩:=h i x hx
    rw [hy]at hz
    cases hz
    exact hv
theorem xread_ev{o:Oper}{v:Value}(hR:Rel nro base γ m H w)(ev:∀x∈o.op.operands,V m (α.eval γ x) (a.eval x))(h:xread P γ o.op α H=some v) :
    ∃v',V m v v'∧∀w',Below w.heap.size w w'→(execOp a.eval o).run P w'=.ok (.value v') w':=by
  obtain⟨dst,op,type,pos,after,guard⟩:=o
  simp only at ev h
  unfold xread at h
  split at h
  · rename_i x
    cases h
    exact⟨_,ev x (by simp [Op.operands]),fun w' _=>by simp [execOp]⟩
  · rename_i x
    cases h
    exact⟨_,ev x (by simp [Op.operands]),fun w' _=>by simp [execOp]⟩
  · rename_i c x y
    split at h
    case h_2=>cases h
    rename_i t ht
    cases h
    have hc:=ev c (by simp [Op.operands])
    rw [ht]at hc
    have hc:=hc.eq rfl
    refine⟨if t then a.eval x else a.eval y,?_,fun w' _=>?_⟩
    · cases t
      · exact ev y (by simp [Op.operands])
      · exact ev x (by simp [Op.operands])
    · cases t <;> simp [execOp,hc,asBool]
  · rename_i op t x y _
    have hx:=ev x (by simp [Op.operands])
    have hy:=ev y (by simp [Op.operands])
    split at h
    · rename_i v' hq
      cases h
      obtain⟨_,p1,p2,p3⟩:=xeqA_run hq x y w
      rw [←hx.eq p1,←hy.eq p2]at hq
      exact⟨v,plainV_mk p3,fun w' _=>run_v (xeqA_run hq x y w').1⟩
    split at h
    case h_2=>exact⟨v,plainV_mk (xnil_run hx hy h x y w).2,fun w' _=>run_v (xnil_run hx hy h x y w').1⟩
    rename_i v1 hq1
    cases h
    have h:=hq1
    clear hq1
    have hp:plainV (α.eval γ x)=true∧plainV (α.eval γ y)=true:=by
      unfold xbin at h
      split at h <;> first | (cases h;done) | (rename_i e1 e2;rw [e1,e2];exact⟨rfl,rfl⟩) | (constructor <;> simp [*,plainV,plain2,plain1])
    have hpl:=xbin_plain h
    rw [←hx.eq hp.1,←hy.eq hp.2]at h
    exact⟨v,plainV_mk hpl,fun w' _=>run_v (xbin_run h x y w')⟩
  · rename_i op t x
    have hx:=ev x (by simp [Op.operands])
    have hp:plainV (α.eval γ x)=true∧plainV v=true:=by
      unfold xun at h
      split at h <;> cases h <;> (constructor <;> simp [*,plainV,plain2,plain1])
    rw [←hx.eq hp.1]at h
    exact⟨v,plainV_mk hp.2,fun w' _=>run_v (xun_run h w')⟩
  · rename_i s d x
    obtain⟨v',h1,h2⟩:=xconv_run hR (ev x (by simp [Op.operands])) h
    exact⟨v',h1,fun w' hb=>run_v (h2 w' hb)⟩
  · rename_i t x
    obtain⟨v',h1,h2⟩:=xload_run hR (ev x (by simp [Op.operands])) h
    exact⟨v',h1,fun w' hb=>run_v (h2 w' hb)⟩
  · rename_i t x f
    obtain⟨v',h1,h2⟩:=xfieldAddr_run (ev x (by simp [Op.operands])) h
    exact⟨v',h1,fun w' hb=>run_v (h2 w')⟩
  · rename_i t x f
    obtain⟨v',h1,h2⟩:=xfield_run (ev x (by simp [Op.operands])) h
    exact⟨v',h1,fun w' hb=>run_v (h2 w')⟩
  · rename_i t x i
    obtain⟨v',h1,h2⟩:=xindexAddr_run (ev x (by simp [Op.operands])) (ev i (by simp [Op.operands])) h
    exact⟨v',h1,fun w' hb=>run_v (h2 w')⟩
  · rename_i t x i
    obtain⟨v',h1,h2⟩:=xindex_run (ev x (by simp [Op.operands])) (ev i (by simp [Op.operands])) h
    exact⟨v',h1,fun w' hb=>run_v (h2 w')⟩
  · rename_i t x lo hi
    obtain⟨v',h1,h2⟩:=xslice_run hR (ev x (by simp [Op.operands])) (fun y hy=>ev y (by subst hy;simp [Op.operands])) (fun y hy=>ev y (by subst hy;simp [Op.operands])) h
    exact⟨v',h1,fun w' hb=>run_v (h2 w')⟩
  · rename_i x i
    split at h
    case h_2=>cases h
    rename_i vs hvs
    have hx:=ev x (by simp [Op.operands])
    rw [hvs]at hx
    obtain⟨ds,he,hs,hv⟩:=hx.tup_
    obtain⟨y,hy,hyv⟩:=hv _ _ h
    refine⟨y,.two hyv,fun w' hb=>run_v ?_⟩
    simp [he,Instr.extract,hy]
  · rename_i t x i ok
    obtain⟨v',h1,h2⟩:=xlookup_run hR (ev x (by simp [Op.operands])) (ev i (by simp [Op.operands])) h
    exact⟨v',h1,fun w' hb=>run_v (h2 w' hb)⟩
  · rename_i x
    have hx:=ev x (by simp [Op.operands])
    split at h
    case h_4=>cases h
    case h_2=>
      rename_i t v hvs
      cases h
      rw [hvs]at hx
      refine⟨a.eval x,hx,fun w' hb=>?_⟩
      obtain⟨v',hp,_⟩:=hx.if_
      simp [execOp,hp]
    case h_3=>
      rename_i nm fs cs hvs
      split at h
      case h_2=>cases h
      rename_i t v hfs
      split at h
      case h_2=>cases h
      rename_i fo u hm hu
      cases h
      rw [hvs]at hx
      refine⟨a.eval x,hx,fun w' hb=>?_⟩
      obtain⟨ds,gs,v',hp,hds,hv2⟩:=hx.meth_ hfs
      have h2:=ahead_run (P:=P) hm hu hv2 (P.types.size+Made.depth-1) w'
      have hfuel:P.types.size+Made.depth-1+1=P.types.size+Made.depth:=by
        have:Made.depth=100:=rfl
        omega
      rw [hfuel]at h2
      simp [execOp,hp,hds,h2]
    rename_i ad hvs
    cases h
    rw [hvs]at hx
    refine⟨a.eval x,hx,fun w' hb=>?_⟩
    have hp:∃ad',a.eval x=.pointer (some ad'):=by
      generalize a.eval x=z at hx
      cases hx with
      | two h=>cases h with
        | one h=>cases h with
          | plain h=>cases h
          | ptr h=>exact⟨_,rfl⟩
    obtain⟨ad',hp⟩:=hp
    simp [execOp,hp]
  · rename_i t ps
    obtain⟨v',h1,h2⟩:=xbuild_run (m:=m) (parts':=ps.toList.map fun p=>(p.1,a.eval p.2)) (by simp) (fun j p hj=>by
      rw [gmP]at hj ⊢
      cases hq:ps.toList[j]? with
      | none=>rw [hq]at hj;cases hj
      | some q=>
        rw [hq]at hj
        cases hj
        refine⟨_,rfl,rfl,ev q.2 ?_⟩
        simp only [Op.operands,List.mem_toArray,List.mem_map]
        exact⟨q,moG hq,rfl⟩) h
    refine⟨v',h1,fun w' hb=>run_v ?_⟩
    have:=h2 w'
    rw [←this]
    congr 2
    apply Array.toList_inj.1
    simp
  · rename_i t x
    have hx:=ev x (by simp [Op.operands])
    split at h
    case isFalse=>cases h
    rename_i hc
    obtain⟨hc,hn⟩:=hc
    cases h
    have hne:und P t≠.invalid:=by intro e;rw [e]at hc;cases hc
    have hni:∀l,und P t≠.interface l:=by intro l e;rw [e]at hc;cases hc
    have h2:=hx.v2 hn
    refine⟨.iface t (a.eval x),.one (iface_v1 h2),fun w' _=>run_v ?_⟩
    have hu:=und_some (P:=P) (t:=t) rfl hne
    unfold Instr.makeInterface
    rw [Sem.run_bind,run_underlying hu,Result.andThen_ok]
    split
    · rename_i l e;exact absurd e (hni l)
    · rfl
  · rename_i t x
    split at h
    case h_2=>cases h
    rename_i k e i off len c hu hxv
    split at h
    case isFalse=>cases h
    rename_i hl
    cases h
    have hx:=ev x (by simp [Op.operands])
    rw [hxv]at hx
    obtain⟨en,c',he,_,hy,_⟩:=hx.slw_
    refine⟨_,.one (.ptr he),fun w' _=>run_v ?_⟩
    rw [hy]
    have hlt:¬ len<k:=by omega
    simp [Instr.arrayAt,run_underlying (und_some hu (by simp)),hlt]
  · rename_i f fs cs
    split at h
    case isFalse=>cases h
    rename_i hc
    cases h
    rw [Bool.and_eq_true]at hc
    have e1:=v1_map (γ:=γ) (α:=α) (a:=a) (os:=fs) (fun x hx=>ev x (by simp [Op.operands,hx])) hc.1
    have e2:=v1_map (γ:=γ) (α:=α) (a:=a) (os:=cs) (fun x hx=>ev x (by simp [Op.operands,hx])) hc.2
    exact⟨_,.one (.clo e1.1 e2.1 e1.2 e2.2),fun w' _=>by simp [execOp,Instr.makeFunc]⟩
  · rename_i f fs cs
    split at h
    case isFalse=>cases h
    rename_i hc
    cases h
    rw [Bool.and_eq_true]at hc
    have e1:=v1_map (γ:=γ) (α:=α) (a:=a) (os:=fs) (fun x hx=>ev x (by simp [Op.operands,hx])) hc.1
    have e2:=v1_map (γ:=γ) (α:=α) (a:=a) (os:=cs) (fun x hx=>ev x (by simp [Op.operands,hx])) hc.2
    exact⟨_,.one (.clo e1.1 e2.1 e1.2 e2.2),fun w' _=>by simp [execOp,Instr.makeFunc]⟩
  · rename_i c
    obtain⟨callee,args,argTypes⟩:=c
    obtain⟨args⟩:=args
    obtain⟨argTypes⟩:=argTypes
    simp only at h
    split at h
    · rename_i x t
      obtain⟨v',h1,h2⟩:=xlen_run (ty:=type) (ev x (by simp [Op.operands,Call.operands])) h
      refine⟨v',h1,fun w' hb=>?_⟩
      simp [execOp,resolve,invoke,builtin,h2]
    · rename_i x y
      have hx:=ev x (by simp [Op.operands,Call.operands])
      have hy:=ev y (by simp [Op.operands,Call.operands])
      unfold xmin at h
      split at h
      case h_2=>cases h
      rename_i k1 v1 k2 v2 e1 e2
      cases h
      rw [e1]at hx
      rw [e2]at hy
      refine⟨_,plainV_mk rfl,fun w' hb=>?_⟩
      simp [execOp,resolve,invoke,builtin,Builtin.min_,Builtin.min2,hx.int_,hy.int_]
    · rename_i x y
      have hx:=ev x (by simp [Op.operands,Call.operands])
      have hy:=ev y (by simp [Op.operands,Call.operands])
      unfold xmax at h
      split at h
      case h_2=>cases h
      rename_i k1 v1 k2 v2 e1 e2
      cases h
      rw [e1]at hx
      rw [e2]at hy
      refine⟨_,plainV_mk rfl,fun w' hb=>?_⟩
      simp [execOp,resolve,invoke,builtin,Builtin.max_,Builtin.max2,hx.int_,hy.int_]
    · rename_i x t
      have hx:=ev x (by simp [Op.operands,Call.operands])
      unfold xcap at h
      split at h
      case h_3=>cases h
      case h_2=>
        rename_i e i c len d hu e1
        cases h
        rw [e1]at hx
        obtain⟨en,he,hcc,hy⟩:=hx.slx_
        refine⟨_,plainV_mk rfl,fun w' hb=>?_⟩
        simp [execOp,resolve,invoke,builtin,Builtin.cap_,run_underlying (und_some hu (by simp)),hy,goInt]
      rename_i e hu e1
      cases h
      rw [e1]at hx
      have:=hx.eq rfl
      refine⟨_,plainV_mk rfl,fun w' hb=>?_⟩
      simp [execOp,resolve,invoke,builtin,Builtin.cap_,run_underlying (und_some hu (by simp)),this,goInt]
    · cases h
  · cases h
theorem xread_aq{o:Oper}{v:Value}(hok:o.op.operands.all (okOpd n γ)=true)(h:xread P γ o.op α H=some v):AQ P nro n γ o α H v:=
  fun m base w a hR hF=>xread_ev hR (fun x hx=>hF.eval hR (by
    obtain⟨i,hi,rfl⟩:=Array.mem_iff_getElem.1 hx
    exact (Array.all_eq_true.1 hok) i hi)) h
end
end
section
section
variable {P:Program} {nro n base:Nat} {γ:Nat→Option Nat} {m:List Ent} {H:AH} {α:Fm} {a:Act} {w:World}
theorem app_one{β:Type}{l:List β}{x y:β}{i:Nat}(h:(l++[x])[i]?=some y):(i<l.length∧l[i]?=some y)∨(i=l.length∧y=x):=by
 rcases Nat.lt_or_ge i l.length with hi | hi
 ·left;rw [gaL hi]at h;exact⟨hi,h⟩
 ·right
  rw [gaR hi]at h
  have h0:i-l.length=0:=by
   rcases Nat.eq_zero_or_pos (i-l.length) with h0 | h0
   ·exact h0
   ·rw [List.getElem?_eq_none (by simp;omega)]at h;cases h
  rw [h0]at h
  cases h
  exact⟨by omega,rfl⟩
theorem pre_app(m:List Ent)(e:Ent):m <+: m++[e]:=List.prefix_append m [e]
theorem Rel.add(hR:Rel nro base γ m H w){w':World}(hsz:w.heap.size≤w'.heap.size)(hold:∀ (i:Nat) (k:Blk) (e:Ent),H[i]?=some (some k)→m[i]?=some e→w'.heap[e.b]?=w.heap[e.b]?)
  {b:Nat} {cs:Array Value} {ty:TypeId} {fr:Nat×Nat} {es:Option Nat} {cells:List Value} (hb:base≤b) (hnew:w'.heap[b]?=some (.cells cs ty fr))
  (hfr:∀o,o<cs.size→¬ (fr.1≤o∧o<fr.2)) (hfr0:es.isSome=true→fr=(0,0))
  (hap:∀ (i:Nat) (k:Blk) (e:Ent),nro≤i→H[i]?=some (some k)→m[i]?=some e→e.b≠b)
  (hc:∀ (j:Nat) (x:Value),cells[j]?=some x→∃y,cs[j]?=some y∧V1 (m++[⟨b,0,cs.size,es⟩]) x y) :
  Rel nro base γ (m++[⟨b,0,cs.size,es⟩]) (H++[some ⟨cells,ty,es⟩]) w':=by
 have hbs:b<w'.heap.size:=(asI.1 hnew).1
 have hpre:=pre_app m ⟨b,0,cs.size,es⟩
 refine⟨by simp [hR.len],by have:=hR.le;simp;omega,Nat.le_trans hR.base_le hsz,?_,?_,?_,?_,?_,?_,?_⟩
 ·intro i e he
  rcases app_one he with ⟨_,he⟩ | ⟨_,rfl⟩
  ·exact Nat.lt_of_lt_of_le (hR.inb i e he) hsz
  ·exact hbs
 ·intro i e hi he
  rcases app_one he with ⟨_,he⟩ | ⟨h0,rfl⟩
  ·exact hR.ro i e hi he
  ·have h1:=hR.le;have h2:=hR.len;omega
 ·intro i e hi he
  rcases app_one he with ⟨_,he⟩ | ⟨_,rfl⟩
  ·exact hR.own i e hi he
  ·exact⟨hb,rfl⟩
 ·intro i k e l hk hl he
  rcases app_one hk with ⟨hlt,hk⟩ | ⟨h0,hk⟩
  ·rw [gaL (by rw [hR.len];exact hlt)]at he
   obtain⟨h1,h2,h3,es0,cl,h4,h5⟩:=hR.maps i k e l hk hl he
   exact⟨h1,h2,h3,es0,cl,(hold i k e hk he).trans h4,h5.mono hpre⟩
  ·cases hk
   cases hl
 ·intro i k e hk hm he
  rcases app_one hk with ⟨hlt,hk⟩ | ⟨h0,hk⟩
  ·rw [gaL (by rw [hR.len];exact hlt)]at he
   obtain⟨cs0,fr0,h1,h2,h3,h4,h5⟩:=hR.cells i k e hk hm he
   exact⟨cs0,fr0,(hold i k e hk he).trans h1,h2,h3,h4,fun j x hx=>let ⟨y,p,q⟩:=h5 j x hx;⟨y,p,q.mono hpre⟩⟩
  ·cases hk
   rcases app_one he with ⟨hlt,he⟩ | ⟨_,rfl⟩
   ·have:=hR.len;omega
   ·exact⟨cs,fr,hnew,fun _=>rfl,rfl,fun _=>⟨hfr,hfr0⟩,fun j x hx=>let ⟨y,p,q⟩:=hc j x hx;⟨y,by simpa using p,q⟩⟩
 ·intro i j ki kj ei ej hi hj hne hki hkj hei hej
  rcases app_one hki with ⟨hil,hki⟩ | ⟨hi0,hki⟩
  ·rw [gaL (by rw [hR.len];exact hil)]at hei
   rcases app_one hkj with ⟨hjl,hkj⟩ | ⟨hj0,hkj⟩
   ·rw [gaL (by rw [hR.len];exact hjl)]at hej
    exact hR.apart i j ki kj ei ej hi hj hne hki hkj hei hej
   ·rcases app_one hej with ⟨hlt,hej⟩ | ⟨_,rfl⟩
    ·have:=hR.len;omega
    ·exact hap i ki ei hi hki hei
  ·rcases app_one hkj with ⟨hjl,hkj⟩ | ⟨hj0,hkj⟩
   ·rw [gaL (by rw [hR.len];exact hjl)]at hej
    rcases app_one hei with ⟨hlt,hei⟩ | ⟨_,rfl⟩
    ·have:=hR.len;omega
    ·exact fun h=>hap j kj ej hj hkj hej h.symm
   ·omega
 ·exact hR.globs (nlE _) (fun i e h=>pre_get hpre h) (fun i k hi hk=>by
   rcases app_one hk with ⟨_,hk⟩ | ⟨h0,_⟩
   ·exact hk
   ·have:=hR.le;omega) (fun i k e _ hk he=>hold i k e hk he)
theorem Rel.alloc(hR:Rel nro base γ m H w)(cs:Array Value)(ty:TypeId)(es:Option Nat){cells:List Value}(hc:Vs m cells cs.toList) :
  Rel nro base γ (m++[⟨w.heap.size,0,cs.size,es⟩]) (H++[some ⟨cells,ty,es⟩]) (w.alloc (.cells cs ty)):=by
 refine hR.add (by simp) (fun i k e hk he=>Below.heap_alloc _ _ _ (hR.inb i e he)) hR.base_le (heap_alloc_new w _) (fun o _ h=>by simp at h) (fun _=>rfl) (fun i k e _ _ he h=>?_) (fun j x hx=>?_)
 ·have:=hR.inb i e he;omega
 ·obtain⟨y,h1,h2⟩:=hc.2 j x hx
  exact⟨y,by simpa using h1,h2.mono (pre_app _ _)⟩
theorem Rel.kill(hR:Rel nro base γ m H w)(i:Nat):Rel nro base γ m (H.set i none) w:=by
 have hs:∀ (j:Nat) (k:Blk),(H.set i none)[j]?=some (some k)→H[j]?=some (some k)∧j≠i:=by
  intro j k h
  by_cases e:i=j
  ·subst e
   rcases Nat.lt_or_ge i H.length with hl | hl
   ·rw [List.getElem?_set_self hl]at h;cases h
   ·rw [List.getElem?_eq_none (by simpa using hl)]at h;cases h
  ·rw [List.getElem?_set_ne e]at h;exact⟨h,Ne.symm e⟩
 exact⟨by simp [hR.len],by simpa using hR.le,hR.base_le,hR.inb,hR.ro,hR.own,fun j k e l hk hl he=>hR.maps j k e l (hs j k hk).1 hl he,fun j k e hk hm he=>hR.cells j k e (hs j k hk).1 hm he,
  fun i' j ki kj ei ej hi hj hne hki hkj hei hej=>hR.apart i' j ki kj ei ej hi hj hne (hs _ _ hki).1 (hs _ _ hkj).1 hei hej,
  hR.globs (nlE _) (fun _ _ h=>h) (fun i k _ h=>(hs i k h).1) (fun _ _ _ _ _ _=>rfl)⟩
theorem Rel.write(hR:Rel nro base γ m H w){i:Nat}{k:Blk}{e:Ent}(hi:nro≤i)(hk:H[i]?=some (some k))(hkm:k.ents=none)(he:m[i]?=some e){w':World}(hsz:w'.heap.size=w.heap.size)
  (hold:∀b,b≠e.b→w'.heap[b]?=w.heap[b]?) {cs:Array Value} {fr:Nat×Nat} (hnew:w'.heap[e.b]?=some (.cells cs k.ty fr)) (hcs:cs.size=e.sz)
  (hfr:∀o,o<cs.size→¬ (fr.1≤o∧o<fr.2)) (hfr0:k.es.isSome=true→fr=(0,0)) {cells:List Value} (hc:∀ (j:Nat) (x:Value),cells[j]?=some x→∃y,cs[j]?=some y∧V1 m x y) :
  Rel nro base γ m (H.set i (some ⟨cells,k.ty,k.es⟩)) w':=by
 have hil:i<H.length:=(gsI.1 hk).1
 have hown:=hR.own i e hi he
 have hs:∀ (j:Nat) (q:Blk),(H.set i (some ⟨cells,k.ty,k.es⟩))[j]?=some (some q)→(j=i∧q=⟨cells,k.ty,k.es⟩)∨(j≠i∧H[j]?=some (some q)):=by
  intro j q h
  by_cases ej:i=j
  ·subst ej
   rw [List.getElem?_set_self hil]at h
   cases h;exact .inl ⟨rfl,rfl⟩
  ·rw [List.getElem?_set_ne ej]at h;exact .inr ⟨Ne.symm ej,h⟩
 refine⟨by simp [hR.len],by simpa using hR.le,by rw [hsz];exact hR.base_le,fun j e' he'=>by rw [hsz];exact hR.inb j e' he',hR.ro,hR.own,?_,?_,?_,hR.globs (nlE _) (fun _ _ h=>h) (fun j q hj h=>(hs j q h).elim (fun h=>by have:=h.1;omega) (fun h=>h.2)) (fun j q e' hj _ he'=>hold _ (by have:=hR.ro j e' hj he';omega))⟩
 ·intro j q e' l hq hl he'
  rcases hs j q hq with ⟨rfl,rfl⟩ | ⟨hne,hq⟩
  ·cases hl
  ·obtain⟨h1,h2,h3,es0,cl,h4,h5⟩:=hR.maps j q e' l hq hl he'
   have hb:e'.b≠e.b:=by
    rcases Nat.lt_or_ge j nro with hj | hj
    ·have:=hR.ro j e' hj he';omega
    ·exact hR.apart j i q k e' e hj hi hne hq hk he' he
   exact⟨h1,h2,h3,es0,cl,(hold _ hb).trans h4,h5⟩
 ·intro j q e' hq hqm he'
  rcases hs j q hq with ⟨rfl,rfl⟩ | ⟨hne,hq⟩
  ·rw [he]at he'
   cases he'
   obtain⟨cs0,fr0,_,_,h3,_,_⟩:=hR.cells j k e hk hkm he
   exact⟨cs,fr,hnew,fun _=>hcs,h3,fun _=>⟨hfr,hfr0⟩,fun j x hx=>let ⟨y,p,q⟩:=hc j x hx;⟨y,by rw [hown.2];simpa using p,q⟩⟩
  ·obtain⟨cs0,fr0,h1,h2⟩:=hR.cells j q e' hq hqm he'
   have hb:e'.b≠e.b:=by
    rcases Nat.lt_or_ge j nro with hj | hj
    ·have:=hR.ro j e' hj he';omega
    ·exact hR.apart j i q k e' e hj hi hne hq hk he' he
   exact⟨cs0,fr0,(hold _ hb).trans h1,h2⟩
 ·intro j1 j2 k1 k2 e1 e2 h1 h2 hne hk1 hk2 he1 he2
  have h1':∃q,H[j1]?=some (some q):=by rcases hs j1 k1 hk1 with ⟨rfl,_⟩ | ⟨_,h⟩;exact⟨k,hk⟩;exact⟨_,h⟩
  have h2':∃q,H[j2]?=some (some q):=by rcases hs j2 k2 hk2 with ⟨rfl,_⟩ | ⟨_,h⟩;exact⟨k,hk⟩;exact⟨_,h⟩
  obtain⟨q1,hq1⟩:=h1'
  obtain⟨q2,hq2⟩:=h2'
  exact hR.apart j1 j2 q1 q2 e1 e2 h1 h2 hne hq1 hq2 he1 he2
theorem V1.oneCell{x y:Value}(h:V1 m x y):y.oneCell'=true:=by
 cases h with
 | plain h=>cases x <;> first | rfl | cases h
 | ptr _=>rfl
 | sl _ _ _=>rfl
 | slv _ _=>rfl
 | slx _ _=>rfl
 | mp _=>rfl
 | sl0=>rfl
 | clo _ _ _ _=>rfl
 | ifc _=>rfl
 | ifa _ _=>rfl
theorem Rel.noMap(hR:Rel nro base γ m H w){i:Nat}{k:Blk}{e:Ent}(hk:H[i]?=some (some k))(he:m[i]?=some e)(hc:0<k.cells.length):k.ents=none:=by
 cases hl:k.ents with
 | none=>rfl
 | some l=>
  have:=(hR.maps i k e l hk hl he).1
  rw [this]at hc
  cases hc
theorem Rel.noMapE(hR:Rel nro base γ m H w){i:Nat}{k:Blk}{e:Ent}(hk:H[i]?=some (some k))(he:m[i]?=some e){s:Nat}(hc:k.es=some s):k.ents=none:=by
 cases hl:k.ents with
 | none=>rfl
 | some l=>
  have:=(hR.maps i k e l hk hl he).2.1
  rw [this]at hc
  cases hc
theorem storeCells_rel{i:Nat}{e:Ent}(hi:nro≤i)(he:m[i]?=some e):∀ (xs ys:List Value) (off idx:Nat) (H:AH) (w:World) (k:Blk),Vs m xs ys→Rel nro base γ m H w→H[i]?=some (some k)→off+idx+xs.length≤k.cells.length →
  ∃w',(storeCells ⟨e.b,off,none⟩ ys idx).run P w=.ok () w'∧Rel nro base γ m (H.set i (some (k.with_ (setR k.cells (off+idx) xs)))) w'∧Below base w w':=by
 intro xs
 induction xs with
 | nil=>
  intro ys off idx H w k hv hR hk _
  have:ys=[]:=List.eq_nil_of_length_eq_zero hv.1
  subst this
  have e1:H.set i (some (k.with_ (setR k.cells (off+idx) [])))=H:=by
   rw [setR,with_self]
   obtain⟨h1,h2⟩:=gsI.1 hk
   have h3:=List.set_getElem_self h1
   rw [h2]at h3
   exact h3
  rw [e1]
  exact⟨w,rfl,hR,.refl _ _⟩
 | cons x xs ih=>
  intro ys off idx H w k hv hR hk hl
  cases ys with
  | nil=>have h0:=hv.1;cases h0
  | cons y ys=>
   simp only [List.length_cons]at hl
   obtain⟨y',hy',hxy⟩:=hv.2 0 x rfl
   cases hy'
   have hkm:=hR.noMap hk he (by omega)
   rw [with_eq hkm]
   obtain⟨cs,fr,h1,h2,h3,h4,h5⟩:=hR.cells i k e hk hkm he
   have ho:=hR.own i e hi he
   obtain⟨x0,hx0⟩:∃x0,k.cells[off+idx]?=some x0:=⟨_,geE (by omega)⟩
   obtain⟨z,hz,_⟩:=h5 _ _ hx0
   rw [ho.2,Nat.zero_add]at hz
   have hlt:off+idx<cs.size:=(asI.1 hz).1
   have hfz:w.frozen? ⟨e.b,off+idx,none⟩=false:=by
    have:=(h4 hi).1 (off+idx) hlt
    simp only [World.frozen?,h1]
    simp only [Bool.and_eq_false_iff,decide_eq_false_iff_not]
    omega
   have hst:(store ((⟨e.b,off,none⟩:Addr).add idx) y).run P w=.ok () (w.setCell ⟨e.b,off+idx,none⟩ y):=by
    rw [add_none,run_store P w _ y _ hxy.oneCell]
    have hcell:w.cell? ⟨e.b,off+idx,none⟩=some z:=by simp [World.cell?,h1,hz]
    rw [hcell]
    simp [hfz]
   have hh:(w.setCell ⟨e.b,off+idx,none⟩ y).heap[e.b]?=some (.cells (cs.setIfInBounds (off+idx) y) k.ty fr):=by
    rw [setCell_eq_setRow w e.b (off+idx) cs k.ty fr y h1]
    exact setRow_heap w e.b cs _ k.ty fr h1
   have hR1:Rel nro base γ m (H.set i (some ⟨k.cells.set (off+idx) x,k.ty,k.es⟩)) (w.setCell ⟨e.b,off+idx,none⟩ y):=by
    refine hR.write hi hk hkm he (by simp [World.setCell]) (fun b hb=>Below.heap_setCell _ _ _ _ hb) hh (by simp [h2 hi]) (by simpa using (h4 hi).1) (h4 hi).2 (fun j x' hx'=>?_)
    by_cases ej:off+idx=j
    ·subst ej
     rw [List.getElem?_set_self (by omega)]at hx'
     cases hx'
     exact⟨y,by simp [hlt],hxy⟩
    ·rw [List.getElem?_set_ne ej]at hx'
     obtain⟨y',p,q⟩:=h5 j x' hx'
     rw [ho.2,Nat.zero_add]at p
     exact⟨y',by rw [Array.getElem?_setIfInBounds,if_neg ej];exact p,q⟩
   have hil:i<H.length:=(gsI.1 hk).1
   obtain⟨w',hr,hR',hb'⟩:=ih ys off (idx+1) _ _ ⟨k.cells.set (off+idx) x,k.ty,k.es⟩ ⟨by simpa using hv.1,fun j x hj=>hv.2 (j+1) x (by simpa using hj)⟩ hR1 (List.getElem?_set_self hil) (by simp;omega)
   rw [with_lit]at hR'
   refine⟨w',?_,?_,(Below.setCell (.refl _ _) ho.1 y).trans hb'⟩
   ·simp only [storeCells,Sem.run_bind,hst,Result.andThen_ok]
    exact hr
   ·rw [List.set_set]at hR'
    rw [setR,show off+idx+1=off+(idx+1) by omega]
    exact hR'
theorem storeAt_run(hR:Rel nro base γ m H w){t:TypeId}{i off:Nat}{k:Blk}{p' x x':Value}(hp:V m (.pointer (some ⟨i,off,none⟩)) p')(hx:V m x x')(hi:nro≤i)(hk:hget H i=some k)(hn:notTuple x=true)
  (hs:x.cells.toList.length=szt P t) (h0:0<szt P t) (hl:off+szt P t≤k.cells.length) :
  ∃w',(Instr.storeAt t p' x').run P w=.ok () w'∧Rel nro base γ m (H.set i (some ⟨setR k.cells off x.cells.toList,k.ty,k.es⟩)) w'∧Below base w w':=by
 obtain⟨e,he,rfl⟩:=hp.ptr_
 have ho:=hR.own i e hi he
 obtain⟨hc,hsz⟩:=(hx.v2 hn).cells hn
 obtain⟨w',h1,h2,h3⟩:=storeCells_rel (P:=P) hi he x.cells.toList x'.cells.toList off 0 H w k hc hR (hget_some hk) (by omega)
 rw [with_eq (hR.noMap (hget_some hk) he (by omega))]at h2
 refine⟨w',?_,h2,h3⟩
 rw [ho.2,Nat.zero_add]
 have hss:x'.cells.size=szt P t:=by rw [hsz,←hs];simp
 simp [Instr.storeAt,Instr.sureAddr,storeVar,run_sizeOf h0,hss,h1]
theorem store0_run{t:TypeId}{i off:Nat}{p' x x':Value}(hp:V m (.pointer (some ⟨i,off,none⟩)) p')(hx:V m x x')(hn:notTuple x=true)(hs:x.cells.toList.length=0)(h0:szt P t=0)(ha:isAggD (und P t)=true) :
  (Instr.storeAt t p' x').run P w=.ok () w:=by
 obtain⟨e,he,rfl⟩:=hp.ptr_
 obtain⟨hc,hsz⟩:=(hx.v2 hn).cells hn
 have hz:x'.cells.size=0:=by rw [hsz];simpa using hs
 have hzl:x'.cells=#[]:=Array.eq_empty_of_size_eq_zero hz
 have hi:∃i,P.info? t=some i:=by
  cases h:P.info? t with
  | some i=>exact⟨i,rfl⟩
  | none=>
   have:und P t=.invalid:=by simp [und,Program.underlying,h]
   rw [this]at ha
   cases ha
 obtain⟨inf,hi⟩:=hi
 have hr:(sizeOf t).run P w=.ok 0 w:=by
  have:inf.size=0:=by simpa [szt,hi] using h0
  simp [sizeOf,typeInfo,hi,this]
 simp [Instr.storeAt,Instr.sureAddr,storeVar,hr,hzl,storeCells]
theorem run_zero{t:TypeId}{z:Value}(h:zer P t=some z)(w:World):(zeroValue t).run P w=.ok z w:=by
 unfold zer at h
 cases hi:P.info? t with
 | none=>rw [hi]at h;cases h
 | some it=>
  rw [hi]at h
  have h':it.zero=some z:=h
  simp [zeroValue,typeInfo,hi,h']
end
end
section
section
variable {P:Program} {nro n base:Nat} {γ:Nat→Option Nat} {m:List Ent} {H:AH} {α:Fm} {a:Act} {w:World}
theorem zeros_eq(z:Array Value)(N:Nat)(hz:0<z.size):((Array.range N).map (fun j=>z[j%z.size]!)).toList=(List.range N).map fun j=>z.toList.getD (j%z.size) undef:=by
 rw [Array.toList_map,Array.toList_range]
 apply List.map_congr_left
 intro j _
 have:j%z.size<z.size:=Nat.mod_lt _ hz
 simp [this]
theorem zeros_plain(z:List Value)(N k:Nat)(hk:0<k)(hl:z.length=k)(h:z.all plain1=true):((List.range N).map fun j=>z.getD (j%k) undef).all plain1=true:=by
 rw [List.all_map,alT]
 intro j _
 have:j%k<z.length:=by rw [hl];exact Nat.mod_lt _ hk
 simp only [Function.comp,gdD,geE this,Option.getD_some]
 exact alT.1 h _ (List.getElem_mem this)
theorem run_newRow(e:TypeId)(cs:Array Value)(w:World):(newRow e cs).run P w=.ok ⟨w.heap.size,0,none⟩ (w.alloc (.cells cs e)):=rfl
theorem buildSlice_run(hR:Rel nro base γ m H w){t e:TypeId}{len:Nat}{parts parts':List (Nat×Value)}{z:Value}{cs:List Value}(hu:und P t=.slice e)(hz:zer P e=some z)
  (h0:0<szt P e) (hzs:z.cells.size=szt P e) (hp:z.cells.toList.all plain1=true) (hlen:len*szt P e≤16777216) (hn:(parts.all fun p=>notTuple p.2)=true)
  (hl:parts'.length=parts.length) (hpp:∀ (j:Nat) (p:Nat×Value),parts[j]?=some p→∃p':Nat×Value,parts'[j]?=some p'∧p'.1=p.1∧V m p.2 p'.2)
  (h:xfill (fun i=>some (i*szt P e,szt P e)) ((List.range (len*szt P e)).map fun j=>z.cells.toList.getD (j%szt P e) undef) parts=some cs) :
  ∃m' v' w',(Instr.buildSlice t len parts'.toArray).run P w=.ok v' w'∧m <+: m'∧V m' (.slice (some ⟨H.length,0,none⟩) len len) v'∧Rel nro base γ m' (H++[some ⟨cs,e,some (szt P e)⟩]) w'∧Below base w w':=by
 have hzeros:((Array.range (len*szt P e)).map (fun j=>z.cells[j%z.cells.size]!)).toList=(List.range (len*szt P e)).map fun j=>z.cells.toList.getD (j%szt P e) undef:=by
  rw [zeros_eq _ _ (by omega),hzs]
 obtain⟨c',h1,h2⟩:=fill_run (m:=m) parts parts' _ ((Array.range (len*szt P e)).map (fun j=>z.cells[j%z.cells.size]!)) cs hl (fun j p hj=>by
   obtain⟨p',a,b,c⟩:=hpp j p hj
   exact⟨p',a,b,c.v2 (alT.1 hn p (moG hj))⟩) hn (by rw [hzeros];exact plain_Vs (zeros_plain _ _ _ h0 (by simpa using hzs) hp)) h
 have hcl:c'.size=len*szt P e:=by
  have e1:∀ (pl:Nat→Option (Nat×Nat)) (ps:List (Nat×Value)) (l l':List Value),xfill pl l ps=some l'→l'.length=l.length:=by
   intro pl ps
   induction ps with
   | nil=>intro l l' h;cases h;rfl
   | cons p ps ih=>
    intro l l' h
    obtain⟨i,v⟩:=p
    unfold xfill at h
    split at h
    ·cases h
    ·split at h
     ·rw [ih _ _ h,setR_length]
     ·cases h
  have:=e1 _ _ _ _ h
  have h3:=h2.1
  simp at this
  simp at h3
  omega
 refine⟨_,.slice (some ⟨w.heap.size,0,none⟩) len len,_,?_,pre_app m ⟨w.heap.size,0,c'.size,some (szt P e)⟩,?_,hR.alloc c' e (some (szt P e)) h2,(Below.refl _ _).alloc hR.base_le _⟩
 ·have hsm:¬ (len*szt P e>2 ^ 24):=by omega
  simp only [Instr.buildSlice,Sem.run_bind,run_underlying (und_some hu (by simp)),Result.andThen_ok,run_sizeOf h0]
  rw [if_neg hsm]
  by_cases hl0:len*szt P e=0
  ·rw [if_pos hl0]
   have hr:Instr.fill (fun i=>some (i*szt P e,szt P e)) (Array.map (fun _=>(default:Value)) (Array.range (len*szt P e))) parts'=some c':=by
    rw [←h1,hl0];congr 1;apply Array.ext <;> simp
   simp [hr,run_newRow]
  ·rw [if_neg hl0]
   simp [run_zero hz,h1,run_newRow]
 ·have hlen2:m.length=H.length:=hR.len
  have:V (m++[⟨w.heap.size,0,c'.size,some (szt P e)⟩]) (.slice (some ⟨H.length,0,none⟩) len len) (.slice (some ⟨w.heap.size,0+0,none⟩) len len):=by
   refine .one (.sl (e:=⟨w.heap.size,0,c'.size,some (szt P e)⟩) (by rw [←hlen2];simp) (nlE _) (fun _ s hs=>?_))
   cases hs
   refine⟨hcl.symm,?_⟩
   have:len≤len*szt P e:=Nat.le_mul_of_pos_right _ h0
   simp only [maxLen]
   omega
  simpa using this
theorem makeSlice_run(hR:Rel nro base γ m H w){t e:TypeId}{l c:Int}{k k':IntKind}{z:Value}(hu:und P t=.slice e)(hz:zer P e=some z)
  (h0:0<szt P e) (hzs:z.cells.size=szt P e) (hp:z.cells.toList.all plain1=true) (hl0:0≤l) (hlc:l≤c) (hb:c*byt P e≤140737488355328) (hm:c≤maxLen) :
  ∃m' v' w',(Instr.makeSlice t (.int k l) (.int k' c)).run P w=.ok v' w'∧m <+: m'∧V m' (.slice (some ⟨H.length,0,if l<c∧1<szt P e then some (c.toNat+1) else none⟩) l.toNat l.toNat) v' ∧
   Rel nro base γ m' (H++[some ⟨(List.range (c.toNat*szt P e)).map fun j=>z.cells.toList.getD (j%szt P e) undef,e,some (szt P e)⟩]) w'∧Below base w w':=by
 obtain⟨i,hi,hisz⟩:=szt_info h0
 have hby:byt P e=i.bytes:=by simp [byt,hi]
 rw [hby]at hb
 have hm':c≤9223372036854775807:=by simp only [maxLen]at hm;omega
 have hwl:IntKind.i64.wrap l=l:=Go.IntWalk.i64_in _ (by omega)
 have hwc:IntKind.i64.wrap c=c:=Go.IntWalk.i64_in _ (by omega)
 have hzeros:((Array.range (c.toNat*szt P e)).map (fun j=>z.cells[j%z.cells.size]!)).toList=(List.range (c.toNat*szt P e)).map fun j=>z.cells.toList.getD (j%szt P e) undef:=by
  rw [zeros_eq _ _ (by omega),hzs]
 obtain⟨cs,hcs⟩:∃cs,cs=(Array.range (c.toNat*szt P e)).map (fun j=>z.cells[j%z.cells.size]!):=⟨_,rfl⟩
 have hsz:cs.size=c.toNat*szt P e:=by rw [hcs];simp
 have hvs:Vs m ((List.range (c.toNat*szt P e)).map fun j=>z.cells.toList.getD (j%szt P e) undef) cs.toList:=by
  rw [hcs,hzeros];exact plain_Vs (zeros_plain _ _ _ h0 (by simpa using hzs) hp)
 refine⟨_,.slice (some ⟨w.heap.size,0,none⟩) l.toNat c.toNat,_,?_,pre_app m ⟨w.heap.size,0,cs.size,some (szt P e)⟩,?_,hR.alloc cs e (some (szt P e)) hvs,(Below.refl _ _).alloc hR.base_le _⟩
 ·have g1:¬ ((i.bytes:Int)*c>281474976710656):=by
   have:(i.bytes:Int)*c=c*i.bytes:=Int.mul_comm _ _
   omega
  have g2:¬ (c.toNat*i.bytes>140737488355328):=by
   have:((c.toNat*i.bytes:Nat):Int)=c*i.bytes:=by
    rw [Int.natCast_mul,Int.toNat_of_nonneg (by omega)]
   omega
  have g3:¬ c<0:=by omega
  have g4:¬ l<0:=by omega
  have g5:¬ l>c:=by omega
  simp only [Instr.makeSlice,Sem.run_bind,run_underlying (und_some hu (by simp)),Result.andThen_ok,asInt,asIntOf,Sem.run_pure,typeInfo,run_program,hi,hwl,hwc]
  have gg:((decide (c<0)||decide ((i.bytes:Int)*c>2 ^ 48))||decide (l<0)||decide (l>c))=false:=by
   simp only [Bool.or_eq_false_iff,decide_eq_false_iff_not]
   exact⟨⟨⟨g3,by simpa using g1⟩,g4⟩,g5⟩
  rw [gg]
  simp only [Bool.false_eq_true,if_false,askRoom,roomBytes]
  have g6:¬ (140737488355328<c.toNat*i.bytes):=by omega
  by_cases hn0:c.toNat*szt P e=0
  ·have hc0:cs=#[]:=by rw [hcs,hn0];simp
   have hz0:Array.map (fun _=>(default:Value)) (Array.range 0)=#[]:=by apply Array.ext <;> simp
   simp [run_sizeOf h0,hn0,run_newRow,hc0,g6,hz0]
  ·simp [run_sizeOf h0,hn0,run_zero hz,run_newRow,hcs,g6]
 ·have hlen2:m.length=H.length:=hR.len
  have:V (m++[⟨w.heap.size,0,cs.size,some (szt P e)⟩]) (.slice (some ⟨H.length,0,if l<c∧1<szt P e then some (c.toNat+1) else none⟩) l.toNat l.toNat) (.slice (some ⟨w.heap.size,0+0,none⟩) l.toNat c.toNat):=by
   by_cases hlx:l<c∧1<szt P e
   ·rw [if_pos hlx]
    exact .one (.slx (e:=⟨w.heap.size,0,cs.size,some (szt P e)⟩) (by rw [←hlen2];simp) (by omega))
   rw [if_neg hlx]
   refine .one (.sl (e:=⟨w.heap.size,0,cs.size,some (szt P e)⟩) (by rw [←hlen2];simp) (by omega) (fun _ s hs=>?_))
   cases hs
   exact⟨hsz.symm,by simp only [maxLen];omega⟩
  simpa using this
theorem bytes_run(hR:Rel nro base γ m H w){s d e:TypeId}{b:ByteArray}(hs:und P s=.string)(hd:und P d=.slice e)(he:und P e=.int .u8) :
  ∃m' v' w',(convert s d (.string b)).run P w=.ok v' w'∧m <+: m'∧V m' (.slice (some ⟨H.length,0,none⟩) b.size b.size) v'∧Rel nro base γ m' (H++[some ⟨iv .u8 (nums b),e,none⟩]) w'∧Below base w w':=by
 have hrun:=Lib.run_convert_string_bytes (P:=P) w s d e b (und_some hs (by simp)) (und_some hd (by simp)) (und_some he (by simp))
 have hnew:=Lib.bytesWorld_at_new w e b
 refine⟨m++[⟨w.heap.size,0,(Lib.bytesCells w e b).size,none⟩],_,_,hrun,pre_app _ _,?_,?_,?_⟩
 ·have hlen2:m.length=H.length:=hR.len
  have:V (m++[⟨w.heap.size,0,(Lib.bytesCells w e b).size,none⟩]) (.slice (some ⟨H.length,0,none⟩) b.size b.size) (.slice (some ⟨w.heap.size,0+0,none⟩) b.size (grownCap w b.size 0 e)):=
   .one (.sl (e:=⟨w.heap.size,0,(Lib.bytesCells w e b).size,none⟩) (by rw [←hlen2];simp) (grownCap_ge _ _ _ _) (fun _ s hs=>by cases hs))
  simpa using this
 ·refine hR.add (by rw [Lib.bytesWorld_size];omega) (fun i k e' hk he'=>Lib.bytesWorld_at_old w e b _ (hR.inb i e' he')) hR.base_le hnew (fun o h1 h2=>by simp only at h2;omega) (fun h=>by cases h) (fun i k e' _ _ he' h=>?_) (fun j x hx=>?_)
  ·have:=hR.inb i e' he';omega
  ·refine⟨x,?_,.plain ?_⟩
   ·have hj:j<b.size:=by
     rcases Nat.lt_or_ge j b.size with h | h
     ·exact h
     ·rw [List.getElem?_eq_none (by simp [nums];exact h)]at hx;cases hx
    simp only [iv,nums,List.map_map]at hx
    rw [gmP]at hx
    unfold Lib.bytesCells
    rw [Array.getElem?_append_left (by simpa using hj)]
    simpa using hx
   ·simp only [iv,gmP]at hx
    cases hq:(nums b)[j]? with
    | none=>rw [hq]at hx;cases hx
    | some q=>rw [hq]at hx;cases hx;rfl
 ·exact Below.trans (.refl _ _) ⟨rfl,rfl,rfl,by rw [Lib.bytesWorld_size];omega,fun k hk=>Lib.bytesWorld_at_old w e b k (by have:=hR.base_le;omega)⟩
end
end
section
section
variable {P:Program} {nro n base:Nat} {γ:Nat→Option Nat} {m:List Ent} {H:AH} {α:Fm} {a:Act} {w:World}
theorem Vs.append{l l' r r':List Value}(h:Vs m l l')(k:Vs m r r'):Vs m (l++r) (l'++r'):=by
 refine⟨by simp [h.1,k.1],fun j x hj=>?_⟩
 rcases Nat.lt_or_ge j l.length with hl | hl
 ·rw [gaL hl]at hj
  rw [gaL (by rw [h.1];exact hl)]
  exact h.2 j x hj
 ·rw [gaR hl]at hj
  rw [gaR (by rw [h.1];exact hl),h.1]
  exact k.2 _ x hj
theorem Vs.take{l l':List Value}(h:Vs m l l')(k:Nat):Vs m (l.take k) (l'.take k):=by
 refine⟨by simp [h.1],fun j x hj=>?_⟩
 rcases Nat.lt_or_ge j k with hl | hl
 ·rw [List.getElem?_take_of_lt hl]at hj ⊢
  exact h.2 j x hj
 ·rw [List.getElem?_eq_none (by simp;omega)]at hj;cases hj
theorem xcells_slice(hR:Rel nro base γ m H w){sz:Nat}{x x':Value}{news:List Value}(hx:V m x x')(h:xcells sz x H=some news)(hs:∀s,x≠.string s) :
  (x'=.slice none 0 0∧news=[])∨∃ad cnt c news',x'=.slice (some ad) cnt c∧Vs m news news'∧news'.length=cnt*sz∧∀ (j:Nat) (u:Value),news'[j]?=some u→w.cell? (ad.add j)=some u:=by
 unfold xcells at h
 split at h
 ·cases h
  exact .inl ⟨hx.eq rfl,rfl⟩
 ·cases h
  right
  cases hx with
  | two h=>cases h with
   | one h=>cases h with
    | plain h=>cases h
    | sl0=>exact⟨_,0,_,[],rfl,⟨rfl,by simp⟩,by simp,by simp⟩
 ·rename_i i off len c
  split at h
  case h_2=>cases h
  rename_i k hk
  split at h
  case isFalse=>cases h
  rename_i hc
  cases h
  right
  obtain⟨e,c',he,hcc,rfl,_⟩:=hx.slw_
  obtain⟨l',h1,h2,h3⟩:=list_of_cells (R:=V1 m) (f:=fun j=>w.cell? ⟨e.b,e.o+j,none⟩) ((k.cells.drop off).take (len*sz)) off (fun j x hx=>by
   have hj:j<len*sz:=by
    rcases Nat.lt_or_ge j (len*sz) with h | h
    ·exact h
    ·rw [List.getElem?_eq_none (by simp;omega)]at hx;cases hx
   rw [List.getElem?_take_of_lt hj,List.getElem?_drop]at hx
   obtain⟨y,hy,hv⟩:=hR.cell hk he hx
   exact⟨y,hy,hv⟩)
  refine⟨_,len,c',l',rfl,⟨h1,h2⟩,by rw [h1];simp;omega,fun j u hu=>?_⟩
  rw [add_none,Nat.add_assoc]
  exact h3 j u hu
 ·rename_i s
  exact absurd rfl (hs s)
 ·cases h
theorem Vs.oneCells{l l':List Value}(h:Vs m l l'):∀u∈l',u.oneCell'=true:=by
 intro u hu
 obtain⟨j,hj,rfl⟩:=List.mem_iff_getElem.1 hu
 have hjl:j<l.length:=by rw [←h.1];exact hj
 obtain⟨y,h1,h2⟩:=h.2 j l[j] (geE hjl)
 rw [geE hj]at h1
 cases h1
 exact h2.oneCell
theorem slice_none_append{t ty e:TypeId}{s:Option Addr}{len cap:Nat}(hu:und P t=.slice e)(h0:0<szt P e)(hl:len≤cap)(w:World):(Builtin.append_ #[t,t] ty #[.slice s len cap,.slice none 0 0]).run P w=.ok (.slice s len cap) w:=by
 cases s <;> simp [Builtin.append_,run_underlying (und_some hu (by simp)),run_sizeOf h0,Builtin.lenOf,Builtin.firstCells,hl,storeCells]
theorem append_run(hR:Rel nro base γ m H w){t ty:TypeId}{s x s' x' v:Value}{H':AH}(hs:V m s s')(hx:V m x x')(h:xappend P nro t s x H=some (v,H')) :
  ∃m' v' w',(Builtin.append_ #[t,t] ty #[s',x']).run P w=.ok v' w'∧m <+: m'∧V m' v v'∧Rel nro base γ m' H' w'∧Below base w w':=by
 have hlen2:m.length=H.length:=hR.len
 unfold xappend at h
 split at h
 case h_2=>cases h
 rename_i e hu
 have hus:=und_some hu (by simp)
 split at h
 ·cases h
 rename_i hnstr
 split at h
 ·cases h
 rename_i news hnews
 have hx2:=xcells_slice hR hx hnews (fun s e=>hnstr s e)
 split at h
 ·-- onto nil
  split at h
  case isFalse=>cases h
  rename_i hc
  obtain⟨h0,hz,hby,hml⟩:=hc
  have:=hs.eq rfl
  subst this
  obtain⟨i,hi,hisz⟩:=szt_info h0
  have hbyt:byt P e=i.bytes:=by simp [byt,hi]
  split at h
  ·rename_i hn0
   cases h
   refine⟨m,.slice none 0 0,w,?_,List.prefix_rfl,plainV_mk rfl,hR,.refl _ _⟩
   rcases hx2 with ⟨rfl,_⟩ | ⟨ad,cnt,c,news',rfl,hv,hl',_⟩
   ·exact slice_none_append hu h0 (nlE _) w
   ·have hc0:cnt=0:=by
     have:=hv.1
     rw [hn0]at this
     simp only [List.length_nil]at this
     rcases Nat.eq_zero_or_pos cnt with h | h
     ·exact h
     ·have:=Nat.mul_pos h h0;omega
    subst hc0
    simp [Builtin.append_,run_underlying hus,run_sizeOf h0,Builtin.lenOf,Builtin.firstCells,loadCells,loadCellsFrom]
  ·rename_i hn0
   cases h
   rcases hx2 with ⟨_,h⟩ | ⟨ad,cnt,c,news',rfl,hv,hl',hcell⟩
   ·exact absurd h hn0
   have hpos:0<cnt:=by
    rcases Nat.eq_zero_or_pos cnt with h | h
    ·subst h
     have:=hv.1
     exact absurd (List.eq_nil_of_length_eq_zero (by omega)) hn0
    ·exact h
   have hnl:news.length=cnt*szt P e:=by rw [←hv.1];exact hl'
   have hdiv:news.length/szt P e=cnt:=by rw [hnl];exact Nat.mul_div_cancel _ h0
   have hcnt:cnt≤cnt*szt P e:=Nat.le_mul_of_pos_right _ h0
   obtain⟨z,hzz⟩:∃z,i.zero=some z∧z.cells.size=szt P e:=by
    unfold zer at hz
    rw [hi]at hz
    simp only [Option.bind_some]at hz
    cases hq:i.zero with
    | none=>rw [hq]at hz;cases hz
    | some z=>rw [hq]at hz;exact⟨z,rfl,by simpa using hz⟩
   have hb1:cnt*i.bytes≤news.length*i.bytes:=Nat.mul_le_mul_right _ (by omega)
   rw [hbyt]at hby
   have hmx:cnt≤maxLen:=by omega
   have hr:=run_append_nil (P:=P) w t ty e i z hus hi hzz.1 ad cnt c news' (by rw [hisz];exact hl') hcell hpos (by simp only [maxLen]at hmx;omega) (by omega)
   obtain⟨cs,hcs⟩:∃cs,cs=news'.toArray++Builtin.zeroCells z.cells (grownCap w cnt 0 e-cnt):=⟨_,rfl⟩
   rw [←hcs]at hr
   have hge:=grownCap_ge w cnt 0 e
   have hsz:grownCap w cnt 0 e*szt P e=cs.size:=by
    rw [hcs]
    simp only [Array.size_append,List.size_toArray,size_zeroCells,hzz.2,hl',←Nat.add_mul]
    congr 1;omega
   have hR1:Rel nro base γ m H (w.drewN 1):=hR.drewN 1
   have hR2:=hR1.add (w':=w.drew.alloc (.cells cs e)) (b:=w.heap.size) (cs:=cs) (ty:=e) (fr:=(0,0)) (es:=some (szt P e)) (cells:=news) (by simp)
    (fun i k e' hk he'=>Below.heap_alloc w.drew _ _ (hR.inb i e' he')) hR.base_le (heap_alloc_new w.drew _) (fun o _ h=>by simp at h) (fun _=>rfl)
    (fun i k e' _ _ he' h=>by have:=hR.inb i e' he';omega)
    (fun j x hx=>by
     obtain⟨y,p,q⟩:=hv.2 j x hx
     refine⟨y,?_,q.mono (pre_app _ _)⟩
     have hj:j<news'.length:=(gsI.1 p).1
     rw [hcs,Array.getElem?_append_left (by simpa using hj)]
     simpa using p)
   refine⟨_,_,_,hr,pre_app _ _,?_,hR2,Below.alloc (Below.drew (.refl _ _)) hR.base_le _⟩
   rw [hdiv]
   have:V (m++[⟨w.heap.size,0,cs.size,some (szt P e)⟩]) (.slice (some ⟨H.length,0,none⟩) cnt cnt) (.slice (some ⟨w.heap.size,0+0,none⟩) cnt (grownCap w cnt 0 e)):=
    .one (.sl (e:=⟨w.heap.size,0,cs.size,some (szt P e)⟩) (by rw [←hlen2];simp) hge (fun _ s hs=>by cases hs;exact⟨hsz,grownCap_le_maxLen _ _ _ _ hmx⟩))
   simpa using this
 ·-- onto a row of the call's own
  rename_i ii len c0
  split at h
  case h_2=>cases h
  rename_i k hk
  split at h
  case isFalse=>cases h
  rename_i hc
  obtain⟨hcl,h0,hz,hii,hkt,hkes,hll,hby,hml⟩:=hc
  cases h
  obtain⟨en,cap,_,hen,hlc,hcap,rfl⟩:=hs.sl_ hcl
  subst hcl
  obtain⟨i,hi,hisz⟩:=szt_info h0
  have hbyt:byt P e=i.bytes:=by simp [byt,hi]
  rw [hbyt]at hby
  obtain⟨cur,fr,hcur,hcsz,hes,hfr,hcells⟩:=hR.cells ii k en (hget_some hk) (hR.noMapE (hget_some hk) hen hkes) hen
  have hown:=hR.own ii en hii hen
  have hfr0:fr=(0,0):=(hfr hii).2 (by rw [hkes];rfl)
  subst hfr0
  obtain⟨hcap1,hcap2⟩:=hcap rfl (szt P e) (by rw [hes,hkes])
  rw [hkt]at hcur
  have hcursz:cur.size=cap*szt P e:=by rw [hcsz hii,hcap1]
  obtain⟨cnt,news',hv,hl',happ⟩:∃cnt news',Vs m news news'∧news'.length=cnt*szt P e ∧
    ((x'=.slice none 0 0∧cnt=0)∨∃ad c,x'=.slice (some ad) cnt c∧∀ (j:Nat) (u:Value),news'[j]?=some u→w.cell? (ad.add j)=some u):=by
   rcases hx2 with ⟨rfl,rfl⟩ | ⟨ad,cnt,c,news',rfl,hv,hl',hcell⟩
   ·exact⟨0,[],⟨rfl,by simp⟩,by simp,.inl ⟨rfl,rfl⟩⟩
   ·exact⟨cnt,news',hv,hl',.inr ⟨ad,c,rfl,hcell⟩⟩
  have hnl:news.length=cnt*szt P e:=by rw [←hv.1];exact hl'
  have hdiv:news.length/szt P e=cnt:=by rw [hnl];exact Nat.mul_div_cancel _ h0
  have hcnt:cnt≤cnt*szt P e:=Nat.le_mul_of_pos_right _ h0
  have hlen1:c0≤c0*szt P e:=Nat.le_mul_of_pos_right _ h0
  have hmx:c0+cnt≤maxLen:=by omega
  have hbb:(c0+cnt)*i.bytes≤140737488355328:=Nat.le_trans (Nat.mul_le_mul_right _ (by omega)) hby
  obtain⟨olds,ho⟩:∃olds,olds=cur.toList.take (c0*szt P e):=⟨_,rfl⟩
  have holl:olds.length=c0*szt P e:=by
   rw [ho,List.length_take,Array.length_toList,hcursz]
   exact Nat.min_eq_left (Nat.mul_le_mul_right _ hlc)
  have hvo:Vs m (k.cells.take (c0*szt P e)) olds:=by
   refine⟨by rw [holl,List.length_take];omega,fun j x hj=>?_⟩
   have hjl:j<c0*szt P e:=by
    rcases Nat.lt_or_ge j (c0*szt P e) with h | h
    ·exact h
    ·rw [List.getElem?_eq_none (by simp;omega)]at hj;cases hj
   rw [List.getElem?_take_of_lt hjl]at hj
   obtain⟨y,p,q⟩:=hcells j x hj
   rw [hown.2,Nat.zero_add]at p
   exact⟨y,by rw [ho,List.getElem?_take_of_lt hjl];simpa using p,q⟩
  have hvn:Vs m (k.cells.take (c0*szt P e)++news) (olds++news'):=hvo.append hv
  have hRk:=hR.kill ii
  have hkept:∀ (j:Nat) (q:Blk) (e':Ent),nro≤j→(H.set ii none)[j]?=some (some q)→m[j]?=some e'→e'.b≠en.b:=by
   intro j q e' hj hq he'
   by_cases ej:ii=j
   ·subst ej
    have hil:ii<H.length:=(gsI.1 (hget_some hk)).1
    rw [List.getElem?_set_self hil]at hq;cases hq
   ·rw [List.getElem?_set_ne ej]at hq
    exact hR.apart j ii q k e' en hj hii (Ne.symm ej) hq (hget_some hk) he' hen
  have hkept':∀ (j:Nat) (q:Blk) (e':Ent),(H.set ii none)[j]?=some (some q)→m[j]?=some e'→e'.b≠en.b:=by
   intro j q e' hq he'
   rcases Nat.lt_or_ge j nro with hj | hj
   ·have:=hR.ro j e' hj he';have:=hown.1;omega
   ·exact hkept j q e' hj hq he'
  rw [hdiv]
  by_cases hroom:c0+cnt≤cap
  ·-- there is room
   have hfit:c0*i.size+news'.length≤cur.size:=by
    rw [hisz,hl',hcursz,←Nat.add_mul];exact Nat.mul_le_mul_right _ hroom
   have hrun:∃w',(Builtin.append_ #[t,t] ty #[.slice (some ⟨en.b,en.o+0,none⟩) c0 cap,x']).run P w=.ok (.slice (some ⟨en.b,0,none⟩) (c0+cnt) cap) w' ∧
     w'.heap.size=w.heap.size∧(∀b,b≠en.b→w'.heap[b]?=w.heap[b]?)∧(∃cs:Array Value,w'.heap[en.b]?=some (.cells cs e (0,0))∧cs.size=cur.size∧cs.toList.take ((c0+cnt)*szt P e)=olds++news')∧Below base w w':=by
    rw [hown.2]
    rcases happ with ⟨rfl,rfl⟩ | ⟨ad,c,rfl,hcell⟩
    ·have hn0:news'=[]:=List.eq_nil_of_length_eq_zero (by simpa using hl')
     refine⟨w,slice_none_append hu h0 (by omega) w,rfl,fun _ _=>rfl,⟨cur,hcur,rfl,?_⟩,.refl _ _⟩
     rw [hn0,List.append_nil,Nat.add_zero,ho]
    ·have hr:=run_append_room (P:=P) w t ty e i hus hi en.b c0 cap cur hcur ad cnt c news' (by rw [hisz];exact hl') hcell hv.oneCells hroom hfit
     refine⟨_,hr,by simp [World.setRow],fun b hb=>setRow_other w en.b b _ hb,⟨_,setRow_heap w en.b cur _ e _ hcur,?_,?_⟩,Below.trans (.refl _ _) ⟨rfl,rfl,rfl,by simp [World.setRow],fun k hk=>setRow_other w en.b k _ (by have:=hown.1;omega)⟩⟩
     ·simp only [List.size_toArray,laP,List.length_take,List.length_drop,Array.length_toList]
      omega
     ·rw [hisz,←ho]
      have:(c0+cnt)*szt P e=(olds++news').length:=by rw [laP,holl,hl',Nat.add_mul]
      rw [this]
      exact List.take_left
   obtain⟨w',hr,hsz',hold,⟨cs,hnew,hcs,htk⟩,hb⟩:=hrun
   have hR2:=hRk.add (w':=w') (b:=en.b) (cs:=cs) (ty:=e) (fr:=(0,0)) (es:=some (szt P e)) (cells:=k.cells.take (c0*szt P e)++news) (by omega)
    (fun j q e' hq he'=>hold _ (hkept' j q e' hq he')) hown.1 hnew (fun o _ h=>by simp at h) (fun _=>rfl) hkept
    (fun j x hx=>by
     obtain⟨y,p,q⟩:=hvn.2 j x hx
     refine⟨y,?_,q.mono (pre_app _ _)⟩
     have hj:j<(olds++news').length:=(gsI.1 p).1
     have hj2:j<(c0+cnt)*szt P e:=by rw [laP,holl,hl',←Nat.add_mul]at hj;exact hj
     rw [←htk,List.getElem?_take_of_lt hj2]at p
     simpa using p)
   refine⟨_,_,w',hr,pre_app _ _,?_,hR2,hb⟩
   have hsl:(H.set ii none).length=H.length:=by simp
   have:V (m++[⟨en.b,0,cs.size,some (szt P e)⟩]) (.slice (some ⟨H.length,0,none⟩) (c0+cnt) (c0+cnt)) (.slice (some ⟨en.b,0+0,none⟩) (c0+cnt) cap):=
    .one (.sl (e:=⟨en.b,0,cs.size,some (szt P e)⟩) (by rw [←hlen2];simp) hroom (fun _ s hs=>by cases hs;exact⟨by show _=cs.size;rw [hcs,hcursz],hcap2⟩))
   simpa using this
  ·-- a new row
   have hcp:0<cnt:=by omega
   rcases happ with ⟨_,hc0'⟩ | ⟨ad,c,rfl,hcell⟩
   ·omega
   obtain⟨z,hzz⟩:∃z,i.zero=some z∧z.cells.size=szt P e:=by
    unfold zer at hz
    rw [hi]at hz
    simp only [Option.bind_some]at hz
    cases hq:i.zero with
    | none=>rw [hq]at hz;cases hz
    | some z=>rw [hq]at hz;exact⟨z,rfl,by simpa using hz⟩
   have holds:∀ (j:Nat) (u:Value),olds[j]?=some u→w.cell? ((⟨en.b,en.o+0,none⟩:Addr).add j)=some u:=by
    intro j u hu'
    have hj:j<c0*szt P e:=by rw [←holl];exact (gsI.1 hu').1
    rw [ho,List.getElem?_take_of_lt hj]at hu'
    rw [add_none,hown.2,Nat.add_zero,Nat.zero_add]
    simp only [World.cell?,hcur]
    simpa using hu'
   have hr:=run_append_grow (P:=P) w t ty e i z hus hi hzz.1 ⟨en.b,en.o+0,none⟩ c0 cap olds (by rw [hisz];exact holl) holds ad cnt c news' (by rw [hisz];exact hl') hcell (by omega)
    (by simp only [maxLen]at hmx;omega) (growslice_fits (by omega) hbb)
   obtain⟨cs,hcs⟩:∃cs,cs=olds.toArray++news'.toArray++Builtin.zeroCells z.cells (grownCap w (c0+cnt) cap e-(c0+cnt)):=⟨_,rfl⟩
   rw [←hcs]at hr
   have hge:=grownCap_ge w (c0+cnt) cap e
   have hsz:grownCap w (c0+cnt) cap e*szt P e=cs.size:=by
    rw [hcs]
    simp only [Array.size_append,List.size_toArray,size_zeroCells,hzz.2,hl',holl,←Nat.add_mul]
    congr 1;omega
   have hR1:Rel nro base γ m (H.set ii none) (w.drewN 1):=hRk.drewN 1
   have hR2:=hR1.add (w':=w.drew.alloc (.cells cs e)) (b:=w.heap.size) (cs:=cs) (ty:=e) (fr:=(0,0)) (es:=some (szt P e)) (cells:=k.cells.take (c0*szt P e)++news) (by simp)
    (fun i k e' hk he'=>Below.heap_alloc w.drew _ _ (hR.inb i e' he')) hR.base_le (heap_alloc_new w.drew _) (fun o _ h=>by simp at h) (fun _=>rfl)
    (fun i k e' _ _ he' h=>by have:=hR.inb i e' he';omega)
    (fun j x hx=>by
     obtain⟨y,p,q⟩:=hvn.2 j x hx
     refine⟨y,?_,q.mono (pre_app _ _)⟩
     have hj:j<(olds++news').length:=(gsI.1 p).1
     rw [hcs,Array.getElem?_append_left (by simpa using hj)]
     simpa using p)
   refine⟨_,_,_,hr,pre_app _ _,?_,hR2,Below.alloc (Below.drew (.refl _ _)) hR.base_le _⟩
   have:V (m++[⟨w.heap.size,0,cs.size,some (szt P e)⟩]) (.slice (some ⟨H.length,0,none⟩) (c0+cnt) (c0+cnt)) (.slice (some ⟨w.heap.size,0+0,none⟩) (c0+cnt) (grownCap w (c0+cnt) cap e)):=
    .one (.sl (e:=⟨w.heap.size,0,cs.size,some (szt P e)⟩) (by rw [←hlen2];simp) hge (fun _ s hs=>by cases hs;exact⟨hsz,grownCap_le_maxLen _ _ _ _ hmx⟩))
   simpa using this
 ·cases h
theorem appmk_run(hR:Rel nro base γ m H w){t u ty:TypeId}{s x s' x' v:Value}{H':AH}(hs:V m s s')(hx:V m x x')(h:xappmk P t u s x H=some (v,H')) :
  ∃m' v' w',(Builtin.append_ #[t,u] ty #[s',x']).run P w=.ok v' w'∧m <+: m'∧V m' v v'∧Rel nro base γ m' H' w'∧Below base w w':=by
 have hlen2:m.length=H.length:=hR.len
 unfold xappmk at h
 split at h
 case h_2=>cases h
 rename_i e kn kq n hu hun
 split at h
 case h_2=>cases h
 rename_i z hz
 split at h
 case isFalse=>cases h
 rename_i hc
 obtain⟨hn0,h0,hzs,hzp,hby,hmx⟩:=hc
 cases h
 have:=hs.eq rfl
 subst this
 have:=hx.int_
 subst this
 obtain⟨i,hi,hisz⟩:=szt_info h0
 have hbyt:byt P e=i.bytes:=by simp [byt,hi]
 have hz':i.zero=some z:=by
  unfold zer at hz
  rw [hi]at hz
  exact hz
 obtain⟨k,hk⟩:∃k:Nat,n=(k:Int):=⟨n.toNat,by omega⟩
 subst hk
 simp only [Int.toNat_natCast]
 rw [hbyt]at hby
 have hby':k*i.bytes≤140737488355328:=by
  have:((k*i.bytes:Nat):Int)≤140737488355328:=by rw [Int.natCast_mul];exact hby
  omega
 have hmx':k≤maxLen:=by omega
 have hr:=Lib.run_append_grow_zeros (P:=P) w t u ty e i z kq kn (und_some hu (by simp)) (und_some hun (by simp)) hi hz' none 0 0 [] (by simp [Builtin.firstCells]) k (by omega) (by omega) (by omega) (by simp only [maxLen]at hmx';omega) (by omega) (by rw [Nat.zero_add,nextslicecap_zero (by omega)];omega)
 simp only [Nat.zero_add]at hr
 obtain⟨cs,hcs⟩:∃cs,cs=([]:List Value).toArray++Builtin.zeroCells z.cells k++Builtin.zeroCells z.cells (grownCap w k 0 e-k):=⟨_,rfl⟩
 rw [←hcs]at hr
 have hge:=grownCap_ge w k 0 e
 have hsz:grownCap w k 0 e*szt P e=cs.size:=by
  rw [hcs]
  simp only [Array.size_append,List.size_toArray,List.length_nil,size_zeroCells,hzs,Nat.zero_add,←Nat.add_mul]
  congr 1;omega
 have hR1:Rel nro base γ m H (w.drewN 1):=hR.drewN 1
 have hR2:=hR1.add (w':=w.drew.alloc (.cells cs e)) (b:=w.heap.size) (cs:=cs) (ty:=e) (fr:=(0,0)) (es:=some (szt P e)) (cells:=(List.range (k*szt P e)).map fun j=>z.cells.toList.getD (j%szt P e) undef) (by simp)
  (fun i k e' hk he'=>Below.heap_alloc w.drew _ _ (hR.inb i e' he')) hR.base_le (heap_alloc_new w.drew _) (fun o _ h=>by simp at h) (fun _=>rfl)
  (fun i k e' _ _ he' h=>by have:=hR.inb i e' he';omega)
  (fun j x hx=>by
   have hj:j<k*szt P e:=by
    have:=(gsI.1 hx).1
    simpa using this
   rw [gmP,List.getElem?_range hj]at hx
   cases hx
   have hmod:j%szt P e<z.cells.toList.length:=by
    have:=Nat.mod_lt j h0
    simpa [hzs] using this
   refine⟨z.cells.toList.getD (j%szt P e) undef,?_,.plain ?_⟩
   ·have hzl:(Builtin.zeroCells z.cells k).toList=(List.range (k*szt P e)).map fun j=>z.cells.toList.getD (j%szt P e) undef:=by
     unfold Builtin.zeroCells
     rw [hzs]
     have:=zeros_eq z.cells (k*szt P e) (by omega)
     rw [hzs]at this
     exact this
    rw [←Array.getElem?_toList,hcs]
    simp only [Array.toList_append,List.nil_append]
    rw [gaL (by rw [hzl];simp;omega),hzl,gmP,List.getElem?_range hj]
    rfl
   ·show plain1 (z.cells.toList.getD (j%szt P e) undef)=true
    rw [gdD,geE hmod]
    exact alT.1 hzp _ (List.getElem_mem hmod))
 refine⟨_,_,_,hr,pre_app _ _,?_,hR2,Below.alloc (Below.drew (.refl _ _)) hR.base_le _⟩
 have:V (m++[⟨w.heap.size,0,cs.size,some (szt P e)⟩]) (.slice (some ⟨H.length,0,none⟩) k k) (.slice (some ⟨w.heap.size,0+0,none⟩) k (grownCap w k 0 e)):=
  .one (.sl (e:=⟨w.heap.size,0,cs.size,some (szt P e)⟩) (by rw [←hlen2];simp) hge (fun _ s hs=>by cases hs;exact⟨hsz,grownCap_le_maxLen _ _ _ _ hmx'⟩))
 simpa using this
theorem appstr_run(hR:Rel nro base γ m H w){t u ty:TypeId}{s x s' x' v:Value}{H':AH}(hu:und P u=.string)(hs:V m s s')(hx:V m x x')(h:xappstr P nro t s x H=some (v,H')) :
  ∃m' v' w',(Builtin.append_ #[t,u] ty #[s',x']).run P w=.ok v' w'∧m <+: m'∧V m' v v'∧Rel nro base γ m' H' w'∧Below base w w':=by
 have hlen2:m.length=H.length:=hR.len
 have hu':=und_some hu (by simp)
 unfold xappstr at h
 split at h
 case h_2=>cases h
 rename_i e b hut
 have hut':=und_some hut (by simp)
 split at h
 case h_2=>cases h
 rename_i z hz
 split at h
 case isFalse=>cases h
 rename_i hc
 obtain⟨rfl,hsz,hby⟩:=hc
 have:=hx.eq rfl
 subst this
 obtain⟨i,hi,hisz⟩:=szt_info (P:=P) (t:=e) (by omega)
 rw [hsz]at hisz
 have hbyt:i.bytes=1:=by rw [←hby];simp [byt,hi]
 have hz':i.zero=some (.int .u8 0):=by
  unfold zer at hz
  rw [hi]at hz
  exact hz
 have hce:iv .u8 (nums b)=Lib.strCells b:=by simp [iv,nums,Lib.strCells]
 have hnl:(iv .u8 (nums b)).length=b.size:=by rw [hce,Lib.strCells_length]
 have hvb:Vs m (iv .u8 (nums b)) (Lib.strCells b):=by
  rw [←hce]
  refine⟨rfl,fun j x hj=>⟨x,hj,.plain ?_⟩⟩
  have:=moG hj
  simp only [iv,List.mem_map]at this
  obtain⟨a,_,rfl⟩:=this
  rfl
 have grown:∀ (H0:AH) (n old:Nat) (xs oldc:List Value),Rel nro base γ m H0 w→H0.length=H.length→xs.length=n→Vs m oldc xs→old<n+b.size→n+b.size≤maxLen →
   (Builtin.append_ #[t,u] ty #[s',.string b]).run P w=.ok (.slice (some ⟨w.heap.size,0,none⟩) (n+b.size) (grownCap w (n+b.size) old e))
    (w.drew.alloc (.cells (xs.toArray++(Lib.strCells b).toArray++Builtin.zeroCells (Value.int .u8 0).cells (grownCap w (n+b.size) old e-(n+b.size))) e)) →
   ∃m' v' w',(Builtin.append_ #[t,u] ty #[s',.string b]).run P w=.ok v' w'∧m <+: m'∧V m' (.slice (some ⟨H.length,0,none⟩) (n+b.size) (n+b.size)) v'∧Rel nro base γ m' (H0++[some ⟨oldc++iv .u8 (nums b),e,some 1⟩]) w'∧Below base w w':=by
  intro H0 n old xs oldc hR0 hl0 hxl hvo ho hmx hr
  obtain⟨cs,hcs⟩:∃cs,cs=xs.toArray++(Lib.strCells b).toArray++Builtin.zeroCells (Value.int .u8 0).cells (grownCap w (n+b.size) old e-(n+b.size)):=⟨_,rfl⟩
  rw [←hcs]at hr
  have hge:=grownCap_ge w (n+b.size) old e
  have hz1:(Value.int IntKind.u8 0).cells.size=1:=rfl
  have hsz':grownCap w (n+b.size) old e*1=cs.size:=by
   rw [hcs]
   simp only [Array.size_append,List.size_toArray,size_zeroCells,hz1,hxl,Lib.strCells_length]
   omega
  have hvn:Vs m (oldc++iv .u8 (nums b)) (xs++Lib.strCells b):=hvo.append hvb
  have hR2:=(hR0.drewN 1).add (w':=w.drew.alloc (.cells cs e)) (b:=w.heap.size) (cs:=cs) (ty:=e) (fr:=(0,0)) (es:=some 1) (cells:=oldc++iv .u8 (nums b)) (by simp)
   (fun i k e' hk he'=>Below.heap_alloc w.drew _ _ (hR.inb i e' he')) hR.base_le (heap_alloc_new w.drew _) (fun o _ h=>by simp at h) (fun _=>rfl)
   (fun i k e' _ _ he' h=>by have:=hR.inb i e' he';omega)
   (fun j x hx=>by
    obtain⟨y,p,q⟩:=hvn.2 j x hx
    refine⟨y,?_,q.mono (pre_app _ _)⟩
    have hj:j<(xs++Lib.strCells b).length:=(gsI.1 p).1
    rw [hcs,Array.getElem?_append_left (by simpa using hj)]
    simpa using p)
  refine⟨_,_,_,hr,pre_app _ _,?_,hR2,Below.alloc (Below.drew (.refl _ _)) hR.base_le _⟩
  have:V (m++[⟨w.heap.size,0,cs.size,some 1⟩]) (.slice (some ⟨H.length,0,none⟩) (n+b.size) (n+b.size)) (.slice (some ⟨w.heap.size,0+0,none⟩) (n+b.size) (grownCap w (n+b.size) old e)):=
   .one (.sl (e:=⟨w.heap.size,0,cs.size,some 1⟩) (by rw [←hlen2];simp) hge (fun _ s hs=>by cases hs;exact⟨hsz',grownCap_le_maxLen _ _ _ _ hmx⟩))
  simpa using this
 split at h
 ·-- onto nil
  split at h
  case isFalse=>cases h
  rename_i hc
  obtain⟨hbb,hmx⟩:=hc
  have:=hs.eq rfl
  subst this
  split at h
  ·rename_i hb0
   cases h
   refine⟨m,.slice none 0 0,w,?_,List.prefix_rfl,plainV_mk rfl,hR,.refl _ _⟩
   have hf:=Lib.run_firstCells_string (P:=P) w 1 b
   have hn:Lib.strCells b=[]:=List.eq_nil_of_length_eq_zero (by rw [Lib.strCells_length];exact hb0)
   rw [hb0]at hf
   simp [Builtin.append_,run_underlying hut',run_underlying hu',sizeOf,typeInfo,hi,hisz,Builtin.lenOf,hb0,hf,hn]
  ·rename_i hb0
   cases h
   have hr:=run_append_nil_string (P:=P) w t u ty e i (.int .u8 0) hut' hu' hi hz' b (by omega) (by simp only [maxLen]at hmx;omega) (by rw [hbyt];omega)
   have e1:(b.data.map fun b=>Value.int .u8 b.toNat)=(Lib.strCells b).toArray:=by
    apply Array.ext'
    simp [Lib.strCells]
   rw [e1]at hr
   have:=grown H 0 0 [] [] hR rfl rfl ⟨rfl,by simp⟩ (by omega) (by omega) (by simpa using hr)
   simpa using this
 ·-- onto an own row
  rename_i ii len c0
  split at h
  case h_2=>cases h
  rename_i k hk
  split at h
  case isFalse=>cases h
  rename_i hc
  obtain⟨hcl,hii,hkt,hkes,hll,hbb,hmx⟩:=hc
  cases h
  obtain⟨en,cap,_,hen,hlc,hcap,rfl⟩:=hs.sl_ hcl
  subst hcl
  obtain⟨cur,fr,hcur,hcsz,hes,hfr,hcells⟩:=hR.cells ii k en (hget_some hk) (hR.noMapE (hget_some hk) hen hkes) hen
  have hown:=hR.own ii en hii hen
  have hfr0:fr=(0,0):=(hfr hii).2 (by rw [hkes];rfl)
  subst hfr0
  obtain⟨hcap1,hcap2⟩:=hcap rfl 1 (by rw [hes,hkes])
  rw [hkt]at hcur
  have hcursz:cur.size=cap:=by rw [hcsz hii,←hcap1];omega
  obtain⟨olds,ho⟩:∃olds,olds=cur.toList.take c0:=⟨_,rfl⟩
  have holl:olds.length=c0:=by
   rw [ho,List.length_take,Array.length_toList,hcursz]
   exact Nat.min_eq_left hlc
  have hvo:Vs m (k.cells.take c0) olds:=by
   refine⟨by rw [holl,List.length_take];omega,fun j x hj=>?_⟩
   have hjl:j<c0:=by
    rcases Nat.lt_or_ge j c0 with h | h
    ·exact h
    ·rw [List.getElem?_eq_none (by simp;omega)]at hj;cases hj
   rw [List.getElem?_take_of_lt hjl]at hj
   obtain⟨y,p,q⟩:=hcells j x hj
   rw [hown.2,Nat.zero_add]at p
   exact⟨y,by rw [ho,List.getElem?_take_of_lt hjl];simpa using p,q⟩
  have hvn:Vs m (k.cells.take c0++iv .u8 (nums b)) (olds++Lib.strCells b):=hvo.append hvb
  have hRk:=hR.kill ii
  have hkept:∀ (j:Nat) (q:Blk) (e':Ent),nro≤j→(H.set ii none)[j]?=some (some q)→m[j]?=some e'→e'.b≠en.b:=by
   intro j q e' hj hq he'
   by_cases ej:ii=j
   ·subst ej
    have hil:ii<H.length:=(gsI.1 (hget_some hk)).1
    rw [List.getElem?_set_self hil]at hq;cases hq
   ·rw [List.getElem?_set_ne ej]at hq
    exact hR.apart j ii q k e' en hj hii (Ne.symm ej) hq (hget_some hk) he' hen
  have hkept':∀ (j:Nat) (q:Blk) (e':Ent),(H.set ii none)[j]?=some (some q)→m[j]?=some e'→e'.b≠en.b:=by
   intro j q e' hq he'
   rcases Nat.lt_or_ge j nro with hj | hj
   ·have:=hR.ro j e' hj he';have:=hown.1;omega
   ·exact hkept j q e' hj hq he'
  by_cases hroom:c0+b.size≤cap
  ·-- there is room
   have hr:=Lib.run_append_room_string (P:=P) w t u ty e i hut' hu' hi hisz en.b c0 cap cur hcur b hroom (by omega)
   have e0:en.o=0:=hown.2
   obtain⟨cs,hcs⟩:∃cs,cs=(cur.toList.take c0++Lib.strCells b++cur.toList.drop (c0+b.size)).toArray:=⟨_,rfl⟩
   rw [←hcs]at hr
   have hcs1:cs.size=cur.size:=by
    rw [hcs]
    simp only [List.size_toArray,laP,List.length_take,List.length_drop,Array.length_toList,Lib.strCells_length]
    omega
   have hR2:=hRk.add (w':=w.setRow en.b cs) (b:=en.b) (cs:=cs) (ty:=e) (fr:=(0,0)) (es:=some 1) (cells:=k.cells.take c0++iv .u8 (nums b)) (by simp [World.setRow])
    (fun j q e' hq he'=>setRow_other w en.b _ _ (hkept' j q e' hq he')) hown.1 (setRow_heap w en.b cur _ e _ hcur) (fun o _ h=>by simp at h) (fun _=>rfl) hkept
    (fun j x hx=>by
     obtain⟨y,p,q⟩:=hvn.2 j x hx
     refine⟨y,?_,q.mono (pre_app _ _)⟩
     have hj:j<(olds++Lib.strCells b).length:=(gsI.1 p).1
     rw [hcs,List.getElem?_toArray,←ho,gaL hj]
     exact p)
   refine⟨_,_,_,by rw [e0];exact hr,pre_app _ _,?_,hR2,Below.trans (.refl _ _) ⟨rfl,rfl,rfl,by simp [World.setRow],fun k hk=>setRow_other w en.b k _ (by have:=hown.1;omega)⟩⟩
   have hsl:(H.set ii none).length=H.length:=by simp
   have:V (m++[⟨en.b,0,cs.size,some 1⟩]) (.slice (some ⟨H.length,0,none⟩) (c0+b.size) (c0+b.size)) (.slice (some ⟨en.b,0+0,none⟩) (c0+b.size) cap):=
    .one (.sl (e:=⟨en.b,0,cs.size,some 1⟩) (by rw [←hlen2];simp) hroom (fun _ s hs=>by cases hs;exact⟨by show _=cs.size;rw [hcs1,hcursz,Nat.mul_one],hcap2⟩))
   simpa using this
  ·-- a new row
   have holds:∀ (j:Nat) (u:Value),olds[j]?=some u→w.cell? ((⟨en.b,en.o+0,none⟩:Addr).add j)=some u:=by
    intro j u hu'
    have hj:j<c0:=by rw [←holl];exact (gsI.1 hu').1
    rw [ho,List.getElem?_take_of_lt hj]at hu'
    rw [add_none,hown.2,Nat.add_zero,Nat.zero_add]
    simp only [World.cell?,hcur]
    simpa using hu'
   have hr:=Lib.run_append_grow_string (P:=P) w t u ty e i (.int .u8 0) hut' hu' hi hz' ⟨en.b,en.o+0,none⟩ c0 cap olds (by rw [hisz,holl,Nat.mul_one]) holds b (by omega)
    (by simp only [maxLen]at hmx;omega) (by rw [hbyt];exact growslice_fits (by omega) (by omega))
   have:=grown (H.set ii none) c0 cap olds (k.cells.take c0) hRk (by simp) holl hvo (by omega) hmx hr
   simpa using this
 ·cases h
theorem app2_run(hR:Rel nro base γ m H w){t u ty:TypeId}{s x s' x' v:Value}{H':AH}(hs:V m s s')(hx:V m x x')(h:xapp2 P nro t u s x H=some (v,H')) :
  ∃m' v' w',(Builtin.append_ #[t,u] ty #[s',x']).run P w=.ok v' w'∧m <+: m'∧V m' v v'∧Rel nro base γ m' H' w'∧Below base w w':=by
 unfold xapp2 at h
 split at h
 ·rename_i hu;exact appstr_run hR hu hs hx h
 ·exact appmk_run hR hs hx h
end
end
section
theorem mblk_ty(t:TypeId)(l:List (Value×Value)):(mblk t l).ty=t:=rfl
section
variable {P:Program} {nro n base:Nat} {γ:Nat→Option Nat} {m:List Ent} {H:AH} {α:Fm} {a:Act} {w:World}
theorem mapR_nil:MapR m [] #[] 0:=⟨rfl,fun j p hp=>(by cases hp),rfl,fun j en h=>(by simp at h)⟩
theorem Rel.addMap(hR:Rel nro base γ m H w)(t:TypeId):Rel nro base γ (m++[⟨w.heap.size,0,0,none⟩]) (H++[some (mblk t [])]) (w.alloc (.map #[] 0)):=by
 have hpre:=pre_app m ⟨w.heap.size,0,0,none⟩
 have hsz:(w.alloc (.map #[] 0)).heap.size=w.heap.size+1:=by simp
 have hnew:(w.alloc (.map #[] 0)).heap[w.heap.size]?=some (.map #[] 0):=heap_alloc_new w _
 have hold:∀ (i:Nat) (e:Ent),m[i]?=some e→(w.alloc (.map #[] 0)).heap[e.b]?=w.heap[e.b]?:=fun i e he=>Below.heap_alloc _ _ _ (hR.inb i e he)
 refine⟨by simp [hR.len],by have:=hR.le;simp;omega,by have:=hR.base_le;omega,?_,?_,?_,?_,?_,?_,?_⟩
 ·intro i e he
  rcases app_one he with ⟨_,he⟩ | ⟨_,rfl⟩
  ·have:=hR.inb i e he;omega
  ·show w.heap.size<_;omega
 ·intro i e hi he
  rcases app_one he with ⟨_,he⟩ | ⟨h0,rfl⟩
  ·exact hR.ro i e hi he
  ·have h1:=hR.le;have h2:=hR.len;omega
 ·intro i e hi he
  rcases app_one he with ⟨_,he⟩ | ⟨_,rfl⟩
  ·exact hR.own i e hi he
  ·exact⟨hR.base_le,rfl⟩
 ·intro i k e l hk hl he
  rcases app_one hk with ⟨hlt,hk⟩ | ⟨h0,hk⟩
  ·rw [gaL (by rw [hR.len];exact hlt)]at he
   obtain⟨h1,h2,h3,es0,cl,h4,h5⟩:=hR.maps i k e l hk hl he
   exact⟨h1,h2,h3,es0,cl,(hold i e he).trans h4,h5.mono hpre⟩
  ·cases hk
   cases hl
   rcases app_one he with ⟨hlt,he⟩ | ⟨_,rfl⟩
   ·have:=hR.len;omega
   ·exact⟨rfl,rfl,rfl,_,_,hnew,mapR_nil⟩
 ·intro i k e hk hm he
  rcases app_one hk with ⟨hlt,hk⟩ | ⟨h0,hk⟩
  ·rw [gaL (by rw [hR.len];exact hlt)]at he
   obtain⟨cs0,fr0,h1,h2,h3,h4,h5⟩:=hR.cells i k e hk hm he
   exact⟨cs0,fr0,(hold i e he).trans h1,h2,h3,h4,fun j x hx=>let ⟨y,p,q⟩:=h5 j x hx;⟨y,p,q.mono hpre⟩⟩
  ·cases hk
   cases hm
 ·intro i j ki kj ei ej hi hj hne hki hkj hei hej
  rcases app_one hki with ⟨hil,hki⟩ | ⟨hi0,hki⟩
  ·rw [gaL (by rw [hR.len];exact hil)]at hei
   rcases app_one hkj with ⟨hjl,hkj⟩ | ⟨hj0,hkj⟩
   ·rw [gaL (by rw [hR.len];exact hjl)]at hej
    exact hR.apart i j ki kj ei ej hi hj hne hki hkj hei hej
   ·rcases app_one hej with ⟨hlt,hej⟩ | ⟨_,rfl⟩
    ·have:=hR.len;omega
    ·have:=hR.inb i ei hei
     show ei.b≠w.heap.size
     omega
  ·rcases app_one hkj with ⟨hjl,hkj⟩ | ⟨hj0,hkj⟩
   ·rw [gaL (by rw [hR.len];exact hjl)]at hej
    rcases app_one hei with ⟨hlt,hei⟩ | ⟨_,rfl⟩
    ·have:=hR.len;omega
    ·have:=hR.inb j ej hej
     show w.heap.size≠ej.b
     omega
   ·omega
 ·exact hR.globs (nlE _) (fun i e h=>pre_get hpre h) (fun i k hi hk=>by
   rcases app_one hk with ⟨_,hk⟩ | ⟨h0,_⟩
   ·exact hk
   ·have:=hR.le;omega) (fun i k e _ hk he=>hold i e he)
theorem Rel.writeMap(hR:Rel nro base γ m H w){i:Nat}{k:Blk}{e:Ent}{l0 l:List (Value×Value)}(hi:nro≤i)(hk:H[i]?=some (some k))(hkm:k.ents=some l0)(he:m[i]?=some e){es:Array MapEntry}{cl:Nat}(hm:MapR m l es cl) :
  Rel nro base γ m (H.set i (some (mblk k.ty l))) { w with heap:=w.heap.setIfInBounds e.b (.map es cl) }:=by
 have hil:i<H.length:=(gsI.1 hk).1
 have heb:=hR.inb i e he
 obtain⟨_,_,hes,es0,cl0,g1,_⟩:=hR.maps i k e l0 hk hkm he
 obtain⟨hn1,hn2⟩:=MapKept.heap_set (o':=Obj.map es cl) g1
 have hs:∀ (j:Nat) (q:Blk),(H.set i (some (mblk k.ty l)))[j]?=some (some q)→(j=i∧q=mblk k.ty l)∨(j≠i∧H[j]?=some (some q)):=by
  intro j q h
  by_cases ej:i=j
  ·subst ej
   rw [List.getElem?_set_self hil]at h
   cases h;exact .inl ⟨rfl,rfl⟩
  ·rw [List.getElem?_set_ne ej]at h;exact .inr ⟨Ne.symm ej,h⟩
 have hb:∀ (j:Nat) (q:Blk) (e':Ent),j≠i→H[j]?=some (some q)→m[j]?=some e'→e'.b≠e.b:=by
  intro j q e' hne hq he'
  rcases Nat.lt_or_ge j nro with hj | hj
  ·have:=hR.ro j e' hj he';have:=(hR.own i e hi he).1;omega
  ·exact hR.apart j i q k e' e hj hi hne hq hk he' he
 refine⟨by simp [hR.len],by simpa using hR.le,by simpa using hR.base_le,fun j e' he'=>by simpa using hR.inb j e' he',hR.ro,hR.own,?_,?_,?_,hR.globs (nlE _) (fun _ _ h=>h) (fun j q hj h=>(hs j q h).elim (fun h=>by have:=h.1;omega) (fun h=>h.2)) (fun j q e' hj _ he'=>hn2 _ (by have:=hR.ro j e' hj he';have:=(hR.own i e hi he).1;omega))⟩
 ·intro j q e' l' hq hl he'
  rcases hs j q hq with ⟨rfl,rfl⟩ | ⟨hne,hq⟩
  ·rw [he]at he'
   cases he'
   cases hl
   exact⟨rfl,rfl,hes,es,cl,hn1,hm⟩
  ·obtain⟨h1,h2,h3,es1,cl1,h4,h5⟩:=hR.maps j q e' l' hq hl he'
   exact⟨h1,h2,h3,es1,cl1,(hn2 _ (hb j q e' hne hq he')).trans h4,h5⟩
 ·intro j q e' hq hqm he'
  rcases hs j q hq with ⟨rfl,rfl⟩ | ⟨hne,hq⟩
  ·cases hqm
  ·obtain⟨cs0,fr0,h1,h2⟩:=hR.cells j q e' hq hqm he'
   exact⟨cs0,fr0,(hn2 _ (hb j q e' hne hq he')).trans h1,h2⟩
 ·intro j1 j2 k1 k2 e1 e2 h1 h2 hne hk1 hk2 he1 he2
  have h1':∃q,H[j1]?=some (some q):=by rcases hs j1 k1 hk1 with ⟨rfl,_⟩ | ⟨_,h⟩;exact⟨k,hk⟩;exact⟨_,h⟩
  have h2':∃q,H[j2]?=some (some q):=by rcases hs j2 k2 hk2 with ⟨rfl,_⟩ | ⟨_,h⟩;exact⟨k,hk⟩;exact⟨_,h⟩
  obtain⟨q1,hq1⟩:=h1'
  obtain⟨q2,hq2⟩:=h2'
  exact hR.apart j1 j2 q1 q2 e1 e2 h1 h2 hne hq1 hq2 he1 he2
theorem makeMap_run(hR:Rel nro base γ m H w){t:TypeId}{r r':Option Value}{v:Value}{H':AH}(hr:(r=none∧r'=none)∨∃x x',r=some x∧r'=some x'∧V m x x')(h:xmakeMap P t r H=some (v,H')) :
  ∃m' v' w',(Instr.makeMap t r').run P w=.ok v' w'∧m <+: m'∧V m' v v'∧Rel nro base γ m' H' w'∧Below base w w':=by
 have hv:V (m++[⟨w.heap.size,0,0,none⟩]) (.map (some H.length)) (.map (some w.heap.size)):=.one (.mp (e:=⟨w.heap.size,0,0,none⟩) (by rw [←hR.len];simp))
 unfold xmakeMap at h
 split at h
 ·rename_i hu
  cases h
  rcases hr with ⟨_,rfl⟩ | ⟨x,x',e,_⟩
  ·refine⟨_,_,_,?_,pre_app _ _,hv,hR.addMap t,(Below.refl _ _).alloc hR.base_le _⟩
   simp [Instr.makeMap]
  ·cases e
 ·rename_i kk z hu
  cases h
  rcases hr with ⟨e,_⟩ | ⟨x,x',e,rfl,hx⟩
  ·cases e
  ·cases e
   obtain rfl:=hx.int_
   refine⟨_,_,_,?_,pre_app _ _,hv,hR.addMap t,(Below.refl _ _).alloc hR.base_le _⟩
   simp [Instr.makeMap,run_underlying (und_some hu (by simp)),asInt,asIntOf]
 ·cases h
theorem same_bits{kt:TypeId}{k k':Value}(h:keyOk P kt k=true)(h':keyOk P kt k'=true)(he:keyEq k k'=true):Instr.sameBits 10000 k' k=true:=by
 unfold keyOk at h h'
 split at h
 ·rename_i kk k1 z hu
  rw [hu]at h'
  cases k' <;> simp only []at h' <;> try (cases h';done)
  simp only [decide_eq_true_eq]at h h'
  subst h h'
  simp only [keyEq,beq_iff_eq]at he
  subst he
  simp [Instr.sameBits]
 ·rename_i z hu
  rw [hu]at h'
  cases k' <;> simp only []at h' <;> try (cases h';done)
  simp only [keyEq]at he
  have:=(MapKept.bytes_beq _ _).1 he
  subst this
  simp only [Instr.sameBits]
  exact (MapKept.bytes_beq _ _).2 rfl
 ·rename_i n e cs hu
  cases hee:und P e <;> rw [hee]at h <;> simp only []at h <;> try (cases h;done)
  rename_i kk
  rw [hu]at h'
  cases k' <;> simp only []at h' <;> try (cases h';done)
  rename_i ds
  rw [hee]at h'
  simp only [Bool.and_eq_true,decide_eq_true_eq]at h h'
  have h1:=allK_spec h.1.1.2
  have h2:=allK_spec h'.1.1.2
  simp only [keyEq,beq_iff_eq]at he
  have e1:cs.toList=ds.toList:=by rw [h1,h2,he]
  have e2:cs=ds:=Array.toList_inj.1 e1
  subst e2
  show ((cs.size==cs.size)&&((cs.toList.zip cs.toList).all fun (x,y)=>Instr.sameBits 9999 x y))=true
  simp only [beq_self_eq_true,Bool.true_and]
  rw [h1]
  generalize cs.toList.map num=xs
  rw [alT]
  intro p hp
  have:∀ (l:List Int) (p:Value×Value),p∈(iv kk l).zip (iv kk l)→Instr.sameBits 9999 p.1 p.2=true:=by
   intro l
   induction l with
   | nil=>intro p hp;cases hp
   | cons x l ih=>
    intro p hp
    simp only [iv,List.map_cons,List.zip_cons_cons,List.mem_cons]at hp
    rcases hp with rfl | hp
    ·simp [Instr.sameBits]
    ·exact ih p hp
  exact this xs p hp
 ·cases h
theorem born_mod{es:Array MapEntry}{j:Nat}{f:MapEntry→MapEntry}(hf:∀e,(f e).born=e.born)(h:∀ (j:Nat) (en:MapEntry),es[j]?=some en→en.born=j):∀ (q:Nat) (en:MapEntry),(es.modify j f)[q]?=some en→en.born=q:=by
 intro q en hq
 rw [Array.getElem?_modify]at hq
 split at hq
 ·cases he:es[q]? with
  | none=>rw [he]at hq;cases hq
  | some e0=>
   rw [he]at hq
   cases hq
   rw [hf]
   exact h q e0 he
 ·exact h q en hq
theorem born_push{es:Array MapEntry}{e0:MapEntry}(hb:es.size=e0.born)(h:∀ (j:Nat) (en:MapEntry),es[j]?=some en→en.born=j):∀ (q:Nat) (en:MapEntry),(es.push e0)[q]?=some en→en.born=q:=by
 intro q en hq
 rw [Array.getElem?_push]at hq
 split at hq
 ·rename_i e
  cases hq
  omega
 ·exact h q en hq
theorem below_set{r:Nat}(hb:base≤r)(o:Obj):Below base w { w with heap:=w.heap.setIfInBounds r o }:=
 ⟨rfl,rfl,rfl,by simp,fun k hk=>by simp [show r≠k by omega]⟩
theorem mapUpd_run(hR:Rel nro base γ m H w){t:TypeId}{x k z x' k' z' v:Value}{H':AH}(hx:V m x x')(hk:V m k k')(hz:V m z z')(h:xmapUpd P nro t x k z H=some (v,H')) :
  ∃w',(Instr.mapUpdate t x' k' z').run P w=.ok () w'∧v=undef∧Rel nro base γ m H' w'∧Below base w w':=by
 unfold xmapUpd at h
 split at h
 case h_2=>cases h
 rename_i kt et i hu
 split at h
 case h_2=>cases h
 rename_i b hb
 split at h
 case h_2=>cases h
 rename_i l hl
 split at h
 case isFalse=>cases h
 rename_i hc
 obtain⟨hi,hko,hmo,hnt⟩:=hc
 cases h
 obtain⟨e,he,rfl⟩:=hx.map_
 obtain⟨_,_,_,es,cl,g1,g2⟩:=hR.maps i b e l (hget_some hb) hl he
 have hown:=hR.own i e hi he
 have hkp:=keyOk_plain hko
 obtain rfl:k'=k:=hk.eq (by
  cases k <;> first | exact hkp | cases hkp)
 have hz2:=hz.v2 hnt
 have hf:=find_run (P:=P) hko hmo g2 w
 have hck:=checkKey_run (P:=P) hko false 9998 w
 have hck':(Instr.checkKey false 10000 kt k').run P w=.ok () w:=hck
 cases hm:mfind k' l with
 | some j=>
  rw [hm]at hf
  simp only [Option.map_some]at hf
  obtain⟨hj,p,hp,heq⟩:=mfind_lt hm
  obtain⟨_,en,a1,a2,a3⟩:=g2.2.1 j p hp
  have hmp:mput k' z l=l.set j (k',z):=by simp [mput,hm]
  have hsb:=same_bits hko (alT.1 hmo p (moG hp)) heq
  rw [←a2]at hsb
  have hjs:j<es.size:=(asI.1 a1).1
  rw [hmp]
  refine⟨_,?_,rfl,hR.writeMap hi (hget_some hb) hl he (cl:=cl) (es:=es.modify j fun e=>{ e with key:=k',val:=z' }) ⟨by simp [g2.1],fun q pp hq=>?_,by rw [List.length_set];exact g2.2.2.1,born_mod (fun _=>rfl) g2.2.2.2⟩,below_set hown.1 _⟩
  ·unfold Instr.mapUpdate
   simp only [Sem.run_bind,run_underlying (und_some hu (by simp)),Result.andThen_ok,MapKept.run_getObj_map g1,hck',hf]
   have e1:((es[j]?).map (·.key)).getD k'=en.key:=by rw [a1];rfl
   rw [e1]
   unfold Instr.keyThatStays
   rw [if_pos hsb]
   simp only [Sem.run_pure,Result.andThen_ok,MapKept.run_setObj_map _ g1]
  ·by_cases hqj:j=q
   ·subst hqj
    rw [List.getElem?_set_self hj]at hq
    cases hq
    refine⟨hkp,{ en with key:=k',val:=z' },?_,rfl,hz2⟩
    simp [Array.getElem?_modify,a1]
   ·rw [List.getElem?_set_ne hqj]at hq
    obtain⟨b0,en',b1,b2,b3⟩:=g2.2.1 q pp hq
    refine⟨b0,en',?_,b2,b3⟩
    simp [Array.getElem?_modify,hqj,b1]
 | none=>
  rw [hm]at hf
  simp only [Option.map_none]at hf
  have hmp:mput k' z l=l++[(k',z)]:=by simp [mput,hm]
  rw [hmp]
  refine⟨_,?_,rfl,hR.writeMap hi (hget_some hb) hl he (cl:=cl+1) (es:=es.push { key:=k',val:=z',born:=cl }) ⟨by simp [g2.1],fun q pp hq=>?_,by rw [laP,g2.2.2.1];rfl,born_push (by rw [g2.1,g2.2.2.1]) g2.2.2.2⟩,below_set hown.1 _⟩
  ·unfold Instr.mapUpdate
   simp only [Sem.run_bind,run_underlying (und_some hu (by simp)),Result.andThen_ok,MapKept.run_getObj_map g1,hck',hf,MapKept.run_setObj_map _ g1]
  ·rcases app_one hq with ⟨hlt,hq⟩ | ⟨h0,hq⟩
   ·obtain⟨b0,en',b1,b2,b3⟩:=g2.2.1 q pp hq
    have:=(asI.1 b1).1
    exact⟨b0,en',by rw [Array.getElem?_push,if_neg (by omega)];exact b1,b2,b3⟩
   ·subst hq
    exact⟨hkp,{ key:=k',val:=z',born:=cl },by rw [Array.getElem?_push,if_pos (by rw [g2.1];exact h0)],rfl,hz2⟩
theorem pair_mk{z z':Value}{q:Int}(h:V2 m z z'):V m (.tuple #[z,.int .i64 q]) (.tuple #[z',.int .i64 q]):=by
 refine .tup rfl fun j x hj=>?_
 match j,hj with
 | 0,hj=>cases hj;exact⟨z',rfl,h⟩
 | 1,hj=>cases hj;exact⟨.int .i64 q,rfl,.one (.plain rfl)⟩
 | j+2,hj=>simp at hj
theorem mapEnt_run(hR:Rel nro base γ m H w){t:TypeId}{x k x' k' v:Value}{H':AH}(hx:V m x x')(hk:V m k k')(h:xmapEnt P nro t x k H=some (v,H')) :
  ∃w' v',(Instr.mapEntry t x' k').run P w=.ok v' w'∧V m v v'∧Rel nro base γ m H' w'∧Below base w w':=by
 unfold xmapEnt at h
 split at h
 case h_2=>cases h
 rename_i kt et i hu
 split at h
 case h_2=>cases h
 rename_i b hb
 split at h
 case h_2=>cases h
 rename_i l hl
 split at h
 case isFalse=>cases h
 rename_i hc
 obtain⟨hi,hko,hmo⟩:=hc
 obtain⟨e,he,rfl⟩:=hx.map_
 obtain⟨_,_,_,es,cl,g1,g2⟩:=hR.maps i b e l (hget_some hb) hl he
 have hown:=hR.own i e hi he
 have hkp:=keyOk_plain hko
 obtain rfl:k'=k:=hk.eq (by
  cases k <;> first | exact hkp | cases hkp)
 have hf:=find_run (P:=P) hko hmo g2 w
 have hck:=checkKey_run (P:=P) hko false 9998 w
 have hck':(Instr.checkKey false 10000 kt k').run P w=.ok () w:=hck
 cases hm:mfind k' l with
 | some j=>
  rw [hm]at hf h
  simp only [Option.map_some]at hf h
  obtain⟨hj,p,hp,heq⟩:=mfind_lt hm
  obtain⟨_,en,a1,a2,a3⟩:=g2.2.1 j p hp
  have hsb:=same_bits hko (alT.1 hmo p (moG hp)) heq
  rw [←a2]at hsb
  have hgd:l.getD j (undef,undef)=p:=by rw [gdD,hp];rfl
  have hen:es.toList.getD j default=en:=by rw [gdD,Array.getElem?_toList,a1];rfl
  rw [hgd]at h
  rw [hen]at hf
  cases h
  have hbn:=g2.2.2.2 j en a1
  refine⟨_,_,?_,pair_mk a3,hR.writeMap hi (hget_some hb) hl he (cl:=cl) (es:=es.modify j fun e=>{ e with key:=k' }) ⟨by simp [g2.1],fun q pp hq=>?_,by rw [List.length_set];exact g2.2.2.1,born_mod (fun _=>rfl) g2.2.2.2⟩,below_set hown.1 _⟩
  ·unfold Instr.mapEntry
   simp only [Sem.run_bind,run_underlying (und_some hu (by simp)),Result.andThen_ok,MapKept.run_getObj_map g1,hck',hf]
   have e1:((es[j]?).map (·.key)).getD k'=en.key:=by rw [a1];rfl
   have e2:((es[j]?).map (fun x=>(x.born:Int))).getD 0=(j:Int):=by
    rw [a1]
    show ((en.born:Nat):Int)=j
    rw [hbn]
   rw [e1,e2]
   unfold Instr.keyThatStays
   rw [if_pos hsb]
   simp only [Sem.run_pure,Result.andThen_ok,MapKept.run_setObj_map _ g1,goInt]
  ·by_cases hqj:j=q
   ·subst hqj
    rw [List.getElem?_set_self hj]at hq
    cases hq
    refine⟨hkp,{ en with key:=k' },?_,rfl,a3⟩
    simp [Array.getElem?_modify,a1]
   ·rw [List.getElem?_set_ne hqj]at hq
    obtain⟨b0,en',b1,b2,b3⟩:=g2.2.1 q pp hq
    refine⟨b0,en',?_,b2,b3⟩
    simp [Array.getElem?_modify,hqj,b1]
 | none=>
  rw [hm]at hf h
  simp only [Option.map_none]at hf
  simp only at h
  split at h
  case h_2=>cases h
  rename_i z hz
  split at h
  case isFalse=>cases h
  rename_i hzp
  cases h
  have hz2:=plain2_mk (m:=m) hzp
  have hzr:(zeroValue et).run P w=.ok z w:=by
   unfold zer at hz
   cases hi:P.info? et with
   | none=>rw [hi]at hz;cases hz
   | some it=>
    rw [hi]at hz
    have h':it.zero=some z:=hz
    simp [zeroValue,typeInfo,hi,h']
  refine⟨_,_,?_,pair_mk hz2,hR.writeMap hi (hget_some hb) hl he (cl:=cl+1) (es:=es.push { key:=k',val:=z,born:=cl }) ⟨by simp [g2.1],fun q pp hq=>?_,by rw [laP,g2.2.2.1];rfl,born_push (by rw [g2.1,g2.2.2.1]) g2.2.2.2⟩,below_set hown.1 _⟩
  ·unfold Instr.mapEntry
   have hcl:=g2.2.2.1
   simp only [Sem.run_bind,run_underlying (und_some hu (by simp)),Result.andThen_ok,MapKept.run_getObj_map g1,hck',hf,hzr,MapKept.run_setObj_map _ g1,Sem.run_pure,goInt,hcl]
  ·rcases app_one hq with ⟨hlt,hq⟩ | ⟨h0,hq⟩
   ·obtain⟨b0,en',b1,b2,b3⟩:=g2.2.1 q pp hq
    have:=(asI.1 b1).1
    exact⟨b0,en',by rw [Array.getElem?_push,if_neg (by omega)];exact b1,b2,b3⟩
   ·subst hq
    exact⟨hkp,{ key:=k',val:=z,born:=cl },by rw [Array.getElem?_push,if_pos (by rw [g2.1];exact h0)],rfl,hz2⟩
theorem entSt_run(hR:Rel nro base γ m H w){t:TypeId}{x s z x' s' z' v:Value}{H':AH}(hx:V m x x')(hs:V m s s')(hz:V m z z')(h:xentSt nro x s z H=some (v,H')) :
  ∃w',(Instr.entryStore t x' s' z').run P w=.ok () w'∧v=undef∧Rel nro base γ m H' w'∧Below base w w':=by
 unfold xentSt at h
 split at h
 case h_2=>cases h
 rename_i i q
 split at h
 case h_2=>cases h
 rename_i b hb
 split at h
 case h_2=>cases h
 rename_i l hl
 split at h
 case isFalse=>cases h
 rename_i hc
 obtain⟨hi,hq0,hql,hnt⟩:=hc
 cases h
 obtain⟨e,he,rfl⟩:=hx.map_
 obtain rfl:=hs.int_
 obtain⟨_,_,_,es,cl,g1,g2⟩:=hR.maps i b e l (hget_some hb) hl he
 have hown:=hR.own i e hi he
 have hz2:=hz.v2 hnt
 obtain⟨j,rfl⟩:=Int.eq_ofNat_of_zero_le hq0
 simp only [Int.toNat_natCast]at hql ⊢
 obtain⟨p,hp⟩:∃p,l[j]?=some p:=⟨_,geE hql⟩
 obtain⟨hkp,en,a1,a2,a3⟩:=g2.2.1 j p hp
 have hgd:l.getD j (undef,undef)=p:=by rw [gdD,hp];rfl
 have hjs:j<es.size:=by rw [g2.1];exact hql
 have hfi:es.findIdx? (fun e=>(e.born:Int)==(j:Int))=some j:=by
  rw [Array.findIdx?_eq_some_iff_getElem]
  refine⟨hjs,?_,fun q hq=>?_⟩
  ·have:=g2.2.2.2 j es[j] (Array.getElem?_eq_getElem hjs)
   simp [this]
  ·have:=g2.2.2.2 q es[q] (Array.getElem?_eq_getElem (by omega))
   simp [this]
   omega
 rw [hgd]
 refine⟨_,?_,trivial,hR.writeMap hi (hget_some hb) hl he (cl:=cl) (es:=es.modify j fun e=>{ e with val:=z' }) ⟨by simp [g2.1],fun q pp hq=>?_,by rw [List.length_set];exact g2.2.2.1,born_mod (fun _=>rfl) g2.2.2.2⟩,below_set hown.1 _⟩
 ·unfold Instr.entryStore
  simp only [Sem.run_bind,Result.andThen_ok,MapKept.run_getObj_map g1,asInt,asIntOf,Sem.run_pure,hfi,MapKept.run_setObj_map _ g1]
 ·by_cases hqj:j=q
  ·subst hqj
   rw [List.getElem?_set_self hql]at hq
   cases hq
   refine⟨hkp,{ en with val:=z' },?_,a2,hz2⟩
   simp [Array.getElem?_modify,a1]
  ·rw [List.getElem?_set_ne hqj]at hq
   obtain⟨b0,en',b1,b2,b3⟩:=g2.2.1 q pp hq
   refine⟨b0,en',?_,b2,b3⟩
   simp [Array.getElem?_modify,hqj,b1]
end
end
section
section
variable {P:Program} {nro n base:Nat} {γ:Nat→Option Nat} {m:List Ent} {H:AH} {α:Fm} {a:Act} {w:World}
theorem iv_all(k:IntKind)(l:List Int):(iv k l).all plain1=true:=by
 unfold iv
 rw [List.all_map,alT]
 intro x _
 rfl
theorem copy_store(hR:Rel nro base γ m H w){i off len c:Nat}{k:Blk}{d':Value}{news news':List Value}(hd:V m (.slice (some ⟨i,off,none⟩) len c) d')(hk:hget H i=some k)(hi:nro≤i)(hv:Vs m news news')
  (hl:off+news.length≤k.cells.length):∃ (e:Ent) (c':Nat) (w':World),d'=.slice (some ⟨e.b,off,none⟩) len c'∧(storeCells ⟨e.b,off,none⟩ news').run P w=.ok () w'∧Rel nro base γ m (H.set i (some (k.with_ (setR k.cells off news)))) w'∧Below base w w':=by
 obtain⟨en,c',hen,_,rfl,_⟩:=hd.slw_
 have ho:=hR.own i en hi hen
 obtain⟨w',h1,h2,h3⟩:=storeCells_rel (P:=P) hi hen news news' off 0 H w k hv hR (hget_some hk) (by omega)
 exact⟨en,c',w',by rw [ho.2,Nat.zero_add],h1,h2,h3⟩
theorem copy_run(hR:Rel nro base γ m H w){t u ty:TypeId}{d x d' x' v:Value}{H':AH}(hd:V m d d')(hx:V m x x')(h:xcopy P nro t d x H=some (v,H')) :
  ∃v' w',(Builtin.copy_ #[t,u] ty #[d',x']).run P w=.ok v' w'∧V m v v'∧Rel nro base γ m H' w'∧Below base w w':=by
 unfold xcopy at h
 split at h
 case h_2=>cases h
 rename_i e hu
 have hus:=und_some hu (by simp)
 have known:∀ (news:List Value) (i off len c:Nat) (k:Blk),V m (.slice (some ⟨i,off,none⟩) len c) d'→xcells (szt P e) x H=some news→hget H i=some k→0<szt P e→nro≤i→off+len*szt P e≤k.cells.length →
   ∃v' w',(Builtin.copy_ #[t,u] ty #[d',x']).run P w=.ok v' w'∧V m (.int .i64 ((min (news.length/szt P e) len:Nat):Int)) v'∧Rel nro base γ m (H.set i (some (k.with_ (setR k.cells off (news.take (min (news.length/szt P e) len*szt P e)))))) w'∧Below base w w':=by
  intro news i off len c k hd hnews hk h0 hi hll
  obtain⟨nn,hnn⟩:∃nn,nn=min (news.length/szt P e) len:=⟨_,rfl⟩
  rw [←hnn]
  have hnl:nn≤len:=by omega
  have hnl2:nn*szt P e≤len*szt P e:=Nat.mul_le_mul_right _ hnl
  have hnn2:nn*szt P e≤news.length:=Nat.le_trans (Nat.mul_le_mul_right _ (by omega:nn≤news.length/szt P e)) (Nat.div_mul_le_self _ _)
  have fin:∀ (news':List Value) (hv:Vs m (news.take (nn*szt P e)) news'),(∀w',(Builtin.lenOf x').run P w'=.ok (news.length/szt P e) w')→(Builtin.firstCells (szt P e) nn x').run P w=.ok news'.toArray w →
    ∃v' w',(Builtin.copy_ #[t,u] ty #[d',x']).run P w=.ok v' w'∧V m (.int .i64 (nn:Int)) v'∧Rel nro base γ m (H.set i (some (k.with_ (setR k.cells off (news.take (nn*szt P e)))))) w'∧Below base w w':=by
   intro news' hv hlen hfirst
   obtain⟨en,c',w',rfl,h1,h2,h3⟩:=copy_store (P:=P) hR hd hk hi hv (by simp;omega)
   refine⟨.int .i64 (nn:Int),w',?_,plainV_mk rfl,h2,h3⟩
   have hmin:Nat.min (news.length/szt P e) len=nn:=hnn.symm
   simp [Builtin.copy_,run_underlying hus,hlen,run_sizeOf h0,hmin,hfirst,h1,goInt]
  by_cases hstr:∃s,x=.string s
  ·obtain⟨s,rfl⟩:=hstr
   have:=hx.eq rfl
   subst this
   unfold xcells at hnews
   simp only at hnews
   split at hnews
   case isFalse=>cases hnews
   rename_i hsz
   cases hnews
   rw [hsz]at hnn fin ⊢
   simp only [Nat.mul_one,iv_length,List.length_map,Nat.div_one]at hnn fin ⊢
   have hsl:s.data.toList.length=s.size:=by simp
   rw [hsl]at hnn fin
   refine fin (iv .u8 ((s.data.toList.map fun b=>(b.toNat:Int)).take nn)) ?_ (fun w'=>rfl) ?_
   ·rw [iv_take];exact plain_Vs (iv_all _ _)
   ·show Result.ok ((s.extract 0 nn).data.map fun b=>Value.int .u8 b.toNat) w=_
    congr 1
    have hle:nn≤s.size:=by omega
    apply Array.ext'
    simp only [iv,List.map_take,List.map_map,ByteArray.data_extract,Array.toList_map]
    simp [Function.comp_def]
  ·rcases xcells_slice hR hx hnews (fun s e=>hstr ⟨s,e⟩) with ⟨rfl,rfl⟩ | ⟨ad,cnt,c,news',rfl,hv,hl',hcell⟩
   ·have hn0:nn=0:=by rw [hnn];simp
    refine fin [] ⟨by simp,by simp⟩ (fun w'=>by simp [Builtin.lenOf]) (by simp [Builtin.firstCells])
   ·have hnlen:news.length=cnt*szt P e:=by rw [←hv.1];exact hl'
    have hdiv:news.length/szt P e=cnt:=by rw [hnlen];exact Nat.mul_div_cancel _ h0
    refine fin (news'.take (nn*szt P e)) (hv.take _) (fun w'=>by simp [Builtin.lenOf,hdiv]) ?_
    refine run_firstCells_some w (szt P e) nn ad cnt c _ (by rw [List.length_take,hv.1];omega) (fun j v hj=>?_)
    have hjl:j<nn*szt P e:=by
     rcases Nat.lt_or_ge j (nn*szt P e) with h | h
     ·exact h
     ·rw [List.getElem?_eq_none (by simp;omega)]at hj;cases hj
    rw [List.getElem?_take_of_lt hjl]at hj
    exact hcell j v hj
 split at h
 ·-- into a known block
  rename_i news i off len c hnews
  split at h
  case h_2=>cases h
  rename_i k hk
  split at h
  case isFalse=>cases h
  rename_i hc
  obtain⟨h0,hi,hll⟩:=hc
  cases h
  exact known news i off len c k hd hnews hk h0 hi hll
 ·rename_i news b off hnews
  split at h
  case isFalse=>cases h
  rename_i h0
  cases h
  have hy:∃a c,d'=.slice (some a) 0 c:=by
   cases hd with
   | two h=>cases h with
    | one h=>cases h with
     | plain h=>cases h
     | sl0=>exact⟨_,_,rfl⟩
  obtain⟨a',c',rfl⟩:=hy
  refine⟨.int .i64 0,w,?_,plainV_mk rfl,hR,.refl _ _⟩
  by_cases hstr:∃s,x=.string s
  ·obtain⟨s,rfl⟩:=hstr
   have:=hx.eq rfl
   subst this
   simp [Builtin.copy_,run_underlying hus,Builtin.lenOf,run_sizeOf h0,Builtin.firstCells,goInt,storeCells]
  ·rcases xcells_slice hR hx hnews (fun s e=>hstr ⟨s,e⟩) with ⟨rfl,rfl⟩ | ⟨ad,cnt,c,news',rfl,hv,hl',hcell⟩
   ·simp [Builtin.copy_,run_underlying hus,Builtin.lenOf,run_sizeOf h0,Builtin.firstCells,goInt,storeCells]
   ·simp [Builtin.copy_,run_underlying hus,Builtin.lenOf,run_sizeOf h0,Builtin.firstCells,goInt,storeCells,loadCells,loadCellsFrom]
 ·rename_i news i cc len c hnews
  split at h
  case h_2=>cases h
  rename_i k hk
  split at h
  case isFalse=>cases h
  rename_i hc
  obtain⟨h0,hi,hll⟩:=hc
  cases h
  exact known news i 0 len _ k hd.slxw hnews hk h0 hi (by omega)
 ·cases h
theorem run_v2{S:Sem Value}{x:Value}{w w':World}(h:S.run P w=.ok x w'):(do pure (.value (←S)):Sem Next).run P w=.ok (.value x) w':=by
 simp [h]
theorem xeff_ev{o:Oper}{v:Value}{H':AH}(hR:Rel nro base γ m H w)(ev:∀x∈o.op.operands,V m (α.eval γ x) (a.eval x))(h:xeff P nro γ o.op α H=some (v,H')) :
  ∃m' x w' v',(execOp a.eval o).run P w=.ok x w'∧(x=.value v'∨x=.skip∧v'=undef)∧m <+: m'∧V m' v v'∧Rel nro base γ m' H' w'∧Below base w w':=by
 obtain⟨dst,op,type,pos,after,guard⟩:=o
 simp only at ev h
 have hlen2:m.length=H.length:=hR.len
 have newp:∀ (cs:Array Value),V (m++[⟨w.heap.size,0,cs.size,none⟩]) (.pointer (some ⟨H.length,0,none⟩)) (.pointer (some ⟨w.heap.size,0,none⟩)):=fun cs=>
  .one (.ptr (e:=⟨w.heap.size,0,cs.size,none⟩) (by rw [←hlen2];simp))
 unfold xeff at h
 split at h
 ·rename_i t
  split at h
  case h_2=>cases h
  rename_i z hz
  split at h
  case isFalse=>cases h
  rename_i hp
  cases h
  refine⟨_,_,_,_,?_,.inl rfl,pre_app _ _,newp z.cells,hR.alloc z.cells t none (plain_Vs hp),(Below.refl _ _).alloc hR.base_le _⟩
  refine run_v2 ?_
  simp [Instr.alloc,run_zero hz,newVar,run_newRow]
 ·rename_i t x
  split at h
  case isFalse=>cases h
  rename_i hn
  cases h
  obtain⟨hc,_⟩:=((ev x (by simp [Op.operands])).v2 hn).cells hn
  refine⟨_,_,_,_,?_,.inl rfl,pre_app _ _,newp (a.eval x).cells,hR.alloc (a.eval x).cells t none hc,(Below.refl _ _).alloc hR.base_le _⟩
  refine run_v2 ?_
  simp [Instr.box,newVar,run_newRow]
 ·rename_i t p x
  split at h
  case h_2=>cases h
  rename_i i off hp
  split at h
  case h_2=>cases h
  rename_i k hk
  split at h
  case isFalse=>
   split at h
   case isFalse=>cases h
   rename_i hc
   cases h
   obtain⟨h0,ha,hn,hs,hi⟩:=hc
   have hp':=ev p (by simp [Op.operands])
   rw [hp]at hp'
   have h1:=store0_run (P:=P) (w:=w) hp' (ev x (by simp [Op.operands])) hn hs h0 ha
   refine⟨m,.skip,w,undef,?_,.inr ⟨rfl,rfl⟩,List.prefix_rfl,plainV_mk plainV_undef,hR,Below.refl _ _⟩
   simp [execOp,h1]
  rename_i hc
  cases h
  obtain⟨hi,hn,hs,h0,hl⟩:=hc
  have hp':=ev p (by simp [Op.operands])
  rw [hp]at hp'
  obtain⟨w',h1,h2,h3⟩:=storeAt_run (P:=P) hR hp' (ev x (by simp [Op.operands])) hi hk hn hs h0 hl
  refine⟨m,.skip,w',undef,?_,.inr ⟨rfl,rfl⟩,List.prefix_rfl,plainV_mk plainV_undef,h2,h3⟩
  simp [execOp,h1]
 ·rename_i t len ps
  split at h
  case h_2=>cases h
  rename_i e hu
  split at h
  case h_2=>cases h
  rename_i z hz
  split at h
  case isFalse=>cases h
  rename_i hc
  obtain⟨h0,hzs,hp,hl,hn⟩:=hc
  split at h
  case h_2=>cases h
  rename_i cs hf
  cases h
  obtain⟨m',v',w',h1,h2,h3,h4,h5⟩:=buildSlice_run (P:=P) hR (t:=t) (len:=len) (parts:=ps.toList.map fun p=>(p.1,α.eval γ p.2)) (parts':=ps.toList.map fun p=>(p.1,a.eval p.2)) hu hz h0 hzs hp hl
   (by rw [List.all_map];exact hn) (by simp) (fun j p hj=>by
   rw [gmP]at hj ⊢
   cases hq:ps.toList[j]? with
   | none=>rw [hq]at hj;cases hj
   | some q=>
    rw [hq]at hj
    cases hj
    refine⟨_,rfl,rfl,ev q.2 ?_⟩
    simp only [Op.operands,List.mem_toArray,List.mem_map]
    exact⟨q,moG hq,rfl⟩) hf
  refine⟨m',_,w',v',run_v2 ?_,.inl rfl,h2,h3,h4,h5⟩
  rw [←h1]
  congr 2
  apply Array.toList_inj.1
  simp
 ·rename_i t l c
  split at h
  case h_2=>cases h
  rename_i e k1 l1 k2 c1 hu hl hc
  split at h
  case h_2=>cases h
  rename_i z hz
  split at h
  case isFalse=>cases h
  rename_i hcond
  obtain⟨h0,hzs,hp,hl0,hlc,hb,hm⟩:=hcond
  cases h
  have hl':=ev l (by simp [Op.operands])
  have hc':=ev c (by simp [Op.operands])
  rw [hl]at hl'
  rw [hc]at hc'
  obtain⟨m',v',w',h1,h2,h3,h4,h5⟩:=makeSlice_run (P:=P) hR (t:=t) (k:=k1) (k':=k2) hu hz h0 hzs hp hl0 hlc hb hm
  refine⟨m',_,w',v',run_v2 ?_,.inl rfl,h2,h3,h4,h5⟩
  rw [hl'.int_,hc'.int_]
  exact h1
 ·rename_i s d x
  split at h
  case h_2=>cases h
  rename_i e b hs hd hx
  split at h
  case h_2=>cases h
  rename_i he
  cases h
  have hx':=ev x (by simp [Op.operands])
  rw [hx]at hx'
  obtain⟨m',v',w',h1,h2,h3,h4,h5⟩:=bytes_run (P:=P) hR (b:=b) hs hd he
  refine⟨m',_,w',v',run_v2 ?_,.inl rfl,h2,h3,h4,h5⟩
  rw [hx'.eq rfl]
  exact h1
 ·rename_i c
  obtain⟨callee,args,argTypes⟩:=c
  obtain⟨args⟩:=args
  obtain⟨argTypes⟩:=argTypes
  simp only at h
  split at h
  ·rename_i s x t u
   split at h
   case isFalse=>
    obtain⟨m',v',w',h1,h2,h3,h4,h5⟩:=app2_run (P:=P) (ty:=type) hR (ev s (by simp [Op.operands,Call.operands])) (ev x (by simp [Op.operands,Call.operands])) h
    refine⟨m',_,w',v',?_,.inl rfl,h2,h3,h4,h5⟩
    simp [execOp,resolve,invoke,builtin,h1]
   rename_i htu
   subst htu
   obtain⟨m',v',w',h1,h2,h3,h4,h5⟩:=append_run (P:=P) (ty:=type) hR (ev s (by simp [Op.operands,Call.operands])) (ev x (by simp [Op.operands,Call.operands])) h
   refine⟨m',_,w',v',?_,.inl rfl,h2,h3,h4,h5⟩
   simp [execOp,resolve,invoke,builtin,h1]
  ·rename_i d x t u
   obtain⟨v',w',h1,h2,h3,h4⟩:=copy_run (P:=P) (u:=u) (ty:=type) hR (ev d (by simp [Op.operands,Call.operands])) (ev x (by simp [Op.operands,Call.operands])) h
   refine⟨m,_,w',v',?_,.inl rfl,List.prefix_rfl,h2,h3,h4⟩
   simp [execOp,resolve,invoke,builtin,h1]
  ·cases h
 ·rename_i t r
  obtain⟨m',v',w',h1,h2,h3,h4,h5⟩:=makeMap_run (P:=P) (r:=r.map (α.eval γ)) (r':=r.map a.eval) hR (by
   cases r with
   | none=>exact .inl ⟨rfl,rfl⟩
   | some x=>exact .inr ⟨_,_,rfl,rfl,ev x (by simp [Op.operands])⟩) h
  exact⟨m',_,w',v',run_v2 h1,.inl rfl,h2,h3,h4,h5⟩
 ·rename_i t x k z
  obtain⟨w',h1,rfl,h2,h3⟩:=mapUpd_run (P:=P) hR (ev x (by simp [Op.operands])) (ev k (by simp [Op.operands])) (ev z (by simp [Op.operands])) h
  refine⟨m,.skip,w',undef,?_,.inr ⟨rfl,rfl⟩,List.prefix_rfl,plainV_mk plainV_undef,h2,h3⟩
  simp [execOp,h1]
 ·rename_i t x k
  obtain⟨w',v',h1,hv,h2,h3⟩:=mapEnt_run (P:=P) hR (ev x (by simp [Op.operands])) (ev k (by simp [Op.operands])) h
  exact⟨m,_,w',v',run_v2 h1,.inl rfl,List.prefix_rfl,hv,h2,h3⟩
 ·rename_i t x k z
  obtain⟨w',h1,rfl,h2,h3⟩:=entSt_run (P:=P) (t:=t) hR (ev x (by simp [Op.operands])) (ev k (by simp [Op.operands])) (ev z (by simp [Op.operands])) h
  refine⟨m,.skip,w',undef,?_,.inr ⟨rfl,rfl⟩,List.prefix_rfl,plainV_mk plainV_undef,h2,h3⟩
  simp [execOp,h1]
 ·cases h
theorem xeff_av{o:Oper}{v:Value}{H':AH}(hok:o.op.operands.all (okOpd n γ)=true)(h:xeff P nro γ o.op α H=some (v,H')):AV P nro n γ o α H v H':=
 fun m base w a hR hF=>xeff_ev hR (fun x hx=>hF.eval hR (by
  obtain⟨i,hi,rfl⟩:=Array.mem_iff_getElem.1 hx
  exact (Array.all_eq_true.1 hok) i hi)) h
end
end
section
def xop(P:Program)(nro:Nat)(γ:Nat→Option Nat)(op:Op)(α:Fm)(H:AH):Option (Value×AH):=
 match xread P γ op α H with
 | some v=>some (v,H)
 | none=>xeff P nro γ op α H
def callable(P:Program)(f:FuncId):Bool:=
 match P.funcs[f]? with
 | some fn=>!(fn.name == "runtime.NumGoroutine")
 | none=>false
def calleeOf(γ:Nat→Option Nat)(α:Fm):Op→Option (FuncId×Array Value)
 | .call ⟨.value (.func f),args,_⟩=>some (f,args.map (α.eval γ))
 | _=>none
def calleeX(P:Program)(γ:Nat→Option Nat)(α:Fm):Op→Option (FuncId×Array Value)
 | .call ⟨.value (.tmp t),args,_⟩=>(match α t with
  | .func (.func f) fs cs=>some (f,fs++args.map (α.eval γ)++cs)
  | .func (.method nm) fs cs=>(match fs.toList with
   | [.iface ty v]=>(match xmeth P ty nm,xrecv P ty nm v with
    | some (f,_),some u=>some (f,#[u]++args.map (α.eval γ))
    | _,_=>none)
   | _=>none)
  | _=>none)
 | .call ⟨.invoke r name,args,_⟩=>(match α.eval γ r with
  | .iface t v=>(match xmeth P t name,xrecv P t name v with
   | some (f,_),some u=>some (f,#[u]++args.map (α.eval γ))
   | _,_=>none)
  | _=>none)
 | _=>none
inductive St where
 | val (v:Value) (H:AH)
 | call (f:FuncId) (args:Array Value)
 | no
def step1(P:Program)(nro n:Nat)(γ:Nat→Option Nat)(ops:Array Oper)(o:Oper)(α:Fm)(H:AH):St:=
 match wantedA ops n α o with
 | none=>.no
 | some false=>.val undef H
 | some true=>
  match calleeOf γ α o.op with
  | some (f,args)=>.call f args
  | none=>match xop P nro γ o.op α H with
   | some (v,H')=>.val v H'
   | none=>match calleeX P γ α o.op with
    | some (f,args)=>.call f args
    | none=>.no
def XL(P:Program)(nro n:Nat)(γ:Nat→Option Nat)(ops:Array Oper)(Q:Fm→AH→Prop):List Oper→Fm→AH→Prop
 | [],α,H=>Q α H
 | o::rest,α,H=>
  match step1 P nro n γ ops o α H with
  | .no=>False
  | .val v H'=>XL P nro n γ ops Q rest (α.put o.dst v) H'
  | .call f args=>callable P f=true∧AC P nro γ f args H fun v H'=>XL P nro n γ ops Q rest (α.put o.dst v) H'
def QL(P:Program)(n:Nat)(γ:Nat→Option Nat)(ops:Array Oper)(Q:Fm→Prop)(H:AH):List Oper→Fm→Prop
 | [],α=>Q α
 | o::rest,α=>
  match wantedA ops n α o with
  | none=>False
  | some false=>QL P n γ ops Q H rest (α.put o.dst undef)
  | some true=>
   match calleeOf γ α o.op with
   | some (f,args)=>callable P f=true∧∃v,VC P f args v∧(args.all plainV&&plainV v)=true∧QL P n γ ops Q H rest (α.put o.dst v)
   | none=>
    match xread P γ o.op α H with
    | some v=>QL P n γ ops Q H rest (α.put o.dst v)
    | none=>False
def SL(P:Program)(n:Nat)(γ:Nat→Option Nat)(ops:Array Oper)(Q:Fm→Prop)(H:AH):List Oper→Fm→Prop
 | [],α=>Q α
 | o::rest,α=>
  match wantedA ops n α o with
  | none=>False
  | some false=>SL P n γ ops Q H rest (α.put o.dst undef)
  | some true=>
   match xread P γ o.op α H with
   | some v=>SL P n γ ops Q H rest (α.put o.dst v)
   | none=>False
section
variable {P:Program} {nro n base:Nat} {γ:Nat→Option Nat} {m:List Ent} {H:AH} {α:Fm} {a:Act} {w:World} {Q:Exit→Fm→AH→Prop}
def okL(n:Nat)(γ:Nat→Option Nat)(l:List Oper):Bool:=l.all fun o=>o.op.operands.all (okOpd n γ)
theorem callable_run{f:FuncId}(h:callable P f=true)(hbd:bodied P f=true)(args:Array Value)(w:World):(callFunc f args).run P w=.ok (.enter f args) w:=by
 unfold callable at h
 split at h
 ·rename_i fn hf
  have h1:¬ fn.name = "runtime.NumGoroutine" := by simpa using h
  have h2:¬ fn.body=none:=by
   intro e
   unfold bodied at hbd
   rw [hf]at hbd
   simp only [e]at hbd
   cases hbd
  simp [callFunc,hf,h1,h2]
 ·cases h
theorem call_run{o:Oper}{f:FuncId}{args:Array Operand}{ts:Array TypeId}(ho:o.op=.call ⟨.value (.func f),args,ts⟩)(h:callable P f=true)(hbd:bodied P f=true)(w:World) :
  (execOp a.eval o).run P w=.ok (.enter f (args.map a.eval)) w:=by
 have he:a.eval (.func f)=.func (.func f) #[] #[]:=rfl
 simp [execOp,ho,resolve,he,Deferred.ofValue,invoke,callable_run h hbd]
theorem call_runV{o:Oper}{f:FuncId}{args:Array Operand}{ts:Array TypeId}{v:Value}(ho:o.op=.call ⟨.value (.func f),args,ts⟩){w:World}(h:(callFunc f (args.map a.eval)).run P w=.ok (.value v) w) :
  (execOp a.eval o).run P w=.ok (.value v) w:=by
 have he:a.eval (.func f)=.func (.func f) #[] #[]:=rfl
 simp [execOp,ho,resolve,he,Deferred.ofValue,invoke,h]
theorem args_rel{args:Array Operand}(hR:Rel nro base γ m H w)(hF:FR n m α a)(hok:args.all (okOpd n γ)=true) :
  (args.map a.eval).size=(args.map (α.eval γ)).size∧∀ (i:Nat) (x:Value),(args.map (α.eval γ))[i]?=some x→∃y,(args.map a.eval)[i]?=some y∧V m x y:=by
 refine⟨by simp,fun i x hx=>?_⟩
 rw [Array.getElem?_map]at hx ⊢
 cases hq:args[i]? with
 | none=>rw [hq]at hx;cases hx
 | some q=>
  rw [hq]at hx
  cases hx
  obtain⟨hi,he⟩:=asI.1 hq
  exact⟨_,rfl,hF.eval hR (by rw [←he];exact (Array.all_eq_true.1 hok) i hi)⟩
theorem callee_ops{o:Oper}{f:FuncId}{args:Array Value}(h:calleeOf γ α o.op=some (f,args)):∃xs ts,o.op=.call ⟨.value (.func f),xs,ts⟩∧args=xs.map (α.eval γ):=by
 unfold calleeOf at h
 split at h
 ·rename_i f' xs ts he
  cases h
  exact⟨xs,ts,he,rfl⟩
 ·cases h
theorem xop_av{o:Oper}{v:Value}{H':AH}(hok:o.op.operands.all (okOpd n γ)=true)(h:xop P nro γ o.op α H=some (v,H')):AV P nro n γ o α H v H':=by
 unfold xop at h
 split at h
 ·rename_i v' hv
  cases h
  exact (xread_aq hok hv).av
 ·exact xeff_av hok h
theorem get_app3{cs as es:Array Value}{i:Nat}{x:Value}(h:(cs++as++es)[i]?=some x) :
  (i<cs.size∧cs[i]?=some x)∨(cs.size≤i∧i<cs.size+as.size∧as[i-cs.size]?=some x)∨(cs.size+as.size≤i∧es[i-cs.size-as.size]?=some x):=by
 rcases Nat.lt_or_ge i (cs.size+as.size) with h1 | h1
 ·rw [Array.getElem?_append_left (by simpa using h1)]at h
  rcases Nat.lt_or_ge i cs.size with h2 | h2
  ·rw [Array.getElem?_append_left h2]at h
   exact .inl ⟨h2,h⟩
  ·rw [Array.getElem?_append_right h2]at h
   exact .inr (.inl ⟨h2,h1,h⟩)
 ·rw [Array.getElem?_append_right (by simpa using h1)]at h
  exact .inr (.inr ⟨h1,by simpa [Nat.sub_sub] using h⟩)
theorem method_run{t:TypeId}{name:String}{v v' u:Value}{f:FuncId}{o:Option Nat}(hm:xmeth P t name=some (f,o))(hr:xrecv P t name v=some u)(hv:V2 m v v')(k:Nat) :
  ∃u',V m u u'∧∀w:World,(method (k+1) t v' name).run P w=.ok (f,u') w:=by
 unfold xrecv at hr
 rw [hm]at hr
 unfold xmeth at hm
 split at hm
 ·cases hm
 rename_i i hi
 split at hm
 ·cases hm
 rename_i mm hf
 split at hm
 ·rename_i f' p hp hfn
  cases p with
  | true=>
   cases hu:und P t <;> rw [hu]at hm <;> cases hm
   simp only at hr
   split at hr
   case isFalse=>cases hr
   cases hr
   refine⟨v',.two hv,fun w=>?_⟩
   unfold method
   simp [typeInfo,hi,hf,hp,hfn,follow,receiverAt,Place.get,run_underlying (und_some hu (by simp))]
  | false=>
   cases hu:und P t <;> rw [hu]at hm <;> cases hm
   all_goals
    simp only at hr
    split at hr
    case isFalse=>cases hr
    cases hr
    refine⟨v',.two hv,fun w=>?_⟩
    unfold method
    simp [typeInfo,hi,hf,hp,hfn,follow,receiverAt,Place.get,run_underlying (und_some hu (by simp))]
 ·rename_i s f' hp hfn
  split at hm
  ·cases hm
  rename_i hd
  split at hm
  case h_2=>cases hm
  rename_i fs hu
  split at hm
  case h_2=>cases hm
  rename_i fd hfd
  split at hm
  case h_2=>cases hm
  rename_i e hue
  cases hm
  simp only at hr
  split at hr
  case h_2=>cases hr
  rename_i cs
  have hxp:xpart P fd.type cs fd.offset=some u:=by
   unfold xpart
   rw [hue]
   simpa [isAggD,okD] using hr
  obtain⟨ds,hy,hs,hvv⟩:∃ds:Array Value,v'=.agg ds∧ds.size=cs.size∧∀ (i:Nat) (x:Value),cs[i]?=some x→∃y,ds[i]?=some y∧V1 m x y:=by
   cases hv with
   | one h=>cases h with | plain h=>cases h
   | agg hs h=>exact⟨_,rfl,hs,h⟩
  subst hy
  obtain⟨u',h1,h2⟩:=xpart_run hs hvv hxp
  refine⟨u',.two h1,fun w=>?_⟩
  have hdf:s.deref=false:=by simpa using hd
  unfold method
  simp [typeInfo,hi,hf,hp,hfn,follow,hdf,run_underlying (und_some hu (by simp)),hfd,h2,receiverAt,Place.get,run_underlying (und_some hue (by simp))]
 ·cases hm
theorem calleeX_ev{o:Oper}{f:FuncId}{args:Array Value}(ev:∀x∈o.op.operands,V m (α.eval γ x) (a.eval x))(h:calleeX P γ α o.op=some (f,args)) :
  ∃args':Array Value,args'.size=args.size∧(∀ (i:Nat) (x:Value),args[i]?=some x→∃y,args'[i]?=some y∧V m x y) ∧
   (callable P f=true→bodied P f=true→(execOp a.eval o).run P w=.ok (.enter f args') w) ∧
   (∀v,(callFunc f args').run P w=.ok (.value v) w→(execOp a.eval o).run P w=.ok (.value v) w):=by
 unfold calleeX at h
 split at h
 case h_3=>cases h
 case h_2=>
  rename_i r name xs ts ho
  split at h
  case h_2=>cases h
  rename_i t v hrv
  split at h
  case h_2=>cases h
  rename_i f' o' u hm hu
  cases h
  rw [ho]at ev
  have hr:=ev r (by simp [Op.operands,Call.operands])
  rw [hrv]at hr
  obtain⟨v',he,hv2⟩:=hr.if_
  obtain⟨u',h1,h2⟩:=method_run (P:=P) hm hu hv2 (P.types.size+Made.depth-1)
  have hfuel:P.types.size+Made.depth-1+1=P.types.size+Made.depth:=by
   have:Made.depth=100:=rfl
   omega
  rw [hfuel]at h2
  have hrun:(execOp a.eval o).run P w=(callFunc f (#[u']++xs.map a.eval)).run P w:=by
   have h0:(#[Value.iface t v']++xs.map a.eval)[0]?=some (.iface t v'):=by rw [Array.getElem?_append_left (by simp)];rfl
   have h9:(xs.map a.eval).extract 0 xs.size=xs.map a.eval:=by rw [←Array.size_map (f:=a.eval)];exact Array.extract_size
   simp [execOp,ho,resolve,he,invoke,callMethod,h2,Array.extract_append,h0,h9]
  refine⟨#[u']++xs.map a.eval,by simp,fun i x hx=>?_,fun hcal hbd=>?_,fun v0 hr0=>?_⟩
  ·cases i with
   | zero=>
    rw [Array.getElem?_append_left (by simp)]at hx ⊢
    cases hx
    exact⟨u',rfl,h1⟩
   | succ i=>
    rw [Array.getElem?_append_right (by simp)]at hx ⊢
    simp only [List.size_toArray,List.length_cons,List.length_nil,Nat.zero_add,Nat.add_sub_cancel]at hx ⊢
    rw [Array.getElem?_map]at hx ⊢
    cases hq:xs[i]? with
    | none=>rw [hq]at hx;cases hx
    | some q=>
     rw [hq]at hx
     cases hx
     exact⟨_,rfl,ev q (by simp [Op.operands,Call.operands,Array.mem_of_getElem? hq])⟩
  ·rw [hrun]
   exact callable_run hcal hbd _ w
  ·rw [hrun]
   exact hr0
 rename_i t xs ts ho
 split at h
 case h_3=>cases h
 case h_2=>
  rename_i name fs cs hfn
  split at h
  case h_2=>cases h
  rename_i ty v hfs
  split at h
  case h_2=>cases h
  rename_i f' o' u hm hu
  cases h
  rw [ho]at ev
  have hv:=ev (.tmp t) (by simp [Op.operands,Call.operands])
  rw [show α.eval γ (.tmp t)=α t from rfl,hfn]at hv
  obtain⟨ds,gs,v',he,hds,hv2⟩:=hv.meth_ hfs
  obtain⟨u',h1,h2⟩:=method_run (P:=P) hm hu hv2 (P.types.size+Made.depth-1)
  have hfuel:P.types.size+Made.depth-1+1=P.types.size+Made.depth:=by
   have:Made.depth=100:=rfl
   omega
  rw [hfuel]at h2
  have hrun:(execOp a.eval o).run P w=(callFunc f (#[u']++xs.map a.eval)).run P w:=by
   have h0:(#[Value.iface ty v']++xs.map a.eval)[0]?=some (.iface ty v'):=by rw [Array.getElem?_append_left (by simp)];rfl
   have h9:(xs.map a.eval).extract 0 xs.size=xs.map a.eval:=by rw [←Array.size_map (f:=a.eval)];exact Array.extract_size
   simp [execOp,ho,resolve,he,hds,Deferred.ofValue,invoke,callMethod,h2,Array.extract_append,h0,h9]
  refine⟨#[u']++xs.map a.eval,by simp,fun i x hx=>?_,fun hcal hbd=>?_,fun v0 hr0=>?_⟩
  ·cases i with
   | zero=>
    rw [Array.getElem?_append_left (by simp)]at hx ⊢
    cases hx
    exact⟨u',rfl,h1⟩
   | succ i=>
    rw [Array.getElem?_append_right (by simp)]at hx ⊢
    simp only [List.size_toArray,List.length_cons,List.length_nil,Nat.zero_add,Nat.add_sub_cancel]at hx ⊢
    rw [Array.getElem?_map]at hx ⊢
    cases hq:xs[i]? with
    | none=>rw [hq]at hx;cases hx
    | some q=>
     rw [hq]at hx
     cases hx
     exact⟨_,rfl,ev q (by simp [Op.operands,Call.operands,Array.mem_of_getElem? hq])⟩
  ·rw [hrun]
   exact callable_run hcal hbd _ w
  ·rw [hrun]
   exact hr0
 rename_i f' fs cs hfn
 cases h
 rw [ho]at ev
 have h1:(xs.map a.eval).size=(xs.map (α.eval γ)).size:=by simp
 have h2:∀ (i:Nat) (x:Value),(xs.map (α.eval γ))[i]?=some x→∃y,(xs.map a.eval)[i]?=some y∧V m x y:=fun i x hx=>by
  rw [Array.getElem?_map]at hx ⊢
  cases hq:xs[i]? with
  | none=>rw [hq]at hx;cases hx
  | some q=>
   rw [hq]at hx
   cases hx
   exact⟨_,rfl,ev q (by simp [Op.operands,Call.operands,Array.mem_of_getElem? hq])⟩
 have hv:=ev (.tmp t) (by simp [Op.operands,Call.operands])
 rw [show α.eval γ (.tmp t)=α t from rfl,hfn]at hv
 have hv1:=hv.v1 rfl
 obtain⟨ds,gs,he,k1,k2,k3,k4⟩:∃ds gs,a.eval (.tmp t)=.func (.func f) ds gs∧ds.size=fs.size∧gs.size=cs.size∧(∀ (i:Nat) (x y:Value),fs[i]?=some x→ds[i]?=some y→V1 m x y)∧(∀ (i:Nat) (x y:Value),cs[i]?=some x→gs[i]?=some y→V1 m x y):=by
  generalize a.eval (.tmp t)=y at hv1
  cases hv1 with
  | plain hp=>
   have hp':fs.isEmpty=true∧cs.isEmpty=true:=by simpa [plain1] using hp
   rw [Array.isEmpty_iff,Array.isEmpty_iff]at hp'
   obtain⟨rfl,rfl⟩:=hp'
   exact⟨#[],#[],rfl,rfl,rfl,fun i x y hx=>by simp at hx,fun i x y hx=>by simp at hx⟩
  | clo k1 k2 k3 k4=>exact⟨_,_,rfl,k1,k2,k3,k4⟩
 have some_of:∀ {A:Array Value} {i:Nat},i<A.size→∃y,A[i]?=some y:=fun h=>⟨_,Array.getElem?_eq_getElem h⟩
 refine⟨ds++xs.map a.eval++gs,by simp only [Array.size_append];omega,fun i x hx=>?_,fun hcal hbd=>?_,fun v hr=>?_⟩
 ·rcases get_app3 hx with ⟨g1,g2⟩ | ⟨g1,g2,g3⟩ | ⟨g1,g2⟩
  ·obtain⟨y,hy⟩:=some_of (A:=ds) (i:=i) (by omega)
   refine⟨y,?_,.one (k3 i x y g2 hy)⟩
   rw [Array.getElem?_append_left (by simp only [Array.size_append];omega),Array.getElem?_append_left (by omega)]
   exact hy
  ·obtain⟨y,hy,hvy⟩:=h2 _ x g3
   refine⟨y,?_,hvy⟩
   rw [Array.getElem?_append_left (by simp only [Array.size_append];omega),Array.getElem?_append_right (by omega),k1]
   exact hy
  ·have hl:i-fs.size-(xs.map (α.eval γ)).size<cs.size:=(asI.1 g2).1
   obtain⟨y,hy⟩:=some_of (A:=gs) (i:=i-fs.size-(xs.map (α.eval γ)).size) (by omega)
   refine⟨y,?_,.one (k4 _ x y g2 hy)⟩
   rw [Array.getElem?_append_right (by simp only [Array.size_append];omega)]
   simp only [Array.size_append,k1,h1,←Nat.sub_sub]
   exact hy
 ·simp [execOp,ho,resolve,he,Deferred.ofValue,invoke,callable_run hcal hbd]
 ·rw [Array.append_assoc]at hr
  simp [execOp,ho,resolve,he,Deferred.ofValue,invoke,hr]
theorem calleeX_run{o:Oper}{f:FuncId}{args:Array Value}(hR:Rel nro base γ m H w)(hF:FR n m α a)(hok:o.op.operands.all (okOpd n γ)=true)(h:calleeX P γ α o.op=some (f,args)) :
  ∃args':Array Value,args'.size=args.size∧(∀ (i:Nat) (x:Value),args[i]?=some x→∃y,args'[i]?=some y∧V m x y) ∧
   (callable P f=true→bodied P f=true→(execOp a.eval o).run P w=.ok (.enter f args') w) ∧
   (∀v,(callFunc f args').run P w=.ok (.value v) w→(execOp a.eval o).run P w=.ok (.value v) w):=
 calleeX_ev (fun x hx=>hF.eval hR (by
  obtain⟨i,hi,rfl⟩:=Array.mem_iff_getElem.1 hx
  exact (Array.all_eq_true.1 hok) i hi)) h
theorem XL.sound{ops:Array Oper}:∀ (l:List Oper) (α:Fm) (H:AH),okL n γ l=true→XL P nro n γ ops (Q .normal) l α H→AL P nro n γ ops Q l α H
 | [],α,H,_,h=>al_nil h
 | o::rest,α,H,hok,h=>by
  simp only [okL,List.all_cons,Bool.and_eq_true]at hok
  unfold XL at h
  split at h
  ·exact h.elim
  ·rename_i v H' hst
   unfold step1 at hst
   split at hst
   ·cases hst
   ·rename_i hw
    cases hst
    exact al_pass hw (XL.sound rest _ _ hok.2 h)
   ·rename_i hw
    split at hst
    ·cases hst
    ·split at hst
     ·rename_i v' H'' hx
      cases hst
      exact al_step hw (xop_av hok.1 hx) (XL.sound rest _ _ hok.2 h)
     ·split at hst <;> cases hst
  ·rename_i f args hst
   unfold step1 at hst
   split at hst
   ·cases hst
   ·cases hst
   ·rename_i hw
    split at hst
    case h_2=>
     split at hst
     ·cases hst
     split at hst
     case h_2=>cases hst
     rename_i f' args' hc
     cases hst
     obtain⟨hcal,hac⟩:=h
     intro m base w a hR hF
     obtain⟨args',h1,h2,hrun1,hrun2⟩:=calleeX_run (P:=P) hR hF hok.1 hc
     unfold wpList
     rw [wantedA_spec hF hw]
     simp only [if_true]
     refine .inl ?_
     unfold Oper.wp
     rcases hac m base w args' hR h1 h2 with ⟨hbd,hac'⟩ | ⟨v0,hrun,m',v,v',H',he,hm,hv,hR',hb,hx⟩
     ·rw [hrun1 hcal hbd,Oper.upon_enter]
      refine hac'.mono ?_
      rintro e w' ⟨m',v,v',H',rfl,hm,hv,hR',hb,hx⟩
      have:=XL.sound rest _ _ hok.2 hx m' base w' (a.put o.dst v') hR' ((hF.mono hm).put hv)
      exact wpList_mono (fun e a w hc=>hc.trans hm hb) _ _ _ this
     ·cases he
      rw [hrun2 v0 hrun,Oper.upon_value]
      have:=XL.sound rest _ _ hok.2 hx m' base w (a.put o.dst v0) hR' ((hF.mono hm).put hv)
      exact wpList_mono (fun e a w hc=>hc.trans hm hb) _ _ _ this
    rename_i f' args' hc
    cases hst
    obtain⟨hcal,hac⟩:=h
    obtain⟨xs,ts,ho,rfl⟩:=callee_ops hc
    intro m base w a hR hF
    unfold wpList
    rw [wantedA_spec hF hw]
    simp only [if_true]
    refine .inl ?_
    unfold Oper.wp
    have hxs:xs.all (okOpd n γ)=true:=by
     have:=hok.1
     rw [ho]at this
     rw [Array.all_eq_true]at this ⊢
     intro i hi
     have:=this (i+1) (by simp [Op.operands,Call.operands];omega)
     simpa [Op.operands,Call.operands,Array.getElem_append] using this
    obtain⟨h1,h2⟩:=args_rel hR hF hxs
    rcases hac m base w (xs.map a.eval) hR h1 h2 with ⟨hbd,hac'⟩ | ⟨v0,hrun,m',v,v',H',he,hm,hv,hR',hb,hx⟩
    ·rw [call_run ho hcal hbd,Oper.upon_enter]
     refine hac'.mono ?_
     rintro e w' ⟨m',v,v',H',rfl,hm,hv,hR',hb,hx⟩
     have:=XL.sound rest _ _ hok.2 hx m' base w' (a.put o.dst v') hR' ((hF.mono hm).put hv)
     exact wpList_mono (fun e a w hc=>hc.trans hm hb) _ _ _ this
    ·cases he
     rw [call_runV ho hrun,Oper.upon_value]
     have:=XL.sound rest _ _ hok.2 hx m' base w (a.put o.dst v0) hR' ((hF.mono hm).put hv)
     exact wpList_mono (fun e a w hc=>hc.trans hm hb) _ _ _ this
theorem aw_ops{id:Nat}{l:List Oper}(hok:okL n γ l=true)(h:∀K:Fm→AH→Prop,(∀α' H',Q .normal α' H'→K α' H')→XL P nro n γ l.toArray K l α H):AW P nro n γ (.region id l.toArray false) Q α H:=
 aw_region (XL.sound l α H hok (h _ fun _ _ h=>h))
theorem aoo{id:Nat}{l:List Oper}(h:∀K:Fm→AH→Prop,(∀α' H',Q .normal α' H'→K α' H')→XL P nro n γ l.toArray K l α H)(hok:okL n γ l=true:=by kernel_rfl):AW P nro n γ (.region id l.toArray false) Q α H:=aw_ops hok h
theorem aso{id:Nat}{l:List Oper}{y:Code}(h:∀K:Fm→AH→Prop,(∀α' H',AW P nro n γ y Q α' H'→K α' H')→XL P nro n γ l.toArray K l α H)(hok:okL n γ l=true:=by kernel_rfl):AW P nro n γ (.seq (.region id l.toArray false) y) Q α H:=aw_seq (aoo h hok)
theorem aw_t{c:Operand}{x y:Code}(hc:α.eval γ c=.bool true)(ho:okOpd n γ c=true)(h:AW P nro n γ x Q α H):AW P nro n γ (.cond c x y) Q α H:=aw_cond hc ho h
theorem aw_f{c:Operand}{x y:Code}(hc:α.eval γ c=.bool false)(ho:okOpd n γ c=true)(h:AW P nro n γ y Q α H):AW P nro n γ (.cond c x y) Q α H:=aw_cond hc ho h
theorem awt{c:Operand}{x y:Code}(hc:α.eval γ c=.bool true)(h:AW P nro n γ x Q α H)(ho:okOpd n γ c=true:=by kernel_rfl):AW P nro n γ (.cond c x y) Q α H:=aw_cond hc ho h
theorem awf{c:Operand}{x y:Code}(hc:α.eval γ c=.bool false)(h:AW P nro n γ y Q α H)(ho:okOpd n γ c=true:=by kernel_rfl):AW P nro n γ (.cond c x y) Q α H:=aw_cond hc ho h
def XLc(P:Program)(nro n:Nat)(γ:Nat→Option Nat)(ops:Array Oper)(K:Fm→AH→Prop)(r:St)(d:Option Tmp)(rest:List Oper)(α:Fm)(H:AH):Prop:=
 match r with
 | .no=>False
 | .val v H'=>XL P nro n γ ops K rest (α.put d v) H'
 | .call f args=>callable P f=true∧AC P nro γ f args H fun v H'=>XL P nro n γ ops K rest (α.put d v) H'
theorem XL_nil{ops:Array Oper}{K:Fm→AH→Prop}:XL P nro n γ ops K [] α H=K α H:=rfl
theorem XL_cons{ops:Array Oper}{K:Fm→AH→Prop}(o:Oper)(rest:List Oper):XL P nro n γ ops K (o::rest) α H=XLc P nro n γ ops K (step1 P nro n γ ops o α H) o.dst rest α H:=by
 unfold XL XLc
 cases step1 P nro n γ ops o α H <;> rfl
theorem XLc_val{ops:Array Oper}{K:Fm→AH→Prop}(v:Value)(H':AH)(d:Option Tmp)(rest:List Oper):XLc P nro n γ ops K (.val v H') d rest α H=XL P nro n γ ops K rest (α.put d v) H':=rfl
theorem XLc_call{ops:Array Oper}{K:Fm→AH→Prop}(f:FuncId)(args:Array Value)(d:Option Tmp)(rest:List Oper) :
  XLc P nro n γ ops K (.call f args) d rest α H=(callable P f=true∧AC P nro γ f args H fun v H'=>XL P nro n γ ops K rest (α.put d v) H'):=rfl
def stepN(c:Option (FuncId×Array Value)):St:=match c with | some (f,args)=>.call f args | none=>.no
def stepX(P:Program)(γ:Nat→Option Nat)(op:Op)(α:Fm)(r:Option (Value×AH)):St:=match r with | some (v,H')=>.val v H' | none=>stepN (calleeX P γ α op)
def stepC(P:Program)(nro:Nat)(γ:Nat→Option Nat)(c:Option (FuncId×Array Value))(op:Op)(α:Fm)(H:AH):St:=
 match c with
 | some (f,args)=>.call f args
 | none=>stepX P γ op α (xop P nro γ op α H)
def stepW(P:Program)(nro:Nat)(γ:Nat→Option Nat)(g:Option Bool)(op:Op)(α:Fm)(H:AH):St:=
 match g with
 | none=>.no
 | some false=>.val undef H
 | some true=>stepC P nro γ (calleeOf γ α op) op α H
theorem step1_eq{ops:Array Oper}(o:Oper):step1 P nro n γ ops o α H=stepW P nro γ (wantedA ops n α o) o.op α H:=by
 unfold step1 stepW
 cases wantedA ops n α o with
 | none=>rfl
 | some b=>
  cases b with
  | false=>rfl
  | true=>
   simp only [stepC]
   cases calleeOf γ α o.op with
   | some c=>rfl
   | none=>rfl
theorem stepW_t(op:Op):stepW P nro γ (some true) op α H=stepC P nro γ (calleeOf γ α op) op α H:=rfl
theorem stepW_f(op:Op):stepW P nro γ (some false) op α H=.val undef H:=rfl
theorem stepC_n(op:Op):stepC P nro γ none op α H=stepX P γ op α (xop P nro γ op α H):=rfl
theorem stepC_s(f:FuncId)(args:Array Value)(op:Op):stepC P nro γ (some (f,args)) op α H=.call f args:=rfl
theorem stepX_s(op:Op)(v:Value)(H':AH):stepX P γ op α (some (v,H'))=.val v H':=rfl
theorem stepX_n(op:Op):stepX P γ op α none=stepN (calleeX P γ α op):=rfl
theorem stepN_s(f:FuncId)(args:Array Value):stepN (some (f,args))=.call f args:=rfl
def xopR(P:Program)(nro:Nat)(γ:Nat→Option Nat)(r:Option Value)(op:Op)(α:Fm)(H:AH):Option (Value×AH):=match r with | some v=>some (v,H) | none=>xeff P nro γ op α H
theorem xop_eq(op:Op):xop P nro γ op α H=xopR P nro γ (xread P γ op α H) op α H:=rfl
theorem xopR_s(v:Value)(op:Op):xopR P nro γ (some v) op α H=some (v,H):=rfl
theorem xopR_n(op:Op):xopR P nro γ none op α H=xeff P nro γ op α H:=rfl
def wantedG(ops:Array Oper)(n:Nat)(α:Fm)(g:Option (Nat×Bool)):Option Bool:=
 match g with
 | none=>some true
 | some (j,want)=>match (ops[j]?).bind (·.dst) with | some d=>if d<n then wb (α d) want else none | none=>none
theorem wantedA_eq{ops:Array Oper}(o:Oper):wantedA ops n α o=wantedG ops n α o.guard:=rfl
theorem wantedG_n{ops:Array Oper}:wantedG ops n α none=some true:=rfl
theorem wantedG_s{ops:Array Oper}(j:Nat)(want:Bool):wantedG ops n α (some (j,want))=match (ops[j]?).bind (·.dst) with | some d=>if d<n then wb (α d) want else none | none=>none:=rfl
def QLc(P:Program)(n:Nat)(γ:Nat→Option Nat)(ops:Array Oper)(K:Fm→Prop)(H:AH)(r:St)(d:Option Tmp)(rest:List Oper)(α:Fm):Prop:=
 match r with
 | .no=>False
 | .val v _=>QL P n γ ops K H rest (α.put d v)
 | .call f args=>callable P f=true∧∃v,VC P f args v∧(args.all plainV&&plainV v)=true∧QL P n γ ops K H rest (α.put d v)
def stepQX(r:Option Value)(H:AH):St:=match r with | some v=>.val v H | none=>.no
def stepQC(P:Program)(γ:Nat→Option Nat)(c:Option (FuncId×Array Value))(op:Op)(α:Fm)(H:AH):St:=
 match c with
 | some (f,args)=>.call f args
 | none=>stepQX (xread P γ op α H) H
def stepQ(P:Program)(γ:Nat→Option Nat)(g:Option Bool)(op:Op)(α:Fm)(H:AH):St:=
 match g with
 | none=>.no
 | some false=>.val undef H
 | some true=>stepQC P γ (calleeOf γ α op) op α H
theorem QL_nil{ops:Array Oper}{K:Fm→Prop}:QL P n γ ops K H [] α=K α:=rfl
theorem QL_cons{ops:Array Oper}{K:Fm→Prop}(o:Oper)(rest:List Oper):QL P n γ ops K H (o::rest) α=QLc P n γ ops K H (stepQ P γ (wantedA ops n α o) o.op α H) o.dst rest α:=by
 unfold QLc stepQ
 rw [QL]
 cases wantedA ops n α o with
 | none=>rfl
 | some b=>
  cases b with
  | false=>rfl
  | true=>
   simp only [stepQC]
   cases calleeOf γ α o.op with
   | some c=>rfl
   | none=>
    simp only [stepQX]
    cases xread P γ o.op α H <;> rfl
theorem QLc_val{ops:Array Oper}{K:Fm→Prop}(v:Value)(H':AH)(d:Option Tmp)(rest:List Oper):QLc P n γ ops K H (.val v H') d rest α=QL P n γ ops K H rest (α.put d v):=rfl
theorem stepQ_t(op:Op):stepQ P γ (some true) op α H=stepQC P γ (calleeOf γ α op) op α H:=rfl
theorem stepQ_f(op:Op):stepQ P γ (some false) op α H=.val undef H:=rfl
theorem stepQC_n(op:Op):stepQC P γ none op α H=stepQX (xread P γ op α H) H:=rfl
theorem stepQC_s(f:FuncId)(args:Array Value)(op:Op):stepQC P γ (some (f,args)) op α H=.call f args:=rfl
theorem stepQX_s(v:Value):stepQX (some v) H=.val v H:=rfl
def SLc(P:Program)(n:Nat)(γ:Nat→Option Nat)(ops:Array Oper)(K:Fm→Prop)(H:AH)(r:St)(d:Option Tmp)(rest:List Oper)(α:Fm):Prop:=
 match r with
 | .val v _=>SL P n γ ops K H rest (α.put d v)
 | _=>False
def stepS(P:Program)(γ:Nat→Option Nat)(g:Option Bool)(op:Op)(α:Fm)(H:AH):St:=
 match g with
 | none=>.no
 | some false=>.val undef H
 | some true=>stepQX (xread P γ op α H) H
theorem SL_nil{ops:Array Oper}{K:Fm→Prop}:SL P n γ ops K H [] α=K α:=rfl
theorem SL_cons{ops:Array Oper}{K:Fm→Prop}(o:Oper)(rest:List Oper):SL P n γ ops K H (o::rest) α=SLc P n γ ops K H (stepS P γ (wantedA ops n α o) o.op α H) o.dst rest α:=by
 unfold SLc stepS
 rw [SL]
 cases wantedA ops n α o with
 | none=>rfl
 | some b=>
  cases b with
  | false=>rfl
  | true=>
   simp only [stepQX]
   cases xread P γ o.op α H <;> rfl
theorem SLc_val{ops:Array Oper}{K:Fm→Prop}(v:Value)(H':AH)(d:Option Tmp)(rest:List Oper):SLc P n γ ops K H (.val v H') d rest α=SL P n γ ops K H rest (α.put d v):=rfl
theorem stepS_t(op:Op):stepS P γ (some true) op α H=stepQX (xread P γ op α H) H:=rfl
theorem stepS_f(op:Op):stepS P γ (some false) op α H=.val undef H:=rfl
theorem put_at(α:Fm)(d:Nat)(v:Value)(i:Nat):Fm.put α (some d) v i=if i=d then v else α i:=rfl
theorem put_none(α:Fm)(v:Value):Fm.put α none v=α:=rfl
theorem eval_tmp(γ:Nat→Option Nat)(α:Fm)(t:Nat):Fm.eval γ α (.tmp t)=α t:=rfl
theorem eval_const(γ:Nat→Option Nat)(α:Fm)(v:Value):Fm.eval γ α (.const v)=v:=rfl
theorem cells_agg(c:Array Value):(Value.agg c).cells=c:=rfl
theorem cells_int(k:IntKind)(x:Int):(Value.int k x).cells=#[.int k x]:=rfl
theorem cells_bool(b:Bool):(Value.bool b).cells=#[.bool b]:=rfl
theorem cells_string(b:ByteArray):(Value.string b).cells=#[.string b]:=rfl
theorem cells_ptr(b:Option Addr):(Value.pointer b).cells=#[.pointer b]:=rfl
theorem cells_slice(b:Option Addr)(l c:Nat):(Value.slice b l c).cells=#[.slice b l c]:=rfl
theorem hget_app(H L:AH)(k:Nat):hget (H++L) (H.length+k)=hget L k:=by
 unfold hget
 rw [gaR (by omega)]
 congr 2
 omega
theorem hget_app0(H L:AH):hget (H++L) H.length=hget L 0:=hget_app H L 0
theorem set_app(H L:AH)(k:Nat)(x:Option Blk):(H++L).set (H.length+k) x=H++L.set k x:=by
 rw [List.set_append_right _ _ (by omega)]
 congr 2
 omega
theorem set_app0(H L:AH)(x:Option Blk):(H++L).set H.length x=H++L.set 0 x:=set_app H L 0 x
theorem hget_cons0(x:Option Blk)(L:AH):hget (x::L) 0=x:=by unfold hget;simp
theorem hget_cons(x:Option Blk)(L:AH)(k:Nat):hget (x::L) (k+1)=hget L k:=by unfold hget;simp
theorem SL.sound{ops:Array Oper}{Q:Fm→Prop}{K:Act→Prop}(hR:Rel nro base γ m H w)(hK:∀a α,FR n m α a→Q α→K a):∀ (l:List Oper) (α:Fm) (a:Act),okL n γ l=true→FR n m α a→SL P n γ ops Q H l α →
  wpStill P ops w K l a
 | [],α,a,_,hF,h=>hK a α hF h
 | o::rest,α,a,hok,hF,h=>by
  simp only [okL,List.all_cons,Bool.and_eq_true]at hok
  unfold SL at h
  unfold wpStill
  split at h
  ·exact h.elim
  ·rename_i hw
   rw [wantedA_spec hF hw]
   simp only [Bool.false_eq_true,if_false]
   exact SL.sound hR hK rest _ _ hok.2 (hF.put (plainV_mk plainV_undef)) h
  ·rename_i hw
   rw [wantedA_spec hF hw]
   simp only [if_true]
   split at h
   ·rename_i v hx
    obtain⟨v',h1,h2⟩:=xread_aq hok.1 hx m base w a hR hF
    unfold Oper.still
    rw [h2 w (.refl _ _)]
    exact⟨rfl,SL.sound hR hK rest _ _ hok.2 (hF.put h1) h⟩
   ·exact h.elim
theorem okL_take{l:List Oper}(h:okL n γ l=true)(k:Nat):okL n γ (l.take k)=true∧okL n γ (l.drop k)=true:=by
 have:okL n γ (l.take k++l.drop k)=true:=by rw [List.take_append_drop];exact h
 simp only [okL,List.all_append,Bool.and_eq_true]at this
 exact this
def resL(P:Program)(n:Nat)(α:Fm)(H:AH):List ResultVar→Option (List Value)
 | []=>some []
 | .tmp t::r=>if t<n then (resL P n α H r).map (α t::·) else none
 | .cell d t::r=>if d<n then (match xload P t (α d) H,resL P n α H r with | some v,some l=>some (v::l) | _,_=>none) else none
def resV:List Value→Option Value
 | [v]=>some v
 | vs=>if vs.all notTuple=true then some (.tuple vs.toArray) else none
def resOne(tmps:Array Value):ResultVar→Sem Value
 | .tmp t=>pure (tmps.getD t undef)
 | .cell d t=>do loadVar t (←asAddr (tmps.getD d undef))
theorem results_eq(fn:Func)(tmps:Array Value):results fn tmps=(do let vs ←fn.results.mapM (resOne tmps);pure (if h:vs.size=1 then vs[0] else .tuple vs)):=by
 unfold results
 congr 1
theorem resL_run(hR:Rel nro base γ m H w)(hF:FR n m α a):∀ (rs:List ResultVar) (vs:List Value),resL P n α H rs=some vs →
  ∃vs':List Value,vs'.length=vs.length∧(∀ (i:Nat) (x:Value),vs[i]?=some x→∃y,vs'[i]?=some y∧V m x y) ∧
   (rs.mapM (resOne a.tmps)).run P w=.ok vs' w
 | [],vs,h=>by
  cases h
  exact⟨[],rfl,by simp,by simp⟩
 | .tmp t::r,vs,h=>by
  unfold resL at h
  split at h
  case isFalse=>cases h
  rename_i ht
  cases hr:resL P n α H r with
  | none=>rw [hr]at h;cases h
  | some l=>
   rw [hr]at h
   cases h
   obtain⟨l',h1,h2,h3⟩:=resL_run hR hF r l hr
   refine⟨a.tmps.getD t undef::l',by simp [h1],fun i x hx=>?_,?_⟩
   ·cases i with
    | zero=>simp at hx;subst hx;exact⟨_,rfl,hF.val t ht⟩
    | succ i=>simp at hx;simpa using h2 i x hx
   ·simp only [List.mapM_cons,resOne,Sem.run_bind,Sem.run_pure,Result.andThen_ok,h3]
 | .cell d t::r,vs,h=>by
  unfold resL at h
  split at h
  case isFalse=>cases h
  rename_i ht
  split at h
  ·rename_i v l hv hr
   cases h
   obtain⟨l',h1,h2,h3⟩:=resL_run hR hF r l hr
   obtain⟨v',h4,h5⟩:=xload_run hR (hF.val d ht) hv
   have hp:∃ad,a.tmps.getD d undef=.pointer (some ad):=by
    have hvv:=hF.val d ht
    unfold xload at hv
    split at hv
    ·rename_i i off he
     rw [he]at hvv
     obtain⟨e,_,h⟩:=hvv.ptr_
     exact⟨_,h⟩
    ·cases hv
   obtain⟨ad,hp⟩:=hp
   have h6:=h5 w (.refl _ _)
   rw [hp]at h6
   have h7:(loadVar t ad).run P w=.ok v' w:=by simpa [Instr.loadAt,Instr.sureAddr] using h6
   refine⟨v'::l',by simp [h1],fun i x hx=>?_,?_⟩
   ·cases i with
    | zero=>simp at hx;subst hx;exact⟨_,rfl,h4⟩
    | succ i=>simp at hx;simpa using h2 i x hx
   ·simp only [List.mapM_cons,resOne,Sem.run_bind,hp,asAddr,Sem.run_pure,Result.andThen_ok,h7,h3]
  ·cases h
theorem results_run{fn:Func}(hR:Rel nro base γ m H w)(hF:FR n m α a){vs:List Value}{v:Value}(h1:resL P n α H fn.results.toList=some vs)(h2:resV vs=some v) :
  ∃v',(results fn a.tmps).run P w=.ok v' w∧V m v v':=by
 obtain⟨vs',h3,h4,h5⟩:=resL_run hR hF fn.results.toList vs h1
 have hrun:(fn.results.mapM (resOne a.tmps)).run P w=.ok vs'.toArray w:=by
  rw [Array.mapM_eq_mapM_toList]
  simp [h5]
 unfold resV at h2
 split at h2
 ·cases h2
  match vs',h3 with
  | [v'],_=>
   obtain⟨y,hy,hv⟩:=h4 0 v rfl
   cases hy
   refine⟨v',?_,hv⟩
   rw [results_eq,Sem.run_bind,hrun]
   simp
 ·rename_i hne
  split at h2
  case isFalse=>cases h2
  rename_i hall
  cases h2
  refine⟨.tuple vs'.toArray,?_,.tup (by simp [h3]) (fun i x hx=>?_)⟩
  ·rw [results_eq,Sem.run_bind,hrun]
   have:¬ vs'.length=1:=by
    intro h
    match vs,h3,hne with
    | [],h3,_=>simp at h3;simp [h3]at h
    | [v],_,hne=>exact hne v rfl
    | _::_::_,h3,_=>simp at h3;omega
   simp [this]
  ·obtain⟨y,hy,hv⟩:=h4 i x (by simpa using hx)
   exact⟨y,by simpa using hy,hv.v2 (alT.1 hall x (moG (by simpa using hx)))⟩
def fr0(args:List Value):Fm:=fun i=>args.getD i undef
theorem fr0_at(l:List Value)(i:Nat):fr0 l i=l.getD i undef:=rfl
def RQ(P:Program)(n:Nat)(rs:List ResultVar)(Q:Value→AH→Prop):Exit→Fm→AH→Prop
 | .normal,α,H | .ret,α,H=>∃vs v,resL P n α H rs=some vs∧resV vs=some v∧Q v H
 | _,_,_=>False
theorem ac_of_aw{f:FuncId}{fn:Func}{c:Code}{args:Array Value}{rs:Array ResultVar}{Q:Value→AH→Prop}(hf:P.funcs[f]?=some fn)(hb:fn.body=some c)(hn:fn.ntmps=n)(hrs:fn.results=rs)(hs:args.size≤n)
  (h:AW P nro n γ c (RQ P n rs.toList Q) (fr0 args.toList) H):AC P nro γ f args H Q:=by
 subst hn hrs
 intro m base w args' hR hsz hv
 refine .inl ⟨by unfold bodied;rw [hf];simp [hb],?_⟩
 refine calls_of_wp hf hb ?_
 have hF:FR fn.ntmps m (fr0 args.toList) { tmps:=args'++Array.replicate (fn.ntmps-args'.size) undef,defers:=[] }:=by
  refine⟨rfl,by simp;omega,fun i hi=>?_⟩
  unfold fr0
  rcases Nat.lt_or_ge i args.size with hl | hl
  ·obtain⟨y,h1,h2⟩:=hv i args[i] (Array.getElem?_eq_getElem hl)
   have hl':i<args'.size:=by omega
   rw [Array.getElem?_eq_getElem hl']at h1
   cases h1
   have e1:args.toList.getD i undef=args[i]:=by simp [gdD,hl]
   have e2:(args'++Array.replicate (fn.ntmps-args'.size) undef).getD i undef=args'[i]:=by
    simp [agD,Array.getElem?_append_left hl',Array.getElem?_eq_getElem hl']
   rw [e1,e2]
   exact h2
  ·have e1:args.toList.getD i undef=undef:=by simp [gdD,hl]
   have e2:(args'++Array.replicate (fn.ntmps-args'.size) undef).getD i undef=undef:=by
    simp only [agD]
    rw [Array.getElem?_append_right (by omega)]
    have:i-args'.size<fn.ntmps-args'.size:=by omega
    simp [this]
   rw [e1,e2]
   exact plainV_mk plainV_undef
 refine Code.wp_mono ?_ (h m base w _ hR hF)
 rintro e a' w' ⟨m',α',H',hm,hR',hF',hb',hq⟩
 cases e with
 | normal=>
  obtain⟨vs,v,h1,h2,h3⟩:=hq
  obtain⟨v',h4,h5⟩:=results_run hR' hF' h1 h2
  exact⟨hF'.defers,v',h4,m',v,v',H',rfl,hm,h5,hR',hb',h3⟩
 | ret=>
  obtain⟨vs,v,h1,h2,h3⟩:=hq
  obtain⟨v',h4,h5⟩:=results_run hR' hF' h1 h2
  exact⟨hF'.defers,v',h4,m',v,v',H',rfl,hm,h5,hR',hb',h3⟩
 | _=>exact hq.elim
def noG:Nat→Option Nat:=fun _=>none
theorem vc_of_ac{f:FuncId}{args:Array Value}{v:Value}(ha:args.all plainV=true)(hv:plainV v=true)(h:AC P 0 noG f args [] fun v' _=>v'=v):VC P f args v:=by
 intro w
 have hR:Rel 0 w.heap.size noG [] [] w:=⟨rfl,nlE _,nlE _,by simp,by simp,by simp,by simp,by simp,by simp,fun g i h=>by cases h⟩
 refine (h [] w.heap.size w args hR rfl (fun i x hx=>⟨x,hx,plainV_mk ?_⟩)).mono ?_
 ·obtain⟨hi,he⟩:=asI.1 hx
  rw [←he]
  exact (Array.all_eq_true.1 ha) i hi
 ·rintro e w' ⟨m',v1,v',H',rfl,_,h2,_,h4,rfl⟩
  exact⟨by rw [h2.eq hv],h4⟩
theorem ac_of_vc{f:FuncId}{args:Array Value}{v:Value}{Q:Value→AH→Prop}(ha:(args.all plainV&&plainV v)=true)(h:VC P f args v)(hq:Q v H):AC P nro γ f args H Q:=by
 simp only [Bool.and_eq_true]at ha
 intro m base w args' hR hsz hv
 have heq:args'=args:=by
  apply Array.ext_getElem?
  intro i
  cases hq:args[i]? with
  | none=>rw [Array.getElem?_eq_none_iff]at hq ⊢;omega
  | some x=>
   obtain⟨y,hy,hv⟩:=hv i x hq
   obtain⟨hi,he⟩:=asI.1 hq
   rw [hy,hv.eq (by rw [←he];exact (Array.all_eq_true.1 ha.1) i hi)]
 subst heq
 refine (h w).mono ?_
 rintro e w' ⟨rfl,hb⟩
 exact⟨m,v,v,H,rfl,List.prefix_rfl,plainV_mk ha.2,hR.below hb,hb.mono hR.base_le,hq⟩
end
end
section
theorem scopeQ_ret(Q:Exit→Fm→AH→Prop):scopeQ Q .ret=Q .ret:=rfl
theorem thenQ_ret(N:Fm→AH→Prop)(Q:Exit→Fm→AH→Prop):thenQ N Q .ret=Q .ret:=rfl
theorem inBlockQ_ret(id:Nat)(Q:Exit→Fm→AH→Prop):inBlockQ id Q .ret=Q .ret:=rfl
theorem pv_iv(k:IntKind)(l:List Int):plainV (.agg (iv k l).toArray)=true:=iv_plain k l
theorem pv_int(k:IntKind)(x:Int):plainV (.int k x)=true:=rfl
theorem pv_bool(b:Bool):plainV (.bool b)=true:=rfl
theorem pv_string(b:ByteArray):plainV (.string b)=true:=rfl
theorem pv_tup2(a b:Value):plainV (.tuple #[a,b])=(plain2 a&&plain2 b):=by simp [plainV]
theorem pv_tup3(a b c:Value):plainV (.tuple #[a,b,c])=(plain2 a&&(plain2 b&&plain2 c)):=by simp [plainV]
theorem p2_int(k:IntKind)(x:Int):plain2 (.int k x)=true:=rfl
theorem p2_bool(b:Bool):plain2 (.bool b)=true:=rfl
theorem p2_string(b:ByteArray):plain2 (.string b)=true:=rfl
theorem plain1_int(k:IntKind)(x:Int):plain1 (.int k x)=true:=rfl
theorem plain1_bool(b:Bool):plain1 (.bool b)=true:=rfl
theorem plain1_string(b:ByteArray):plain1 (.string b)=true:=rfl
theorem bits_i64:IntKind.bits .i64=64:=rfl
theorem bits_u64:IntKind.bits .u64=64:=rfl
theorem bits_u32:IntKind.bits .u32=32:=rfl
theorem bits_u16:IntKind.bits .u16=16:=rfl
theorem bits_u8:IntKind.bits .u8=8:=rfl
theorem wrap64_in{x:Int}(h:-9223372036854775808≤x∧x≤9223372036854775807):IntKind.i64.wrap x=x:=Go.IntWalk.i64_in _ h
theorem hget_lt{H:AH}{i:Nat}{k:Blk}(h:hget H i=some k):i<H.length:=(gsI.1 (hget_some h)).1
theorem hget_left{H L:AH}{i:Nat}(h:i<H.length):hget (H++L) i=hget H i:=by
 unfold hget;rw [gaL h]
theorem hget_left'{H L:AH}{i:Nat}{k:Blk}(h:hget H i=some k):hget (H++L) i=some k:=by rw [hget_left (hget_lt h)];exact h
theorem hget_set_ne{H:AH}{i j:Nat}{x:Option Blk}(h:i≠j):hget (H.set i x) j=hget H j:=by
 unfold hget;rw [List.getElem?_set_ne h]
theorem hget_set_eq{H:AH}{i:Nat}{x:Option Blk}(h:i<H.length):hget (H.set i x) i=x:=by
 unfold hget;rw [List.getElem?_set_self h];rfl
def Low(lo:Nat)(H H':AH):Prop:=(∀i,i<lo→hget H' i=hget H i)∧lo≤H'.length
theorem Low.refl{lo:Nat}{H:AH}(h:lo≤H.length):Low lo H H:=⟨fun _ _=>rfl,h⟩
theorem Low.push{lo:Nat}{H:AH}(h:lo≤H.length)(L:AH):Low lo H (H++L):=⟨fun i hi=>hget_left (by omega),by simp;omega⟩
end
section
open Go.ChangeShapes Go.WideShapes Go.ChangeAt Go.RowKit
section
variable {H:Type} {enc:TypeId×Value→H} {P:Program}
theorem trodAll_stay(hl:laidOutB P=true){W W':World}(hb:Below W.heap.size W W'):∀ {ts:List TypeId} {vs:List Value} {ds:List (DataW H)} {ps:List MemPlace},
  (∀t∈ts,P.readableRec t=true∧t<P.types.size)→(∀x∈ps,x.block<W.heap.size)→DataW.TrodAll enc P W 0 (fun _=>true) true ts vs ds ps →
  DataW.TrodAll enc P W' 0 (fun b=>decide (b<W.heap.size)) true ts vs ds ps:=by
 intro ts
 induction ts with
 | nil=>
  intro vs ds ps _ _ h
  obtain⟨rfl,rfl,rfl⟩:=trodAll_nil h
  exact trodAll_mk0
 | cons t ts ih=>
  intro vs ds ps hr hp h
  obtain⟨v,vs',d,ds',p,q,rfl,rfl,rfl,h0,r0⟩:=trodAll_cons h
  exact trodAll_cons_mk (Below.trod hl (hr t (by simp)).1 (hr t (by simp)).2 h0 hb fun x hx=>hp x (List.mem_append_left _ hx))
   (ih (fun t' ht'=>hr t' (by simp [ht'])) (fun x hx=>hp x (List.mem_append_right _ hx)) r0)
theorem law_post{f:Func}{s:ChangeSpec}{tb:TypeId}{W W':World}{args:Array Value}{ds gs:List (DataW H)}{before:List MemPlace}
  (hW:DataW.Whole enc P f.params.toList s.vars false W args.toList ds gs before) (hv:s.vars=[]) (hl:laidOutB P=true)
  (hr:∀t∈f.params.toList,P.readableRec t=true∧t<P.types.size) (hres:(s.fn H (ds++[])).results=[.lit (.bool true)]) (hargs:(s.fn H (ds++[])).args=ds) (hvars:(s.fn H (ds++[])).vars=[])
  (hrt:f.resultTypes=#[tb]) (hb:P.underlying tb=some .bool) (hbelow:Below W.heap.size W W') :
  s.post enc P f false true false false W args (.bool true) W':=by
 have hlt:=hW.lt
 have hW':=hW
 obtain⟨p,q,hA,hV,rfl,hfz,hnd⟩:=hW
 rw [hv]at hV
 obtain⟨rfl,rfl⟩:=trodVars_none hV
 refine⟨ds,[],p++[],[],p,[],hW',?_,?_,?_,?_,fun h=>by cases h⟩
 ·rw [hrt,hres]
  exact trodAll_cons_mk (shut_bool hb _) trodAll_mk0
 ·rw [hargs]
  exact trodAll_stay hl hbelow hr (fun x hx=>hlt x (by simpa using hx)) hA
 ·rw [hv,hvars];exact rfl
 ·exact hbelow.frame _
end
theorem u8_of{x:Int}(h:(Lit.int .u8 x).wf=true):0≤x∧x≤255:=by
 simpa [Lit.wf,IntKind.min,IntKind.max,IntKind.signed,IntKind.bits] using h
end
end Go.Proofs.YtcidhpandnjmoaaDoor
