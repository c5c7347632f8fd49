/-
  A region whose order is drawn and in which operations that look at no memory may come up behind stores: those first, then the others that only read, then the rest, one behind the other. Over any program.
-/
import Derived.Test.YtcidhpandnjmoaaDoorMqA
import Derived.Deep.RegionHeld3
import Derived.Lib.LaidTab
import Derived.SliceStrings
import Derived.ChangeSlices
import Derived.Deep.Slices
import Derived.Shelf.Strings.Builder1
namespace Go.Proofs.YtcidhpandnjmoaaDoor
open Go Go.RowKit
set_option linter.unusedSimpArgs false
set_option linter.unusedVariables false
set_option maxRecDepth 100000
set_option maxHeartbeats 8000000
section
def pureOp:Op→Bool
 | .move _ | .assign _ | .pick .. | .unOp .. | .fieldAddr .. | .field .. | .indexAddr .. | .index .. | .extract ..=>true
 | .binOp .. | .nilCheck ..=>true
 | _=>false
def sel(l:List Oper):List Nat→List Oper
 | []=>[]
 | i::is=>match l[i]? with
  | some o=>o::sel l is
  | none=>[]
def waitsT(ops:Array Oper):Nat→Nat→Nat→Bool
 | 0,j,i=>Region.waitsFor .any ops j i
 | f+1,j,i=>Region.waitsFor .any ops j i||(match ops[j]? with | some o=>o.after.any fun e=>Region.binds .any e&&waitsT ops f e.on i | none=>false)
def closedB(ops:Array Oper)(listed:Array Bool):Bool:=
 (List.range ops.size).all fun k=>!(listed.getD k true)||(match ops[k]? with | some o=>o.after.all fun e=>!(Region.binds .any e)||listed.getD e.on false | none=>true)
def Closed(ops:Array Oper)(listed:Array Bool):Prop:=∀k o,ops[k]?=some o→listed.getD k true=true→∀e∈o.after,Region.binds .any e=true→listed.getD e.on false=true
theorem closedB_spec{ops:Array Oper}{listed:Array Bool}(h:closedB ops listed=true):Closed ops listed:=by
 intro k o hk hl e he hb
 unfold closedB at h
 rw [alT]at h
 have hlt:k<ops.size:=(asI.1 hk).1
 have h1:=h k (List.mem_range.2 hlt)
 rw [hl,hk]at h1
 simp only [Bool.not_true,Bool.false_or]at h1
 rw [Array.all_eq_true_iff_forall_mem]at h1
 have h2:=h1 e he
 rw [hb]at h2
 simpa using h2
theorem Closed.put{ops:Array Oper}{listed:Array Bool}(h:Closed ops listed){j:Nat}{oj:Oper}(hoj:ops[j]?=some oj)(hall:∀e∈oj.after,Region.binds .any e=true→listed.getD e.on false=true):Closed ops (listed.setIfInBounds j true):=by
 have up:∀x,listed.getD x false=true→(listed.setIfInBounds j true).getD x false=true:=by
  intro x hx
  by_cases e:j=x
  ·subst e
   simp only [agD,Array.getElem?_setIfInBounds]at hx ⊢
   by_cases hs:j<listed.size
   ·simp [hs]
   ·simp [hs]at hx
  ·rw [getD_set_ne false e];exact hx
 intro k o hk hl e he hb
 by_cases hjk:j=k
 ·subst hjk
  have:oj=o:=Option.some.inj (hoj.symm.trans hk)
  subst this
  exact up _ (hall e he hb)
 ·rw [getD_set_ne true hjk]at hl
  exact up _ (h k o hk hl e he hb)
theorem waitsT_spec{ops:Array Oper}{listed:Array Bool}(hc:Closed ops listed){i:Nat}(hi:listed.getD i true=false):∀ (f j:Nat),waitsT ops f j i=true→∃o,ops[j]?=some o∧∃e∈o.after,Region.binds .any e=true∧listed.getD e.on false=false:=by
 have dir:∀j,Region.waitsFor .any ops j i=true→∃o,ops[j]?=some o∧∃e∈o.after,Region.binds .any e=true∧listed.getD e.on false=false:=by
  intro j h
  obtain⟨o,ho,e,he,hb,hon⟩:=Region.waitsFor_spec h
  exact⟨o,ho,e,he,hb,by rw [hon];exact getD_both hi⟩
 intro f
 induction f with
 | zero=>intro j h;exact dir j h
 | succ f ih=>
  intro j h
  unfold waitsT at h
  rw [Bool.or_eq_true]at h
  rcases h with h | h
  ·exact dir j h
  ·split at h
   ·rename_i o ho
    rw [Array.any_eq_true']at h
    obtain⟨e,he,hb⟩:=h
    rw [Bool.and_eq_true]at hb
    obtain⟨o',ho',e',he',hb',hl'⟩:=ih e.on hb.2
    refine⟨o,ho,e,he,hb.1,?_⟩
    cases hq:listed.getD e.on true with
    | false=>exact getD_both hq
    | true=>
     have:=hc e.on o' ho' hq e' he' hb'
     rw [hl']at this
     cases this
   ·cases h
section
variable {P:Program} {nro n base:Nat} {γ:Nat→Option Nat} {m:List Ent} {H:AH} {α:Fm} {a:Act} {w:World} {Q:Exit→Fm→AH→Prop} {ops:Array Oper}
theorem xread_all{o:Oper}{v:Value}(hp:pureOp o.op=true)(hok:o.op.operands.all (okOpd n γ)=true)(h:xread P γ o.op α H=some v)(hR:Rel nro base γ m H w)(hF:FR n m α a) :
  ∃v',V m v v'∧∀w',(execOp a.eval o).run P w'=.ok (.value v') w':=by
 obtain⟨dst,op,type,pos,after,guard⟩:=o
 simp only at hok h hp
 have ev:∀x∈op.operands,V m (α.eval γ x) (a.eval x):=fun x hx=>hF.eval hR (by
  obtain⟨i,hi,rfl⟩:=Array.mem_iff_getElem.1 hx
  exact (Array.all_eq_true.1 hok) i hi)
 unfold xread at h
 split at h
 ·rename_i x
  cases h
  exact⟨_,ev x (by simp [Op.operands]),fun w'=>by simp [execOp]⟩
 ·rename_i x
  cases h
  exact⟨_,ev x (by simp [Op.operands]),fun w'=>by simp [execOp]⟩
 ·rename_i c x y
  split at h
  case h_2=>cases h
  rename_i t ht
  cases h
  have hc:=ev c (by simp [Op.operands])
  rw [ht]at hc
  have hc:=hc.eq rfl
  refine⟨if t then a.eval x else a.eval y,?_,fun w'=>?_⟩
  ·cases t
   ·exact ev y (by simp [Op.operands])
   ·exact ev x (by simp [Op.operands])
  ·cases t <;> simp [execOp,hc,asBool]
 ·rename_i op t x y _
  have hx:=ev x (by simp [Op.operands])
  have hy:=ev y (by simp [Op.operands])
  split at h
  ·rename_i v' hq
   cases h
   obtain⟨_,p1,p2,p3⟩:=xeqA_run hq x y w
   rw [←hx.eq p1,←hy.eq p2]at hq
   exact⟨v,plainV_mk p3,fun w'=>run_v (xeqA_run hq x y w').1⟩
  split at h
  case h_2=>exact⟨v,plainV_mk (xnil_run hx hy h x y w).2,fun w'=>run_v (xnil_run hx hy h x y w').1⟩
  rename_i v1 hq1
  cases h
  have h:=hq1
  clear hq1
  have hp:plainV (α.eval γ x)=true∧plainV (α.eval γ y)=true:=by
   unfold xbin at h
   split at h <;> first | (cases h;done) | (rename_i e1 e2;rw [e1,e2];exact⟨rfl,rfl⟩) | (constructor <;> simp [*,plainV,plain2,plain1])
  have hpl:=xbin_plain h
  rw [←hx.eq hp.1,←hy.eq hp.2]at h
  exact⟨v,plainV_mk hpl,fun w'=>run_v (xbin_run h x y w')⟩
 ·rename_i op t x
  have hx:=ev x (by simp [Op.operands])
  have hp:plainV (α.eval γ x)=true∧plainV v=true:=by
   unfold xun at h
   split at h <;> cases h <;> (constructor <;> simp [*,plainV,plain2,plain1])
  rw [←hx.eq hp.1]at h
  exact⟨v,plainV_mk hp.2,fun w'=>run_v (xun_run h w')⟩
 ·cases hp
 ·cases hp
 ·rename_i t x f
  obtain⟨v',h1,h2⟩:=xfieldAddr_run (ev x (by simp [Op.operands])) h
  exact⟨v',h1,fun w'=>run_v (h2 w')⟩
 ·rename_i t x f
  obtain⟨v',h1,h2⟩:=xfield_run (ev x (by simp [Op.operands])) h
  exact⟨v',h1,fun w'=>run_v (h2 w')⟩
 ·rename_i t x i
  obtain⟨v',h1,h2⟩:=xindexAddr_run (ev x (by simp [Op.operands])) (ev i (by simp [Op.operands])) h
  exact⟨v',h1,fun w'=>run_v (h2 w')⟩
 ·rename_i t x i
  obtain⟨v',h1,h2⟩:=xindex_run (ev x (by simp [Op.operands])) (ev i (by simp [Op.operands])) h
  exact⟨v',h1,fun w'=>run_v (h2 w')⟩
 ·cases hp
 ·rename_i x i
  split at h
  case h_2=>cases h
  rename_i vs hvs
  have hx:=ev x (by simp [Op.operands])
  rw [hvs]at hx
  obtain⟨ds,he,hs,hv⟩:=hx.tup_
  obtain⟨y,hy,hyv⟩:=hv _ _ h
  refine⟨y,.two hyv,fun w'=>run_v ?_⟩
  simp [he,Instr.extract,hy]
 ·cases hp
 ·rename_i x
  have hx:=ev x (by simp [Op.operands])
  split at h
  case h_4=>cases h
  case h_2=>
   rename_i t v hvs
   cases h
   rw [hvs]at hx
   refine⟨a.eval x,hx,fun w'=>?_⟩
   obtain⟨v',hp,_⟩:=hx.if_
   simp [execOp,hp]
  case h_3=>
   rename_i nm fs cs hvs
   split at h
   case h_2=>cases h
   rename_i t v hfs
   split at h
   case h_2=>cases h
   rename_i fo u hm hu
   cases h
   rw [hvs]at hx
   refine⟨a.eval x,hx,fun w'=>?_⟩
   obtain⟨ds,gs,v',hp,hds,hv2⟩:=hx.meth_ hfs
   have h2:=ahead_run (P:=P) hm hu hv2 (P.types.size+Made.depth-1) w'
   have hfuel:P.types.size+Made.depth-1+1=P.types.size+Made.depth:=by
    have:Made.depth=100:=rfl
    omega
   rw [hfuel]at h2
   simp [execOp,hp,hds,h2]
  rename_i ad hvs
  cases h
  rw [hvs]at hx
  refine⟨a.eval x,hx,fun w'=>?_⟩
  have hp:∃ad',a.eval x=.pointer (some ad'):=by
   generalize a.eval x=z at hx
   cases hx with
   | two h=>cases h with
    | one h=>cases h with
     | plain h=>cases h
     | ptr h=>exact⟨_,rfl⟩
  obtain⟨ad',hp⟩:=hp
  simp [execOp,hp]
 all_goals first
  | (cases hp;done)
  | (cases h;done)
end
end
section
section
variable {P:Program} {nro n base:Nat} {γ:Nat→Option Nat} {m:List Ent} {H:AH} {α:Fm} {a:Act} {w:World} {Q:Exit→Fm→AH→Prop}
theorem Rel.freeze(h:Rel nro base γ m H w):Rel H.length w.heap.size γ m H w:=
  ⟨h.len,nlE _,nlE _,h.inb,fun i e _ he=>h.inb i e he,fun i e hi he=>by
    have:=(gsI.1 he).1
    rw [h.len]at this;omega,
   h.maps,
   fun i k e hk hkm he=>by
    obtain⟨cs,fr,h1,h2,h3,h4,h5⟩:=h.cells i k e hk hkm he
    have hi:=(gsI.1 hk).1
    exact⟨cs,fr,h1,fun hn=>by omega,h3,fun hn=>by omega,h5⟩,
   fun i j ki kj ei ej hi hj _ hki=>by
    have:=(gsI.1 hki).1
    omega,h.globs h.le (fun _ _ h=>h) (fun _ _ _ h=>h) (fun _ _ _ _ _ _=>rfl)⟩
end
end
section
def allocOp:Op→Bool
  | .alloc _ | .box .. | .buildSlice .. | .makeSlice ..=>true
  | _=>false
def isCallF:Op→Bool
  | .call ⟨.value (.func _),_,_⟩=>true
  | _=>false
def reloc(i:Nat):Value→Value
  | .pointer (some ⟨_,o,s⟩)=>.pointer (some ⟨i,o,s⟩)
  | .slice (some ⟨_,o,s⟩) l c=>.slice (some ⟨i,o,s⟩) l c
  | x=>x
def plainB(b:Blk):Bool:=b.cells.all plain1&&b.ents.isNone
theorem plainB_lit(c:List Value)(t:TypeId)(e:Option Nat):plainB ⟨c,t,e⟩=c.all plain1:=by
  unfold plainB
  rw [ents_lit]
  simp
theorem plainB_c{b:Blk}(h:plainB b=true):b.cells.all plain1=true:=by unfold plainB at h;simp only [Bool.and_eq_true]at h;exact h.1
theorem plainB_e{b:Blk}(h:plainB b=true):b.ents=none:=by unfold plainB at h;simp only [Bool.and_eq_true]at h;simpa using h.2
def Shown(h:Nat)(N:List Blk)(L:AH):Value→Prop
  | .pointer (some ⟨i,_,none⟩)=>∀j b,i=h+j→N[j]?=some b→hget L j=some b
  | .slice (some ⟨i,_,none⟩) _ _=>∀j b,i=h+j→N[j]?=some b→hget L j=some b
  | _=>True
def isNd(nd:List Tmp):Option Tmp→Bool
  | some t=>nd.contains t
  | none=>false
def newOp(nd:List Tmp)(o:Oper):Bool:=allocOp o.op||(isNd nd o.dst&&isCallF o.op)
def isSl:Value→Bool
  | .slice (some ⟨_,0,none⟩) l c=>decide (l=c)
  | _=>false
def Fresh(lo:Nat)(b:Blk)(len:Nat)(v:Value)(H:AH):Prop:=∃j,lo≤j∧v=.slice (some ⟨j,0,none⟩) len len∧hget H j=some b
def isLoadF:Op→Bool
  | .load ..=>true
  | .lookup ..=>true
  | _=>false
def lookF:Op→Bool
  | .convert ..=>true
  | .load ..=>true
  | .lookup ..=>true
  | .call ⟨.builtin .len,_,_⟩=>true
  | _=>false
inductive StP where
  | lookc (s t:TypeId) (x:Value)
  | lookl (t:TypeId) (x:Value)
  | val (v:Value)
  | new (v:Value) (b:Option Blk)
  | call (f:FuncId) (args:Array Value)
  | callV (f:FuncId) (args:Array Value)
  | no
def stepPN(r:Option (Value×AH))(H:AH):StP:=match r with | some (v,H')=>.new v (hget H' H.length) | none=>.no
def stepPA(P:Program)(nro:Nat)(γ:Nat→Option Nat)(b:Bool)(op:Op)(α:Fm)(H:AH):StP:=match b with | true=>stepPN (xeff P nro γ op α H) H | false=>(match op with | .convert s d x=>.lookc s d (α.eval γ x) | .load t x=>.lookl t (α.eval γ x) | _=>.no)
def stepPV(P:Program)(nro:Nat)(γ:Nat→Option Nat)(c:Option (FuncId×Array Value))(op:Op)(α:Fm)(H:AH):StP:=match c with | some (f,args)=>.callV f args | none=>stepPA P nro γ (allocOp op) op α H
def stepPX(P:Program)(nro:Nat)(γ:Nat→Option Nat)(r:Option Value)(op:Op)(α:Fm)(H:AH):StP:=match r with | some v=>.val v | none=>stepPV P nro γ (calleeX P γ α op) op α H
def stepPC(P:Program)(nro:Nat)(γ:Nat→Option Nat)(c:Option (FuncId×Array Value))(op:Op)(α:Fm)(H:AH):StP:=
  match c with
  | some (f,args)=>.call f args
  | none=>stepPX P nro γ (xread P γ op α H) op α H
def stepP(P:Program)(nro:Nat)(γ:Nat→Option Nat)(g:Option Bool)(op:Op)(α:Fm)(H:AH):StP:=
  match g with
  | none=>.no
  | some false=>.val undef
  | some true=>stepPC P nro γ (calleeOf γ α op) op α H
def PL(P:Program)(nro n:Nat)(γ:Nat→Option Nat)(nd:List Tmp)(ops:Array Oper)(Q:Fm→List Blk→Prop)(H:AH):List Oper→Fm→List Blk→Prop
  | [],α,N=>Q α N
  | o::rest,α,N=>
    match stepP P nro γ (wantedA ops n α o) o.op α H with
    | .val v=>PL P nro n γ nd ops Q H rest (α.put o.dst v) N
    | .new v (some b)=>plainB b=true∧PL P nro n γ nd ops Q H rest (α.put o.dst (reloc (H.length+N.length) v)) (N++[b])
    | .new _ none=>False
    | .call f args=>callable P f=true∧((∃v,plainV v=true∧(∀L:AH,(∀x∈args.toList,Shown H.length N L x)→AC P (H++L).length γ f args (H++L) (fun v' _=>v'=v))∧PL P nro n γ nd ops Q H rest (α.put o.dst v) N) ∨
      (isNd nd o.dst=true∧∃b len,plainB b=true∧(∀L:AH,(∀x∈args.toList,Shown H.length N L x)→AC P (H++L).length γ f args (H++L) (Fresh (H++L).length b len))∧PL P nro n γ nd ops Q H rest (α.put o.dst (.slice (some ⟨H.length+N.length,0,none⟩) len len)) (N++[b])) ∨
      (isNd nd o.dst=true∧∃x,x∈args.toList∧isSl x=true∧(∀L:AH,(∀x∈args.toList,Shown H.length N L x)→AC P (H++L).length γ f args (H++L) (fun v' _=>v'=x))∧PL P nro n γ nd ops Q H rest (α.put o.dst x) N))
    | .callV f args=>callable P f=true∧∃v,plainV v=true∧AC P H.length γ f args H (fun v' _=>v'=v)∧PL P nro n γ nd ops Q H rest (α.put o.dst v) N
    | .lookc s t x=>∃v,plainV v=true∧(∀L:AH,Shown H.length N L x→xconv P s t x (H++L)=some v)∧PL P nro n γ nd ops Q H rest (α.put o.dst v) N
    | .lookl t x=>∃v,plainV v=true∧(∀L:AH,Shown H.length N L x→xload P t x (H++L)=some v)∧PL P nro n γ nd ops Q H rest (α.put o.dst v) N
    | .no=>False
def PLc(P:Program)(nro n:Nat)(γ:Nat→Option Nat)(nd:List Tmp)(ops:Array Oper)(Q:Fm→List Blk→Prop)(H:AH)(r:StP)(d:Option Tmp)(rest:List Oper)(α:Fm)(N:List Blk):Prop:=
    match r with
    | .val v=>PL P nro n γ nd ops Q H rest (α.put d v) N
    | .new v (some b)=>plainB b=true∧PL P nro n γ nd ops Q H rest (α.put d (reloc (H.length+N.length) v)) (N++[b])
    | .new _ none=>False
    | .call f args=>callable P f=true∧((∃v,plainV v=true∧(∀L:AH,(∀x∈args.toList,Shown H.length N L x)→AC P (H++L).length γ f args (H++L) (fun v' _=>v'=v))∧PL P nro n γ nd ops Q H rest (α.put d v) N) ∨
      (isNd nd d=true∧∃b len,plainB b=true∧(∀L:AH,(∀x∈args.toList,Shown H.length N L x)→AC P (H++L).length γ f args (H++L) (Fresh (H++L).length b len))∧PL P nro n γ nd ops Q H rest (α.put d (.slice (some ⟨H.length+N.length,0,none⟩) len len)) (N++[b])) ∨
      (isNd nd d=true∧∃x,x∈args.toList∧isSl x=true∧(∀L:AH,(∀x∈args.toList,Shown H.length N L x)→AC P (H++L).length γ f args (H++L) (fun v' _=>v'=x))∧PL P nro n γ nd ops Q H rest (α.put d x) N))
    | .callV f args=>callable P f=true∧∃v,plainV v=true∧AC P H.length γ f args H (fun v' _=>v'=v)∧PL P nro n γ nd ops Q H rest (α.put d v) N
    | .lookc s t x=>∃v,plainV v=true∧(∀L:AH,Shown H.length N L x→xconv P s t x (H++L)=some v)∧PL P nro n γ nd ops Q H rest (α.put d v) N
    | .lookl t x=>∃v,plainV v=true∧(∀L:AH,Shown H.length N L x→xload P t x (H++L)=some v)∧PL P nro n γ nd ops Q H rest (α.put d v) N
    | .no=>False
section
variable {P:Program} {nro n base:Nat} {γ:Nat→Option Nat} {m:List Ent} {H:AH} {α:Fm} {a:Act} {w:World} {ops:Array Oper} {K:Fm→List Blk→Prop} {N:List Blk} {nd:List Tmp}
theorem stepP_t(op:Op):stepP P nro γ (some true) op α H=stepPC P nro γ (calleeOf γ α op) op α H:=rfl
theorem stepP_f(op:Op):stepP P nro γ (some false) op α H=.val undef:=rfl
theorem stepPC_n(op:Op):stepPC P nro γ none op α H=stepPX P nro γ (xread P γ op α H) op α H:=rfl
theorem stepPC_s(f:FuncId)(args:Array Value)(op:Op):stepPC P nro γ (some (f,args)) op α H=.call f args:=rfl
theorem stepPX_s(v:Value)(op:Op):stepPX P nro γ (some v) op α H=.val v:=rfl
theorem stepPX_n(op:Op):stepPX P nro γ none op α H=stepPV P nro γ (calleeX P γ α op) op α H:=rfl
theorem stepPV_n(op:Op):stepPV P nro γ none op α H=stepPA P nro γ (allocOp op) op α H:=rfl
theorem stepPV_s(f:FuncId)(args:Array Value)(op:Op):stepPV P nro γ (some (f,args)) op α H=.callV f args:=rfl
theorem stepPA_t(op:Op):stepPA P nro γ true op α H=stepPN (xeff P nro γ op α H) H:=rfl
theorem stepPA_c(s d:TypeId)(x:Operand):stepPA P nro γ false (.convert s d x) α H=.lookc s d (α.eval γ x):=rfl
theorem stepPA_l(t:TypeId)(x:Operand):stepPA P nro γ false (.load t x) α H=.lookl t (α.eval γ x):=rfl
theorem stepPN_s(v:Value)(H':AH):stepPN (some (v,H')) H=.new v (hget H' H.length):=rfl
theorem PL_nil:PL P nro n γ nd ops K H [] α N=K α N:=rfl
theorem PL_cons(o:Oper)(rest:List Oper):PL P nro n γ nd ops K H (o::rest) α N=PLc P nro n γ nd ops K H (stepP P nro γ (wantedA ops n α o) o.op α H) o.dst rest α N:=by
  unfold PLc
  rw [PL]
theorem PLc_val(v:Value)(d:Option Tmp)(rest:List Oper):PLc P nro n γ nd ops K H (.val v) d rest α N=PL P nro n γ nd ops K H rest (α.put d v) N:=rfl
theorem PLc_new(v:Value)(b:Blk)(d:Option Tmp)(rest:List Oper):PLc P nro n γ nd ops K H (.new v (some b)) d rest α N=(plainB b=true∧PL P nro n γ nd ops K H rest (α.put d (reloc (H.length+N.length) v)) (N++[b])):=rfl
theorem PLc_call{f:FuncId}{args:Array Value}{d:Option Tmp}{rest:List Oper}{v:Value}(h1:callable P f=true)(h2:∀L:AH,(∀x∈args.toList,Shown H.length N L x)→AC P (H++L).length γ f args (H++L) (fun v' _=>v'=v))(h3:plainV v=true)
    (h4:PL P nro n γ nd ops K H rest (α.put d v) N):PLc P nro n γ nd ops K H (.call f args) d rest α N:=⟨h1,.inl ⟨v,h3,h2,h4⟩⟩
theorem PLc_conv{s t:TypeId}{x:Value}{d:Option Tmp}{rest:List Oper}{v:Value}(h2:∀L:AH,Shown H.length N L x→xconv P s t x (H++L)=some v)(h3:plainV v=true)
    (h4:PL P nro n γ nd ops K H rest (α.put d v) N):PLc P nro n γ nd ops K H (.lookc s t x) d rest α N:=⟨v,h3,h2,h4⟩
theorem reloc_sl(i j o l c:Nat)(s:Option Nat):reloc i (.slice (some ⟨j,o,s⟩) l c)=.slice (some ⟨i,o,s⟩) l c:=rfl
theorem reloc_ptr(i j o:Nat)(s:Option Nat):reloc i (.pointer (some ⟨j,o,s⟩))=.pointer (some ⟨i,o,s⟩):=rfl
def StepOk(P:Program)(nro n:Nat)(γ:Nat→Option Nat)(nd:List Tmp)(ops:Array Oper)(H:AH)(o:Oper)(β:Fm)(N:List Blk)(v:Value)(nb:Option Blk):Prop:=
  (wantedA ops n β o=some false∧v=undef∧nb=none) ∨
  (wantedA ops n β o=some true∧isCallF o.op=false∧(lookF o.op=false∨isLoadF o.op=true)∧xread P γ o.op β H=some v∧nb=none) ∨
  (wantedA ops n β o=some true∧allocOp o.op=true∧∃v0 H' b,xeff P nro γ o.op β H=some (v0,H')∧hget H' H.length=some b∧plainB b=true∧v=reloc (H.length+N.length) v0∧nb=some b) ∨
  (wantedA ops n β o=some true∧isCallF o.op=true∧(∃f args,calleeOf γ β o.op=some (f,args)∧callable P f=true∧plainV v=true∧(∀L:AH,(∀x∈args.toList,Shown H.length N L x)→AC P (H++L).length γ f args (H++L) (fun v' _=>v'=v)))∧nb=none) ∨
  (wantedA ops n β o=some true∧isCallF o.op=true∧isNd nd o.dst=true∧∃f args b len,calleeOf γ β o.op=some (f,args)∧callable P f=true∧plainB b=true∧(∀L:AH,(∀x∈args.toList,Shown H.length N L x)→AC P (H++L).length γ f args (H++L) (Fresh (H++L).length b len))∧v=.slice (some ⟨H.length+N.length,0,none⟩) len len∧nb=some b) ∨
  (wantedA ops n β o=some true∧isCallF o.op=true∧isNd nd o.dst=true∧∃f args,calleeOf γ β o.op=some (f,args)∧callable P f=true∧v∈args.toList∧isSl v=true∧(∀L:AH,(∀x∈args.toList,Shown H.length N L x)→AC P (H++L).length γ f args (H++L) (fun v' _=>v'=v))∧nb=none) ∨
  (wantedA ops n β o=some true∧isCallF o.op=false∧lookF o.op=true∧plainV v=true∧(∀L:AH,(∀x∈o.op.operands,Shown H.length N L (β.eval γ x))→xread P γ o.op β (H++L)=some v)∧nb=none) ∨
  (wantedA ops n β o=some true∧isCallF o.op=false∧lookF o.op=false∧(∃f args,calleeX P γ β o.op=some (f,args)∧callable P f=true∧plainV v=true∧AC P H.length γ f args H (fun v' _=>v'=v))∧nb=none)
theorem xconv_mono{s t:TypeId}{x v:Value}(h:xconv P s t x H=some v)(L:AH):xconv P s t x (H++L)=some v∧plainV v=true:=by
  unfold xconv at h ⊢
  split at h
  · split at h
    · rename_i he _ hk;rw [if_pos hk];exact⟨h,by cases h;rfl⟩
    · cases h
  · split at h
    · rename_i he _ hk;rw [if_pos hk];exact⟨h,by cases h;rfl⟩
    · cases h
  · refine⟨h,?_⟩
    repeat' split at h
    all_goals first | (cases h;done) | (cases h;rfl)
  · rename_i b i off len c hd
    cases hg:hget H i with
    | none => rw [hg] at h; repeat' split at h
              all_goals first | contradiction | (cases h;done)
    | some k=>
      rw [hget_left' hg]
      rw [hg]at h
      refine⟨h,?_⟩
      repeat' split at h
      all_goals first | (cases h;done) | (cases h;rfl)
  · cases h
theorem xload_new{t:TypeId}{i o:Nat}{q:Option Nat}{v:Value}(h:xload P t (.pointer (some ⟨i,o,q⟩)) H=some v):i<H.length:=by
  unfold xload at h
  split at h
  · rename_i e
    cases e
    split at h
    · cases h
    · rename_i k hk;exact hget_lt hk
  · cases h
theorem put_ne{α:Fm}{o:Option Tmp}{v:Value}{t:Tmp}(h:o≠some t):α.put o v t=α t:=by
  cases o with
  | none=>rfl
  | some d=>
    show (if t=d then v else α t)=α t
    rw [if_neg (fun e=>h (by rw [e]))]
def dstO(ops:Array Oper)(j:Nat):Option Tmp:=(ops[j]?).bind (·.dst)
def Planned(P:Program)(nro n:Nat)(γ:Nat→Option Nat)(nd:List Tmp)(ops:Array Oper)(H:AH)(val:Nat→Value)(nb:Nat→Option Blk)(Ns:Nat→List Blk):List Nat→Fm→List Blk→Prop
  | [],_,_=>True
  | i::hs,α,N=>∃o,ops[i]?=some o∧Ns i=N∧StepOk P nro n γ nd ops H o α N (val i) (nb i)∧Planned P nro n γ nd ops H val nb Ns hs (α.put o.dst (val i)) (N++(nb i).toList)
def endF(ops:Array Oper)(val:Nat→Value):List Nat→Fm→Fm
  | [],α=>α
  | i::hs,α=>endF ops val hs (α.put (dstO ops i) (val i))
def endN(nb:Nat→Option Blk):List Nat→List Blk→List Blk
  | [],N=>N
  | i::hs,N=>endN nb hs (N++(nb i).toList)
theorem Planned.congr{val val':Nat→Value}{nb nb':Nat→Option Blk}{Ns Ns':Nat→List Blk}:∀ (hs:List Nat) (α:Fm) (N:List Blk),(∀x∈hs,val x=val' x∧nb x=nb' x∧Ns x=Ns' x) →
    Planned P nro n γ nd ops H val' nb' Ns' hs α N→Planned P nro n γ nd ops H val nb Ns hs α N∧endF ops val hs α=endF ops val' hs α∧endN nb hs N=endN nb' hs N
  | [],α,N,_,_=>⟨trivial,rfl,rfl⟩
  | i::hs,α,N,hx,h=>by
    obtain⟨o,h1,h2,h3,h4⟩:=h
    obtain⟨e1,e2,e3⟩:=hx i (by simp)
    obtain⟨k1,k2,k3⟩:=Planned.congr hs _ _ (fun x hx'=>hx x (by simp [hx'])) h4
    refine⟨⟨o,h1,e3.trans h2,by rw [e1,e2];exact h3,by rw [e1,e2];exact k1⟩,?_,?_⟩
    · have hd:dstO ops i=o.dst:=by simp [dstO,h1]
      show endF ops val hs (α.put (dstO ops i) (val i))=endF ops val' hs (α.put (dstO ops i) (val' i))
      rw [hd,e1];exact k2
    · show endN nb hs (N++(nb i).toList)=endN nb' hs (N++(nb' i).toList)
      rw [e2];exact k3
theorem callee_isCall{op:Op}{c:FuncId×Array Value}(h:calleeOf γ α op=some c):isCallF op=true:=by
  unfold calleeOf at h
  split at h
  · rfl
  · cases h
theorem callee_notCall{op:Op}(h:calleeOf γ α op=none):isCallF op=false:=by
  unfold calleeOf at h
  split at h
  · cases h
  · rename_i hne
    unfold isCallF
    split
    · rename_i f args ts;exact absurd rfl (hne f args ts)
    · rfl
theorem PL.step{o:Oper}{rest:List Oper}(h:PL P nro n γ nd ops K H (o::rest) α N):∃v nb,StepOk P nro n γ nd ops H o α N v nb∧PL P nro n γ nd ops K H rest (α.put o.dst v) (N++nb.toList):=by
  rw [PL_cons]at h
  cases hw:wantedA ops n α o with
  | none=>rw [hw]at h;exact h.elim
  | some b=>
    rw [hw]at h
    cases b with
    | false=>exact⟨undef,none,.inl ⟨hw,rfl,rfl⟩,by rw [stepP_f,PLc_val]at h;simpa using h⟩
    | true=>
      rw [stepP_t]at h
      cases hc:calleeOf γ α o.op with
      | some c=>
        obtain⟨f,args⟩:=c
        rw [hc,stepPC_s]at h
        obtain⟨h1,⟨v,h2,h3,h4⟩ | ⟨hd,b,len,h2,h3,h4⟩ | ⟨hd,x,hx,hs,h3,h4⟩⟩:=h
        · exact⟨v,none,.inr (.inr (.inr (.inl ⟨hw,callee_isCall hc,⟨f,args,hc,h1,h2,h3⟩,rfl⟩))),by simpa using h4⟩
        · exact⟨_,some b,.inr (.inr (.inr (.inr (.inl ⟨hw,callee_isCall hc,hd,f,args,b,len,hc,h1,h2,h3,rfl,rfl⟩)))),h4⟩
        · exact⟨x,none,.inr (.inr (.inr (.inr (.inr (.inl ⟨hw,callee_isCall hc,hd,f,args,hc,h1,hx,hs,h3,rfl⟩))))),by simpa using h4⟩
      | none=>
        rw [hc,stepPC_n]at h
        cases hx:xread P γ o.op α H with
        | some v=>
          rw [hx,stepPX_s,PLc_val]at h
          refine⟨v,none,?_,by simpa using h⟩
          have hcf:=callee_notCall hc
          by_cases hl:lookF o.op=false∨isLoadF o.op=true
          · exact .inr (.inl ⟨hw,hcf,hl,hx,rfl⟩)
          · have hl':lookF o.op=true:=by
              cases hq:lookF o.op with
              | true=>rfl
              | false=>exact absurd (.inl hq) hl
            have hp:plainV v=true∧∀L:AH,xread P γ o.op α (H++L)=some v:=by
              obtain⟨dst,op,type,pos,after,guard⟩:=o
              simp only at hl hl' hx ⊢
              unfold lookF at hl'
              split at hl'
              · simp only [xread]at hx ⊢
                exact⟨(xconv_mono hx []).2,fun L=>(xconv_mono hx L).1⟩
              · exact absurd (.inr rfl) hl
              · exact absurd (.inr rfl) hl
              · rename_i args ts
                simp only [xread]at hx ⊢
                split at hx
                · rename_i x t e1 e2 e3
                  refine⟨?_,fun L=>hx⟩
                  unfold xlen at hx
                  repeat' split at hx
                  all_goals first | (cases hx;done) | (cases hx;rfl)
                · exact absurd ‹Callee.builtin Builtin.len=Callee.builtin Builtin.min› (by simp)
                · exact absurd ‹Callee.builtin Builtin.len=Callee.builtin Builtin.max› (by simp)
                · exact absurd ‹Callee.builtin Builtin.len=Callee.builtin Builtin.cap› (by simp)
                · cases hx
              · cases hl'
            exact .inr (.inr (.inr (.inr (.inr (.inr (.inl ⟨hw,hcf,hl',hp.1,fun L _=>hp.2 L,rfl⟩))))))
        | none=>
          rw [hx,stepPX_n]at h
          cases hcx:calleeX P γ α o.op with
          | some c=>
            obtain⟨f,args⟩:=c
            rw [hcx,stepPV_s]at h
            obtain⟨h1,v,h2,h3,h4⟩:=h
            have hcf:=callee_notCall hc
            have hlk:lookF o.op=false:=by
              unfold calleeX at hcx
              split at hcx
              · rename_i he;rw [he];rfl
              · rename_i he;rw [he];rfl
              · cases hcx
            exact⟨v,none,.inr (.inr (.inr (.inr (.inr (.inr (.inr ⟨hw,hcf,hlk,⟨f,args,hcx,h1,h2,h3⟩,rfl⟩)))))),by simpa using h4⟩
          | none=>
          rw [hcx,stepPV_n]at h
          cases ha:allocOp o.op with
          | false=>
            rw [ha]at h
            obtain⟨dst,op,type,pos,after,guard⟩:=o
            simp only at hc hx ha h hw ⊢
            have key:(∃s t x,op=.convert s t x)∨(∃t x,op=.load t x)∨PLc P nro n γ nd ops K H .no dst rest α N:=by
              cases op <;> first | exact .inl ⟨_,_,_,rfl⟩ | exact .inr (.inl ⟨_,_,rfl⟩) | exact .inr (.inr h)
            rcases key with ⟨s,t,x,rfl⟩ | ⟨t,x,rfl⟩ | hno
            · obtain⟨v,h1,h2,h3⟩:=h
              exact⟨v,none,.inr (.inr (.inr (.inr (.inr (.inr (.inl ⟨hw,rfl,rfl,h1,fun L hs=>h2 L (hs x (by simp [Op.operands])),rfl⟩)))))),by simpa using h3⟩
            · obtain⟨v,h1,h2,h3⟩:=h
              exact⟨v,none,.inr (.inr (.inr (.inr (.inr (.inr (.inl ⟨hw,rfl,rfl,h1,fun L hs=>h2 L (hs x (by simp [Op.operands])),rfl⟩)))))),by simpa using h3⟩
            · exact hno.elim
          | true=>
            rw [ha,stepPA_t]at h
            cases he:xeff P nro γ o.op α H with
            | none=>rw [he]at h;exact h.elim
            | some r=>
              obtain⟨v0,H'⟩:=r
              rw [he,stepPN_s]at h
              cases hb:hget H' H.length with
              | none=>rw [hb]at h;exact h.elim
              | some b=>
                rw [hb,PLc_new]at h
                exact⟨_,some b,.inr (.inr (.inl ⟨hw,ha,v0,H',b,he,hb,h.1,rfl,rfl⟩)),h.2⟩
theorem PL.plan{l:List Oper}(hl:l.toArray=ops):∀ (hs:List Nat) (α:Fm) (N:List Blk),hs.Nodup→(∀i∈hs,i<l.length)→PL P nro n γ nd ops K H (sel l hs) α N →
    ∃val nb Ns,Planned P nro n γ nd ops H val nb Ns hs α N∧K (endF ops val hs α) (endN nb hs N)
  | [],α,N,_,_,h=>⟨fun _=>undef,fun _=>none,fun _=>[],trivial,h⟩
  | i::hs,α,N,hnd,hlt,h=>by
    have hi:=hlt i (by simp)
    have hli:l[i]?=some l[i]:=geE hi
    have hoi:ops[i]?=some l[i]:=by rw [←hl];simp
    simp only [sel,hli]at h
    obtain⟨v,b,h1,h2⟩:=PL.step h
    rw [List.nodup_cons]at hnd
    obtain⟨val,nb,Ns,h3,h4⟩:=PL.plan hl hs _ _ hnd.2 (fun x hx=>hlt x (by simp [hx])) h2
    have hne:∀x∈hs,x≠i:=fun x hx e=>hnd.1 (e▸hx)
    obtain⟨k1,k2,k3⟩:=Planned.congr (val:=fun x=>if x=i then v else val x) (nb:=fun x=>if x=i then b else nb x) (Ns:=fun x=>if x=i then N else Ns x) hs _ _ (fun x hx=>by simp [hne x hx]) h3
    refine⟨fun x=>if x=i then v else val x,fun x=>if x=i then b else nb x,fun x=>if x=i then N else Ns x,⟨l[i],hoi,by simp,by simpa using h1,?_⟩,?_⟩
    · simpa using k1
    · have hd:dstO ops i=l[i].dst:=by simp [dstO,hoi]
      show K (endF ops _ hs (α.put (dstO ops i) _)) (endN _ hs (N++_))
      rw [hd]
      simp only [if_true]
      rw [k2,k3]
      exact h4
variable {val:Nat→Value} {nb:Nat→Option Blk} {Ns:Nat→List Blk}
theorem endN_pre:∀ (hs:List Nat) (N:List Blk),N <+: endN nb hs N
  | [],N=>List.prefix_rfl
  | i::hs,N=>(List.prefix_append N _).trans (endN_pre hs _)
theorem Planned.pre:∀ (hs:List Nat) (α:Fm) (N:List Blk),Planned P nro n γ nd ops H val nb Ns hs α N→∀i∈hs,N <+: Ns i
  | i0::hs,α,N,h,i,hi=>by
    obtain⟨o,h1,h2,h3,h4⟩:=h
    rcases List.mem_cons.1 hi with rfl | hi
    · rw [h2];exact List.prefix_rfl
    · exact (List.prefix_append N _).trans (Planned.pre hs _ _ h4 i hi)
theorem Planned.at:∀ (hs:List Nat) (α:Fm) (N:List Blk),hs.Pairwise (·<·)→Planned P nro n γ nd ops H val nb Ns hs α N→∀i∈hs,∃o β,ops[i]?=some o∧StepOk P nro n γ nd ops H o β (Ns i) (val i) (nb i)∧Ns i++(nb i).toList <+: endN nb hs N ∧
    (∀t,(∀j∈hs,j<i→dstO ops j≠some t)→β t=α t)∧(∀j∈hs,j<i→∀t,dstO ops j=some t→(∀j'∈hs,j'≠j→dstO ops j'≠some t)→β t=val j)
  | i0::hs,α,N,hp,h,i,hi=>by
    obtain⟨o,h1,h2,h3,h4⟩:=h
    rw [List.pairwise_cons]at hp
    have hd:dstO ops i0=o.dst:=by simp [dstO,h1]
    rcases List.mem_cons.1 hi with rfl | hi
    · refine⟨o,α,h1,by rw [h2];exact h3,by rw [h2];exact endN_pre hs _,fun t _=>rfl,fun j hj hlt=>?_⟩
      rcases List.mem_cons.1 hj with rfl | hj
      · omega
      · have:=hp.1 j hj;omega
    · obtain⟨o',β,k1,k2,k3,k4,k5⟩:=Planned.at hs _ _ hp.2 h4 i hi
      have hlt:=hp.1 i hi
      refine⟨o',β,k1,k2,k3,fun t ht=>?_,fun j hj hji t hjt hot=>?_⟩
      · rw [k4 t fun j hj hji=>ht j (by simp [hj]) hji]
        have:=ht i0 (by simp) hlt
        rw [hd]at this
        exact put_ne this
      · rcases List.mem_cons.1 hj with rfl | hj
        · rw [k4 t fun j' hj' hlt'=>hot j' (by simp [hj']) (by have:=hp.1 j' hj';omega)]
          rw [hd]at hjt
          rw [hjt]
          simp [Fm.put]
        · exact k5 j hj hji t hjt fun j' hj' hne=>hot j' (by simp [hj']) hne
theorem Planned.end_at:∀ (hs:List Nat) (α:Fm) (N:List Blk),hs.Nodup→Planned P nro n γ nd ops H val nb Ns hs α N →
    (∀t,(∀j∈hs,dstO ops j≠some t)→endF ops val hs α t=α t)∧(∀j∈hs,∀t,dstO ops j=some t→(∀j'∈hs,j'≠j→dstO ops j'≠some t)→endF ops val hs α t=val j)
  | [],α,N,_,_=>⟨fun _ _=>rfl,fun j hj=>by cases hj⟩
  | i0::hs,α,N,hp,h=>by
    obtain⟨o,h1,h2,h3,h4⟩:=h
    rw [List.nodup_cons]at hp
    have hd:dstO ops i0=o.dst:=by simp [dstO,h1]
    obtain⟨k4,k5⟩:=Planned.end_at hs _ _ hp.2 h4
    refine⟨fun t ht=>?_,fun j hj t hjt hot=>?_⟩
    · show endF ops val hs (α.put (dstO ops i0) (val i0)) t=α t
      rw [hd,k4 t fun j hj=>ht j (by simp [hj])]
      have:=ht i0 (by simp)
      rw [hd]at this
      exact put_ne this
    · show endF ops val hs (α.put (dstO ops i0) (val i0)) t=val j
      rcases List.mem_cons.1 hj with rfl | hj
      · rw [hd,k4 t fun j' hj'=>hot j' (by simp [hj']) (fun e=>hp.1 (e▸hj'))]
        rw [hd]at hjt
        rw [hjt]
        simp [Fm.put]
      · rw [hd]
        exact k5 j hj t hjt fun j' hj' hne=>hot j' (by simp [hj']) hne
theorem Planned.cover:∀ (hs:List Nat) (α:Fm) (N:List Blk),Planned P nro n γ nd ops H val nb Ns hs α N→∀j,N.length≤j→j<(endN nb hs N).length→∃i∈hs,(Ns i).length=j∧(nb i).isSome=true
  | [],α,N,_,j,h1,h2=>by simp only [endN]at h2;omega
  | i0::hs,α,N,h,j,hj1,hj2=>by
    obtain⟨o,h1,h2,h3,h4⟩:=h
    by_cases hj:(N++(nb i0).toList).length≤j
    · obtain⟨i,hi,k⟩:=Planned.cover hs _ _ h4 j hj hj2
      exact⟨i,by simp [hi],k⟩
    · refine⟨i0,by simp,?_⟩
      cases hb:nb i0 with
      | none=>rw [hb]at hj;simp at hj;omega
      | some b=>
        rw [hb]at hj
        simp at hj
        exact⟨by rw [h2];omega,rfl⟩
theorem Planned.lt:∀ (hs:List Nat) (α:Fm) (N:List Blk),hs.Pairwise (·<·)→Planned P nro n γ nd ops H val nb Ns hs α N→∀i∈hs,∀i'∈hs,i<i'→Ns i++(nb i).toList <+: Ns i'
  | i0::hs,α,N,hp,h,i,hi,i',hi',hlt=>by
    obtain⟨o,h1,h2,h3,h4⟩:=h
    rw [List.pairwise_cons]at hp
    rcases List.mem_cons.1 hi with e | h5
    · rcases List.mem_cons.1 hi' with e' | h6
      · omega
      · rw [e,h2];exact Planned.pre hs _ _ h4 i' h6
    · rcases List.mem_cons.1 hi' with e' | h6
      · have:=hp.1 i h5;omega
      · exact Planned.lt hs _ _ hp.2 h4 i h5 i' h6 hlt
end
end
section
def seesB(ops:Array Oper)(hs:List Nat)(i:Nat)(o:Oper):Bool:=
 hs.all fun j=>decide (j=i)||(match dstO ops j with
  | none=>true
  | some d=>decide (o.dst≠some d)&&(!(o.looksAt ops).contains d||((decide (j<i)&&Region.waitsFor .any ops i j)||(decide (i<j)&&Region.waitsFor .any ops j i))))
def guardT(ops:Array Oper)(o:Oper):List Tmp:=match o.guard with | some (g,_)=>(dstO ops g).toList | none=>[]
def oldB(nd:List Tmp)(ops:Array Oper)(hs:List Nat)(o:Oper):Bool:=
 hs.all fun j=>match ops[j]? with
  | some oj=>!newOp nd oj||(match oj.dst with | some d=>!(if isCallF o.op||lookF o.op then guardT ops o else o.looksAt ops).contains d | none=>true)
  | none=>true
def sortedB:List Nat→Bool
 | []=>true
 | [_]=>true
 | i::j::l=>decide (i<j)&&sortedB (j::l)
theorem sortedB_spec:∀ {l:List Nat},sortedB l=true→l.Pairwise (·<·)
 | [],_=>.nil
 | [x],_=>List.pairwise_singleton _ x
 | i::j::l,h=>by
  simp only [sortedB,Bool.and_eq_true,decide_eq_true_eq]at h
  have h2:=sortedB_spec h.2
  refine List.pairwise_cons.2 ⟨fun x hx=>?_,h2⟩
  rcases List.mem_cons.1 hx with rfl | hx
  ·exact h.1
  ·exact Nat.lt_trans h.1 ((List.pairwise_cons.1 h2).1 x hx)
def setAll(hs:List Nat)(listed:Array Bool):Array Bool:=hs.foldl (fun l i=>l.setIfInBounds i true) listed
def opOkB(nd:List Tmp)(ops:Array Oper)(hs:List Nat)(listed:Array Bool)(i:Nat):Bool:=
 match ops[i]? with
 | some o=>!(listed.getD i true)&&seesB ops hs i o&&oldB nd ops hs o&&o.after.all (fun e=>!(Region.binds .any e)||listed.getD e.on false||(hs.contains e.on&&decide (e.on<i)))
 | none=>false
def headB(nd:List Tmp)(ops:Array Oper)(hs:List Nat)(k g:Nat)(listed:Array Bool):Bool:=
 sortedB hs&&closedB ops listed&&decide (listed.size=ops.size)&&hs.all (opOkB nd ops hs listed)&&(Region.ready .any ops (setAll hs listed)).all (fun j=>hs.all fun i=>waitsT ops ops.size j i)&&Region.seqB .any ops g k (setAll hs listed)
theorem setAll_size:∀ (hs:List Nat) (listed:Array Bool),(setAll hs listed).size=listed.size
 | [],_=>rfl
 | i::hs,listed=>by
  show (setAll hs (listed.setIfInBounds i true)).size=_
  rw [setAll_size hs];simp
theorem setAll_get:∀ (hs:List Nat) (listed:Array Bool) (x:Nat),x<listed.size→((setAll hs listed).getD x false=true↔listed.getD x false=true∨x∈hs)
 | [],listed,x,_=>by simp [setAll]
 | i::hs,listed,x,hx=>by
  show (setAll hs (listed.setIfInBounds i true)).getD x false=true↔_
  rw [setAll_get hs _ x (by simpa using hx)]
  by_cases e:i=x
  ·subst e
   simp [hx]
  ·rw [getD_set_ne false e]
   simp [Ne.symm e]
section
variable {P:Program} {nro n base:Nat} {γ:Nat→Option Nat} {m:List Ent} {H:AH} {α:Fm} {a:Act} {w:World} {ops:Array Oper} {K:Fm→List Blk→Prop} {N:List Blk}
theorem eval_ev(hR:Rel nro base γ m H w){x:Operand}(hok:okOpd n γ x=true)(ht:∀t,x=.tmp t→t<n→V m (α t) (a.tmps.getD t undef)):V m (α.eval γ x) (a.eval x):=by
 cases x with
 | tmp t=>exact ht t rfl (by simpa [okOpd] using hok)
 | const v=>exact plainV_mk hok
 | global g=>
  simp only [okOpd]at hok
  obtain⟨i,hi⟩:=Option.isSome_iff_exists.1 hok
  obtain⟨_,e,h1,h2,h3,_⟩:=hR.glob g i hi
  have h4:α.eval γ (.global g)=.pointer (some ⟨i,0,none⟩):=by simp [Fm.eval,hi]
  have h5:a.eval (.global g)=.pointer (some ⟨e.b,e.o+0,none⟩):=by simp [Act.eval,h2,h3]
  rw [h4,h5]
  exact .one (.ptr h1)
 | func f=>exact .one (.plain rfl)
theorem wantedA_ev{o:Oper}(hsz:a.tmps.size=n)(hv:∀d,d∈guardT ops o→d<n→V m (α d) (a.tmps.getD d undef)){b:Bool}(h:wantedA ops n α o=some b):Region.wanted o (yielded ops a.tmps)=b:=by
 unfold wantedA at h
 unfold Region.wanted
 cases hg:o.guard with
 | none=>rw [hg]at h;exact Option.some.inj h
 | some jw=>
  obtain⟨j,want⟩:=jw
  rw [hg]at h
  show (yielded ops a.tmps j==some want)=b
  unfold yielded
  cases hd:(ops[j]?).bind (·.dst) with
  | none=>simp only [hd]at h;cases h
  | some d=>
   simp only [hd]at h
   by_cases hn:d<n
   ·rw [if_pos hn]at h
    have hv:=hv d (by unfold guardT;simp [hg,dstO,hd]) hn
    have hget:a.tmps[d]?=some (a.tmps.getD d undef):=by
     have:d<a.tmps.size:=by rw [hsz];exact hn
     simp [this]
    unfold wb at h
    split at h
    ·rename_i b' hb
     rw [hb]at hv
     have h1:=hv.eq rfl
     have h3:(some d).bind (fun x=>a.tmps[x]?)=some (.bool b'):=by show a.tmps[d]?=_;rw [hget,h1]
     rw [h3]
     simp only [Option.some.injEq]at h
     rw [←h]
     simp
    ·rename_i vs hb
     rw [hb]at hv
     have h1:∃ds,a.tmps.getD d undef=.tuple ds:=by
      generalize a.tmps.getD d undef=y at hv
      cases hv with
      | two h=>cases h with | one h=>cases h with | plain h=>cases h
      | tup _ _=>exact⟨_,rfl⟩
     obtain⟨ds,h1⟩:=h1
     have h3:(some d).bind (fun x=>a.tmps[x]?)=some (.tuple ds):=by show a.tmps[d]?=_;rw [hget,h1]
     rw [h3]
     simp only [Option.some.injEq]at h
     rw [←h]
     rfl
    ·cases h
   ·rw [if_neg hn]at h;cases h
theorem xeff_alloc{op:Op}{v0:Value}{H':AH}(ha:allocOp op=true)(h:xeff P nro γ op α H=some (v0,H')) :
  (∃b,H'=H++[some b])∧(v0=.pointer (some ⟨H.length,0,none⟩)∨(∃l,v0=.slice (some ⟨H.length,0,none⟩) l l)∨∃l c,v0=.slice (some ⟨H.length,0,some (c+1)⟩) l l)∧∀nro',xeff P nro' γ op α H=some (v0,H'):=by
 refine⟨?_,?_,?_⟩
 ·cases op <;> first | (cases ha;done) | skip
  all_goals
   simp only [xeff]at h
   repeat' split at h
   all_goals first | (cases h;done) | (cases h;exact⟨_,rfl⟩)
 ·cases op <;> first | (cases ha;done) | skip
  all_goals
   simp only [xeff]at h
   repeat' split at h
   all_goals first | (cases h;done) | (cases h;exact .inl rfl) | (cases h;exact .inr (.inl ⟨_,rfl⟩)) | (cases h;exact .inr (.inr ⟨_,_,rfl⟩))
 ·intro nro'
  cases op <;> first | (cases ha;done) | exact h
def BlkOk(w:World)(e:Ent)(b:Blk):Prop:=
 e.o=0∧e.es=b.es∧(b.ents=none∧b.cells.all plain1=true)∧∃cs fr,w.heap[e.b]?=some (.cells cs b.ty fr)∧cs.size=e.sz∧(∀o,o<cs.size→¬ (fr.1≤o∧o<fr.2))∧(b.es.isSome=true→fr=(0,0))∧∀ (j:Nat) (x:Value),b.cells[j]?=some x→cs[j]?=some x
theorem BlkOk.below{w w':World}{e:Ent}{b:Blk}(h:BlkOk w e b)(hb:Below w.heap.size w w'):BlkOk w' e b:=by
 obtain⟨h1,h2,h3,cs,fr,h4,h5⟩:=h
 exact⟨h1,h2,h3,cs,fr,(hb.block _ (asI.1 h4).1).trans h4,h5⟩
def VN(h:Nat)(E:Nat→Option Ent)(v v':Value):Prop:=
 ∃j e,E j=some e∧((v=.pointer (some ⟨h+j,0,none⟩)∧v'=.pointer (some ⟨e.b,0,none⟩)) ∨
  (∃l c,v=.slice (some ⟨h+j,0,none⟩) l l∧v'=.slice (some ⟨e.b,0,none⟩) l c∧l≤c∧∀s,e.es=some s→c*s=e.sz∧c≤maxLen) ∨
  ∃l c,v=.slice (some ⟨h+j,0,some (c+1)⟩) l l∧v'=.slice (some ⟨e.b,0,none⟩) l c∧l≤c)
theorem VN.v{h:Nat}{E:Nat→Option Ent}{v v':Value}(hv:VN h E v v'){m':List Ent}(hm:∀j e,E j=some e→m'[h+j]?=some e)(ho:∀j e,E j=some e→e.o=0):V m' v v':=by
 obtain⟨j,e,he,⟨rfl,rfl⟩ | ⟨l,c,rfl,rfl,hl,hs⟩ | ⟨l,c,rfl,rfl,hl⟩⟩:=hv
 ·have:=V.one (V1.ptr (off:=0) (hm j e he))
  simpa [ho j e he] using this
 ·have:=V.one (V1.sl (off:=0) (hm j e he) hl (fun _ s h=>hs s h))
  simpa [ho j e he] using this
 ·have:=V.one (V1.slx (hm j e he) hl)
  simpa [ho j e he] using this
theorem VN.mono{h:Nat}{E E':Nat→Option Ent}{v v':Value}(hv:VN h E v v')(hE:∀j e,E j=some e→E' j=some e):VN h E' v v':=
 let ⟨j,e,he,r⟩:=hv
 ⟨j,e,hE j e he,r⟩
theorem Rel.news(hR:Rel nro base γ m H w){L:AH}{mL:List Ent}(hl:mL.length=L.length)(h:∀ (j:Nat) (e:Ent),mL[j]?=some e→e.b<w.heap.size)
  (hc:∀ (j:Nat) (b:Blk) (e:Ent),L[j]?=some (some b)→mL[j]?=some e→BlkOk w e b):Rel (H++L).length w.heap.size γ (m++mL) (H++L) w:=by
 have hpre:m <+: m++mL:=List.prefix_append _ _
 have inb:∀ (i:Nat) (e:Ent),(m++mL)[i]?=some e→e.b<w.heap.size:=fun i e he=>by
  rcases Nat.lt_or_ge i m.length with hi | hi
  ·rw [gaL hi]at he;exact hR.inb i e he
  ·rw [gaR hi]at he;exact h _ e he
 refine⟨by simp [hR.len,hl],nlE _,nlE _,inb,fun i e _ he=>inb i e he,fun i e hi he=>?_,fun i k e l hk hkl he=>?_,fun i k e hk hkm he=>?_,fun i j ki kj ei ej hi hj _ hki=>?_,hR.globs (by have:=hR.le;simp;omega) (fun i e h=>pre_get hpre h) (fun i k hi h=>by rwa [gaL (Nat.lt_of_lt_of_le hi hR.le)]at h) (fun _ _ _ _ _ _=>rfl)⟩
 ·have:=(gsI.1 he).1
  simp [hR.len,hl]at this hi
  omega
 ·rcases Nat.lt_or_ge i m.length with hi | hi
  ·rw [gaL hi]at he
   rw [gaL (by rw [←hR.len];exact hi)]at hk
   obtain⟨h1,h2,h3,es,cl,h4,h5⟩:=hR.maps i k e l hk hkl he
   exact⟨h1,h2,h3,es,cl,h4,h5.mono hpre⟩
  ·rw [gaR hi]at he
   rw [gaR (by rw [←hR.len];exact hi),←hR.len]at hk
   have:=(hc _ k e hk he).2.2.1.1
   rw [this]at hkl
   cases hkl
 ·have hlt:=(gsI.1 hk).1
  rcases Nat.lt_or_ge i m.length with hi | hi
  ·rw [gaL hi]at he
   rw [gaL (by rw [←hR.len];exact hi)]at hk
   obtain⟨cs,fr,h1,h2,h3,h4,h5⟩:=hR.cells i k e hk hkm he
   exact⟨cs,fr,h1,fun hn=>by omega,h3,fun hn=>by omega,fun j x hx=>let ⟨y,p,q⟩:=h5 j x hx;⟨y,p,q.mono hpre⟩⟩
  ·rw [gaR hi]at he
   rw [gaR (by rw [←hR.len];exact hi),←hR.len]at hk
   obtain⟨h1,h2,h3,cs,fr,h4,h5,h6,h7,h8⟩:=hc _ k e hk he
   exact⟨cs,fr,h4,fun hn=>by omega,h2,fun hn=>by omega,fun j x hx=>⟨x,by rw [h1,Nat.zero_add];exact h8 j x hx,.plain (alT.1 h3.2 x (moG hx))⟩⟩
 ·have:=(gsI.1 hki).1
  omega
theorem Rel.addAll:∀ (N:List Blk) (mN m:List Ent) (H:AH),Rel nro base γ m H w→mN.length=N.length →
  (∀ (j:Nat) (b:Blk) (e:Ent),N[j]?=some b→mN[j]?=some e→BlkOk w e b∧base≤e.b)→(∀ (i j:Nat) (e e':Ent),m[i]?=some e→mN[j]?=some e'→e.b≠e'.b)→(∀ (i j:Nat) (e e':Ent),i≠j→mN[i]?=some e→mN[j]?=some e'→e.b≠e'.b) →
  Rel nro base γ (m++mN) (H++N.map some) w
 | [],mN,m,H,hR,hl,_,_,_=>by
  have:mN=[]:=List.eq_nil_of_length_eq_zero hl
  subst this
  simpa using hR
 | b::N,[],m,H,hR,hl,_,_,_=>by simp at hl
 | b::N,e::mN,m,H,hR,hl,hc,ho,hd=>by
  obtain⟨⟨h1,h2,h3,cs,fr,h4,h5,h6,h7,h8⟩,h9⟩:=hc 0 b e rfl rfl
  have h:=hR.add (w':=w) (b:=e.b) (cs:=cs) (ty:=b.ty) (fr:=fr) (es:=b.es) (cells:=b.cells) (nlE _) (fun _ _ _ _ _=>rfl) h9 h4 h6 h7 (fun i k e' hi hk he'=>ho i 0 e' e he' rfl)
    (fun j x hx=>⟨x,h8 j x hx,.plain (alT.1 h3.2 x (moG hx))⟩)
  have he0:e=⟨e.b,0,cs.size,b.es⟩:=by cases e;simp_all
  rw [←he0,lit_self h3.1]at h
  clear he0
  have:=Rel.addAll N mN (m++[e]) (H++[some b]) h (by simpa using hl) (fun j b' e' hj he=>hc (j+1) b' e' (by simpa using hj) (by simpa using he)) (fun i j e1 e2 g1 g2=>by
    rcases app_one g1 with ⟨_,g1⟩ | ⟨_,g1⟩
    ·exact ho i (j+1) e1 e2 g1 (by simpa using g2)
    ·exact hd 0 (j+1) e1 e2 (by omega) (by rw [g1];rfl) (by simpa using g2))
   (fun i j e1 e2 hne g1 g2=>hd (i+1) (j+1) e1 e2 (by omega) (by simpa using g1) (by simpa using g2))
  simpa using this
end
end
section
structure PCtx where
 P:Program
 nro:Nat
 n:Nat
 base:Nat
 γ:Nat→Option Nat
 nd:List Tmp
 m:List Ent
 H:AH
 ops:Array Oper
 hs:List Nat
 α:Fm
 w0:World
 listed0:Array Bool
 val:Nat→Value
 nb:Nat→Option Blk
 Ns:Nat→List Blk
structure PCtx.Ok (c:PCtx):Prop where
 rel:Rel c.nro c.base c.γ c.m c.H c.w0
 ok:∀ (i:Nat) (o:Oper),c.ops[i]?=some o→o.op.operands.all (okOpd c.n c.γ)=true
 sel:Region.noSelect c.ops=true
 sorted:c.hs.Pairwise (·<·)
 head:∀i∈c.hs,opOkB c.nd c.ops c.hs c.listed0 i=true
 size0:c.listed0.size=c.ops.size
 plan:Planned c.P c.nro c.n c.γ c.nd c.ops c.H c.val c.nb c.Ns c.hs c.α []
structure PInv (c:PCtx) (listed:Array Bool) (a:Act) (w:World) (E:Nat→Option Ent):Prop where
 dfr:a.defers=[]
 size:a.tmps.size=c.n
 below:Below c.w0.heap.size c.w0 w
 lsz:listed.size=c.ops.size
 sub:∀x,c.listed0.getD x false=true→listed.getD x false=true
 only:∀x,listed.getD x false=true→c.listed0.getD x false=true∨x∈c.hs
 closed:Closed c.ops listed
 old:∀t,t<c.n→(∀i∈c.hs,listed.getD i false=true→dstO c.ops i≠some t)→V c.m (c.α t) (a.tmps.getD t undef)
 got:∀i∈c.hs,∀ (o:Oper) (t:Tmp),c.ops[i]?=some o→listed.getD i false=true→o.dst=some t→t<c.n→V c.m (c.val i) (a.tmps.getD t undef)∨(newOp c.nd o=true∧VN c.H.length E (c.val i) (a.tmps.getD t undef))
 ent:∀ (j:Nat) (e:Ent),E j=some e→c.w0.heap.size≤e.b∧∃b,(endN c.nb c.hs [])[j]?=some b∧BlkOk w e b
 dist:∀ (j j':Nat) (e e':Ent),j≠j'→E j=some e→E j'=some e'→e.b≠e'.b
 all:∀i∈c.hs,listed.getD i false=true→(c.nb i).isSome=true→(E (c.Ns i).length).isSome=true
 from':∀ (j:Nat) (e:Ent),E j=some e→∃i∈c.hs,(c.nb i).isSome=true∧(c.Ns i).length=j∧listed.getD i false=true
section
variable {c:PCtx} {listed:Array Bool} {a:Act} {w:World} {E:Nat→Option Ent}
theorem PCtx.Ok.dst(hc:c.Ok){i j:Nat}(hi:i∈c.hs)(hj:j∈c.hs)(hne:i≠j){t:Tmp}(h:dstO c.ops i=some t):dstO c.ops j≠some t:=by
 have h1:=hc.head i hi
 unfold opOkB at h1
 split at h1
 case h_2=>cases h1
 rename_i o ho
 simp only [Bool.and_eq_true,Bool.not_eq_true']at h1
 have h2:=h1.1.1.2
 unfold seesB at h2
 have h3:=alT.1 h2 j hj
 simp only [Bool.or_eq_true,decide_eq_true_eq]at h3
 rcases h3 with h3 | h3
 ·exact absurd h3.symm hne
 ·intro e
  rw [e]at h3
  simp only [Bool.and_eq_true,decide_eq_true_eq]at h3
  have:dstO c.ops i=o.dst:=by simp [dstO,ho]
  exact h3.1 (this▸h)
theorem getD_set_self{l:Array Bool}{i:Nat}(h:i<l.size):(l.setIfInBounds i true).getD i false=true:=by simp [h]
theorem getD_lt{l:Array Bool}{i:Nat}(h:l.getD i false=true):i<l.size:=by
 rcases Nat.lt_or_ge i l.size with h' | h'
 ·exact h'
 ·simp [Array.getElem?_eq_none h']at h
theorem PInv.next(hc:c.Ok)(h:PInv c listed a w E){i:Nat}{o:Oper}(hi:i∈c.hs)(ho:c.ops[i]?=some o)(hun:listed.getD i true=false)(hall:∀e∈o.after,Region.binds .any e=true→listed.getD e.on false=true)
  {v':Value} {w':World} {E':Nat→Option Ent} (hE:∀ (j:Nat) (e:Ent),E j=some e→E' j=some e) (hb:Below c.w0.heap.size c.w0 w')
  (hent:∀ (j:Nat) (e:Ent),E' j=some e→c.w0.heap.size≤e.b∧∃b,(endN c.nb c.hs [])[j]?=some b∧BlkOk w' e b) (hdist:∀ (j j':Nat) (e e':Ent),j≠j'→E' j=some e→E' j'=some e'→e.b≠e'.b)
  (hnb:(c.nb i).isSome=true→(E' (c.Ns i).length).isSome=true) (hfrom:∀ (j:Nat) (e:Ent),E' j=some e→E j=some e∨((c.nb i).isSome=true∧(c.Ns i).length=j))
  (htr:∀t,o.dst=some t→t<c.n→V c.m (c.val i) v'∨(newOp c.nd o=true∧VN c.H.length E' (c.val i) v')) :
  PInv c (listed.setIfInBounds i true) (a.put o.dst v') w' E':=by
 have hil:i<listed.size:=by rw [h.lsz];exact (asI.1 ho).1
 have hd:dstO c.ops i=o.dst:=by simp [dstO,ho]
 have put_get:∀t,o.dst≠some t→(a.put o.dst v').tmps.getD t undef=a.tmps.getD t undef:=by
  intro t ht
  cases hq:o.dst with
  | none=>rfl
  | some d=>
   have:d≠t:=fun e=>ht (by rw [hq,e])
   simp [Act.put,Array.getElem?_setIfInBounds_ne this]
 have put_self:∀t,o.dst=some t→t<c.n→(a.put o.dst v').tmps.getD t undef=v':=by
  intro t ht hn
  have:t<a.tmps.size:=by rw [h.size];exact hn
  rw [ht]
  simp [Act.put,this]
 have lget:∀x,(listed.setIfInBounds i true).getD x false=true→x=i∨listed.getD x false=true:=by
  intro x hx
  by_cases e:i=x
  ·exact .inl e.symm
  ·rw [getD_set_ne false e]at hx;exact .inr hx
 refine⟨?_,?_,hb,by simpa using h.lsz,fun x hx=>getD_set_true (h.sub x hx),fun x hx=>?_,h.closed.put ho hall,fun t ht hw=>?_,fun i' hi' o' t ho' hl' hdt ht=>?_,hent,hdist,fun i' hi' hl' hn=>?_,fun j e he=>?_⟩
 ·cases hq:o.dst <;> simpa [Act.put,hq] using h.dfr
 ·cases hq:o.dst <;> simpa [Act.put,hq] using h.size
 ·rcases lget x hx with rfl | hx
  ·exact .inr hi
  ·exact h.only x hx
 ·have h1:o.dst≠some t:=by
   have:=hw i hi (getD_set_self hil)
   rwa [hd]at this
  rw [put_get t h1]
  exact h.old t ht fun i' hi' hl'=>hw i' hi' (getD_set_true hl')
 ·by_cases e:i'=i
  ·subst e
   obtain rfl:o=o':=Option.some.inj (ho.symm.trans ho')
   rw [put_self t hdt ht]
   exact htr t hdt ht
  ·have hl2:listed.getD i' false=true:=by rcases lget i' hl' with e' | h';exact absurd e' e;exact h'
   have h1:o.dst≠some t:=by
    have:=hc.dst hi' hi e (t:=t) (by simp [dstO,ho',hdt])
    rwa [hd]at this
   rw [put_get t h1]
   rcases h.got i' hi' o' t ho' hl2 hdt ht with h2 | ⟨h2,h3⟩
   ·exact .inl h2
   ·exact .inr ⟨h2,h3.mono hE⟩
 ·by_cases e:i'=i
  ·subst e;exact hnb hn
  ·have hl2:listed.getD i' false=true:=by rcases lget i' hl' with e' | h';exact absurd e' e;exact h'
   obtain⟨e',he'⟩:=Option.isSome_iff_exists.1 (h.all i' hi' hl2 hn)
   rw [hE _ _ he'];rfl
 ·rcases hfrom j e he with h1 | ⟨h1,h2⟩
  ·obtain⟨i',k1,k2,k3,k4⟩:=h.from' j e h1
   exact⟨i',k1,k2,k3,getD_set_true k4⟩
  ·exact⟨i,hi,h1,h2,getD_set_self hil⟩
theorem PInv.looks(hc:c.Ok)(h:PInv c listed a w E){i:Nat}{o:Oper}(hi:i∈c.hs)(ho:c.ops[i]?=some o)(hun:listed.getD i true=false)(hall:∀e∈o.after,Region.binds .any e=true→listed.getD e.on false=true)
  {β:Fm} (h1:∀t,(∀j∈c.hs,j<i→dstO c.ops j≠some t)→β t=c.α t) (h2:∀j∈c.hs,j<i→∀t,dstO c.ops j=some t→(∀j'∈c.hs,j'≠j→dstO c.ops j'≠some t)→β t=c.val j) :
  ∀t∈o.looksAt c.ops,t<c.n→V c.m (β t) (a.tmps.getD t undef)∨∃j∈c.hs,∃oj,c.ops[j]?=some oj∧newOp c.nd oj=true∧oj.dst=some t∧listed.getD j false=true∧VN c.H.length E (β t) (a.tmps.getD t undef):=by
 intro t htl htn
 have hi0:=getD_both hun
 by_cases hw:∃j∈c.hs,j≠i∧dstO c.ops j=some t
 ·obtain⟨j,hj,hne,hd⟩:=hw
  have hother:∀j'∈c.hs,j'≠j→dstO c.ops j'≠some t:=fun j' hj' hn=>hc.dst hj hj' (Ne.symm hn) hd
  have k1:=hc.head i hi
  unfold opOkB at k1
  rw [ho]at k1
  simp only [Bool.and_eq_true,Bool.not_eq_true']at k1
  have k2:=k1.1.1.2
  unfold seesB at k2
  have k3:=alT.1 k2 j hj
  simp only [Bool.or_eq_true,decide_eq_true_eq]at k3
  rcases k3 with k3 | k3
  ·exact absurd k3 hne
  rw [hd]at k3
  simp only [Bool.and_eq_true,Bool.or_eq_true,decide_eq_true_eq,Bool.not_eq_true']at k3
  rcases k3.2 with k4 | ⟨hlt,k4⟩ | ⟨hlt,k4⟩
  ·have:(o.looksAt c.ops).contains t=true:=by simpa using htl
   rw [this]at k4;cases k4
  ·obtain⟨o2,ho2,e,he,hb,hon⟩:=Region.waitsFor_spec k4
   obtain rfl:o=o2:=Option.some.inj (ho.symm.trans ho2)
   have hl:=hall e he hb
   rw [hon]at hl
   rw [h2 j hj hlt t hd hother]
   obtain⟨oj,hoj,hdj⟩:∃oj,c.ops[j]?=some oj∧oj.dst=some t:=by
    unfold dstO at hd
    cases hq:c.ops[j]? with
    | none=>rw [hq]at hd;cases hd
    | some oj=>rw [hq]at hd;exact⟨oj,rfl,hd⟩
   rcases h.got j hj oj t hoj hl hdj htn with h3 | ⟨h3,h4⟩
   ·exact .inl h3
   ·exact .inr ⟨j,hj,oj,hoj,h3,hdj,hl,h4⟩
  ·have hjl:listed.getD j false=false:=by
    cases hq:listed.getD j false with
    | false=>rfl
    | true=>
     obtain⟨o2,ho2,e,he,hb,hon⟩:=Region.waitsFor_spec k4
     have hqt:listed.getD j true=true:=by
      have:=getD_lt hq
      simp [this]at hq ⊢;exact hq
     have:=h.closed j o2 ho2 hqt e he hb
     rw [hon,hi0]at this
     cases this
   left
   rw [h1 t fun j' hj' hlt'=>hother j' hj' (by omega)]
   refine h.old t htn fun i' hi' hl'=>hother i' hi' (fun e=>?_)
   rw [e,hjl]at hl';cases hl'
 ·left
  have hw':∀j∈c.hs,j≠i→dstO c.ops j≠some t:=fun j hj hne hd=>hw ⟨j,hj,hne,hd⟩
  rw [h1 t fun j hj hlt=>hw' j hj (by omega)]
  refine h.old t htn fun i' hi' hl'=>hw' i' hi' (fun e=>?_)
  rw [e,hi0]at hl';cases hl'
theorem guard_looks{ops:Array Oper}{o:Oper}{d:Tmp}(h:d∈guardT ops o):d∈o.looksAt ops:=by
 refine List.mem_append_right _ ?_
 unfold guardT dstO at h
 split at h
 ·rename_i g b hg;simpa [hg] using h
 ·cases h
theorem oldB_spec{nd:List Tmp}{ops:Array Oper}{hs:List Nat}{o:Oper}(h:oldB nd ops hs o=true){j:Nat}(hj:j∈hs){oj:Oper}(hoj:ops[j]?=some oj)(ha:newOp nd oj=true){t:Tmp}(hd:oj.dst=some t) :
  t∉(if isCallF o.op||lookF o.op then guardT ops o else o.looksAt ops):=by
 have h1:=alT.1 h j hj
 rw [hoj]at h1
 simp only [ha,hd,Bool.not_true,Bool.false_or,Bool.not_eq_true']at h1
 intro hm
 have:(if isCallF o.op||lookF o.op then guardT ops o else o.looksAt ops).contains t=true:=by simpa using hm
 rw [this]at h1
 cases h1
theorem PInv.finish(hc:c.Ok)(h:PInv c listed a w E)(hdone:∀i∈c.hs,listed.getD i false=true):∃m',c.m <+: m'∧Rel c.nro c.base c.γ m' (c.H++(endN c.nb c.hs []).map some) w∧FR c.n m' (endF c.ops c.val c.hs c.α) a:=by
 have hnd:c.hs.Nodup:=hc.sorted.imp (fun h=>Nat.ne_of_lt h)
 have hcov:∀j,j<(endN c.nb c.hs []).length→∃e,E j=some e:=by
  intro j hj
  obtain⟨i,hi,k1,k2⟩:=Planned.cover c.hs c.α [] hc.plan j (Nat.zero_le _) hj
  have:=h.all i hi (hdone i hi) k2
  rw [k1]at this
  exact Option.isSome_iff_exists.1 this
 obtain⟨N,hN⟩:∃N,N=endN c.nb c.hs []:=⟨_,rfl⟩
 let mN:=(List.range N.length).map fun j=>(E j).getD ⟨0,0,0,none⟩
 have hmN:∀j e,j<N.length→E j=some e→mN[j]?=some e:=by
  intro j e hj he
  simp [mN,hj,he]
 have hget:∀ (j:Nat) (e:Ent),mN[j]?=some e→j<N.length∧E j=some e:=by
  intro j e he
  have hj:j<N.length:=by
   have:=(gsI.1 he).1
   simpa [mN] using this
  obtain⟨e',he'⟩:=hcov j (by rw [←hN];exact hj)
  have:=hmN j e' hj he'
  rw [he]at this
  cases this
  exact⟨hj,he'⟩
 have hlow:∀ (i:Nat) (e:Ent),c.m[i]?=some e→e.b<c.w0.heap.size:=hc.rel.inb
 refine⟨c.m++mN,List.prefix_append _ _,?_,?_⟩
 ·rw [←hN]
  refine Rel.addAll N mN c.m c.H (hc.rel.below h.below) (by simp [mN]) (fun j b e hj he=>?_) (fun i j e e' hi he=>?_) (fun i j e e' hne h1 h2=>?_)
  ·obtain⟨h1,h2⟩:=hget j e he
   obtain⟨k1,b',k2,k3⟩:=h.ent j e h2
   rw [←hN,hj]at k2
   cases k2
   exact⟨k3,Nat.le_trans hc.rel.base_le k1⟩
  ·have:=hlow i e hi
   have:=(h.ent j e' (hget j e' he).2).1
   omega
  ·exact h.dist i j e e' hne (hget i e h1).2 (hget j e' h2).2
 ·refine⟨h.dfr,h.size,fun t ht=>?_⟩
  obtain⟨k1,k2⟩:=Planned.end_at c.hs c.α [] hnd hc.plan
  by_cases hw:∃j∈c.hs,dstO c.ops j=some t
  ·obtain⟨j,hj,hd⟩:=hw
   rw [k2 j hj t hd fun j' hj' hne=>hc.dst hj hj' (Ne.symm hne) hd]
   obtain⟨oj,hoj,hdj⟩:∃oj,c.ops[j]?=some oj∧oj.dst=some t:=by
    unfold dstO at hd
    cases hq:c.ops[j]? with
    | none=>rw [hq]at hd;cases hd
    | some oj=>rw [hq]at hd;exact⟨oj,rfl,hd⟩
   rcases h.got j hj oj t hoj (hdone j hj) hdj ht with h3 | ⟨_,h4⟩
   ·exact h3.mono (List.prefix_append _ _)
   ·refine h4.v (fun j e he=>?_) (fun j e he=>(h.ent j e he).2.choose_spec.2.1)
    rw [←hc.rel.len,gaR (Nat.le_add_right _ _),Nat.add_sub_cancel_left]
    obtain⟨_,b,hb,_⟩:=h.ent j e he
    exact hmN j e (by rw [hN];exact (gsI.1 hb).1) he
  ·have hw':∀j∈c.hs,dstO c.ops j≠some t:=fun j hj hd=>hw ⟨j,hj,hd⟩
   rw [k1 t hw']
   exact (h.old t ht fun i hi _=>hw' i hi).mono (List.prefix_append _ _)
end
end
section
theorem Shown.of_V{m:List Ent}{h:Nat}{N:List Blk}{L:AH}{x y:Value}(hm:m.length=h)(hv:V m x y):Shown h N L x:=by
 have lt:∀ {i:Nat} {e:Ent},m[i]?=some e→i<h:=fun he=>hm▸(gsI.1 he).1
 cases hv with
 | tup _ _=>trivial
 | two h2=>
  cases h2 with
  | agg _ _=>trivial
  | one h1=>
   cases h1 with
   | plain hp=>
    unfold Shown
    split
    ·cases hp
    ·cases hp
    ·trivial
   | ptr he=>intro j b hj;have:=lt he;omega
   | sl he _ _=>intro j b hj;have:=lt he;omega
   | slv he _=>intro j b hj;have:=lt he;omega
   | slx he _=>trivial
   | mp _=>trivial
   | sl0=>trivial
   | clo _ _ _ _=>trivial
   | ifc _=>trivial
   | ifa _ _=>trivial
section
variable {c:PCtx} {listed:Array Bool} {a:Act} {w:World} {E:Nat→Option Ent}
theorem alloc_notCall{op:Op}(h:allocOp op=true):isCallF op=false:=by cases op <;> first | (cases h;done) | rfl
theorem alloc_notLook{op:Op}(h:allocOp op=true):lookF op=false:=by cases op <;> first | (cases h;done) | rfl
theorem PInv.grow(hc:c.Ok)(h:PInv c listed a w E){i:Nat}{o:Oper}(hi:i∈c.hs)(ho:c.ops[i]?=some o)(hun:listed.getD i true=false)(hall:∀e∈o.after,Region.binds .any e=true→listed.getD e.on false=true)
  (hpre:c.Ns i++(c.nb i).toList <+: endN c.nb c.hs []) {b:Blk} (hn:c.nb i=some b) {e:Ent} {v':Value} {w':World} (hfresh:w.heap.size≤e.b) (hblk:BlkOk w' e b) (h6:Below w.heap.size w w')
  (htr:∀E':Nat→Option Ent,E' (c.Ns i).length=some e→∀t,o.dst=some t→t<c.n→V c.m (c.val i) v'∨(newOp c.nd o=true∧VN c.H.length E' (c.val i) v')) :
  ∃E',PInv c (listed.setIfInBounds i true) (a.put o.dst v') w' E':=by
 have hfree:∀e0,E (c.Ns i).length≠some e0:=by
  intro e0 he0
  obtain⟨i',k1,k2,k3,k4⟩:=h.from' _ e0 he0
  have hne:i'≠i:=fun e=>by rw [e,getD_both hun]at k4;cases k4
  rcases Nat.lt_or_gt_of_ne hne with hlt | hlt
  ·have:=(Planned.lt c.hs c.α [] hc.sorted hc.plan i' k1 i hi hlt).length_le
   cases hq:c.nb i' with
   | none=>rw [hq]at k2;cases k2
   | some b0=>rw [hq]at this;simp at this;omega
  ·have:=(Planned.lt c.hs c.α [] hc.sorted hc.plan i hi i' k1 hlt).length_le
   rw [hn]at this;simp at this;omega
 have hN:(endN c.nb c.hs [])[(c.Ns i).length]?=some b:=by
  rw [hn]at hpre
  obtain⟨t,ht⟩:=hpre
  rw [←ht];simp
 have hEE:∀j e1,E j=some e1→(if j=(c.Ns i).length then some e else E j)=some e1:=fun j e1 he1=>by
  have hj:j≠(c.Ns i).length:=fun e2=>hfree e1 (by rw [←e2];exact he1)
  rw [if_neg hj];exact he1
 have hlow:∀j e1,E j=some e1→e1.b<w.heap.size:=fun j e1 he1=>by
  obtain⟨_,b1,_,hb⟩:=h.ent j e1 he1
  obtain⟨_,_,_,cs,fr,q,_⟩:=hb
  exact (asI.1 q).1
 have hnext:=h.next hc hi ho hun hall (v':=v') (w':=w') (E':=fun j=>if j=(c.Ns i).length then some e else E j) hEE (h.below.trans (h6.mono h.below.size)) (fun j e1 he1=>by
   by_cases hj:j=(c.Ns i).length
   ·simp only [hj,if_true]at he1
    cases he1
    exact⟨Nat.le_trans h.below.size hfresh,b,by rw [hj];exact hN,hblk⟩
   ·simp only [hj,if_false]at he1
    obtain⟨k1,b1,k2,k3⟩:=h.ent j e1 he1
    exact⟨k1,b1,k2,k3.below h6⟩)
  (fun j j' e1 e2 hne h1 h2=>by
   by_cases hj:j=(c.Ns i).length
   ·by_cases hj':j'=(c.Ns i).length
    ·omega
    ·simp only [hj,if_true]at h1
     simp only [hj',if_false]at h2
     cases h1
     have:=hlow j' e2 h2
     omega
   ·simp only [hj,if_false]at h1
    by_cases hj':j'=(c.Ns i).length
    ·simp only [hj',if_true]at h2
     cases h2
     have:=hlow j e1 h1
     omega
    ·simp only [hj',if_false]at h2
     exact h.dist j j' e1 e2 hne h1 h2)
  (fun _=>by simp) (fun j e1 he1=>by
   by_cases hj:j=(c.Ns i).length
   ·exact .inr ⟨by rw [hn];rfl,hj.symm⟩
   ·simp only [hj,if_false]at he1
    exact .inl he1)
  (htr _ (by simp))
 exact⟨_,hnext⟩
theorem plan_args(hc:c.Ok)(h:PInv c listed a w E){i:Nat}{o:Oper}{β:Fm}{xs:Array Operand}(hxs:∀x∈xs,x∈o.op.operands)(hpre:c.Ns i++(c.nb i).toList <+: endN c.nb c.hs [])
  (hlk:∀t∈o.looksAt c.ops,t<c.n→V c.m (β t) (a.tmps.getD t undef)∨∃j∈c.hs,∃oj,c.ops[j]?=some oj∧newOp c.nd oj=true∧oj.dst=some t∧listed.getD j false=true∧VN c.H.length E (β t) (a.tmps.getD t undef))
  (hokx:∀x∈o.op.operands,okOpd c.n c.γ x=true) (hmem:∀t,Operand.tmp t∈o.op.operands→t∈o.looksAt c.ops) :
  ∃ (L:AH) (mL:List Ent),Rel (c.H++L).length w.heap.size c.γ (c.m++mL) (c.H++L) w∧(∀x∈xs,V (c.m++mL) (β.eval c.γ x) (a.eval x))∧(∀x∈(xs.map (β.eval c.γ)).toList,Shown c.H.length (c.Ns i) L x)∧(∀j e,E j=some e→(c.m++mL)[c.H.length+j]?=some e):=by
 have hlow:∀j e1,E j=some e1→e1.b<w.heap.size:=fun j e1 he1=>by
  obtain⟨_,b1,_,hb⟩:=h.ent j e1 he1
  obtain⟨_,_,_,cs,fr,q,_⟩:=hb
  exact (asI.1 q).1
 obtain⟨N,hN⟩:∃N,N=endN c.nb c.hs []:=⟨_,rfl⟩
 obtain⟨L,mL,hl,hin,hcL,hLE⟩:∃ (L:AH) (mL:List Ent),mL.length=L.length∧(∀ (j:Nat) (e:Ent),mL[j]?=some e→e.b<w.heap.size)∧(∀ (j:Nat) (b:Blk) (e:Ent),L[j]?=some (some b)→mL[j]?=some e→BlkOk w e b) ∧
   (∀ (j:Nat) (e:Ent) (b:Blk),E j=some e→N[j]?=some b→mL[j]?=some e∧L[j]?=some (some b)):=by
  by_cases hex:∃j e,E j=some e
  ·obtain⟨j0,e0,h0⟩:=hex
   refine⟨(List.range N.length).map fun j=>(E j).bind fun _=>N[j]?,(List.range N.length).map fun j=>(E j).getD e0,by simp,fun j e he=>?_,fun j b e hL he=>?_,fun j e b he hb=>?_⟩
   ·rw [gmP]at he
    cases hq:(List.range N.length)[j]? with
    | none=>rw [hq]at he;cases he
    | some q=>
     rw [hq]at he
     simp only [Option.map_some,Option.some.injEq]at he
     cases hE:E q with
     | none=>rw [hE]at he;rw [←he];exact hlow j0 e0 h0
     | some e1=>rw [hE]at he;rw [←he];exact hlow q e1 hE
   ·rw [gmP]at he hL
    cases hq:(List.range N.length)[j]? with
    | none=>rw [hq]at he;cases he
    | some q=>
     rw [hq]at he hL
     simp only [Option.map_some,Option.some.injEq]at he hL
     cases hE:E q with
     | none=>rw [hE]at hL;cases hL
     | some e1=>
      rw [hE]at he hL
      simp only [Option.bind_some]at hL
      obtain⟨_,b1,k2,k3⟩:=h.ent q e1 hE
      rw [←hN,hL]at k2
      cases k2
      rw [←he];exact k3
   ·have hj:j<N.length:=(gsI.1 hb).1
    have hrng:(List.range N.length)[j]?=some j:=by simp [hj]
    exact⟨by rw [gmP,hrng];simp [he],by rw [gmP,hrng];simp only [Option.map_some,he,Option.bind_some,hb]⟩
  ·exact⟨[],[],rfl,fun j e he=>by simp at he,fun j b e hb=>by simp at hb,fun j e b he=>absurd ⟨j,e,he⟩ hex⟩
 have hR:=(hc.rel.below h.below).news hl hin hcL
 have hmE:∀j e,E j=some e→(c.m++mL)[c.H.length+j]?=some e:=fun j e he=>by
  obtain⟨_,b,hb,_⟩:=h.ent j e he
  rw [←hc.rel.len,gaR (Nat.le_add_right _ _),Nat.add_sub_cancel_left]
  exact (hLE j e b he (by rw [hN];exact hb)).1
 have hargs:∀x∈xs,V (c.m++mL) (β.eval c.γ x) (a.eval x):=fun x hx=>eval_ev hR (hokx x (hxs x hx)) fun t ht htn=>by
  subst ht
  rcases hlk t (hmem t (hxs _ hx)) htn with h1 | ⟨j,hj,oj,hoj,ha,hdj,_,h4⟩
  ·exact h1.mono (List.prefix_append _ _)
  ·exact h4.v hmE fun j e he=>(h.ent j e he).2.choose_spec.2.1
 have hshown:∀x∈(xs.map (β.eval c.γ)).toList,Shown c.H.length (c.Ns i) L x:=by
  intro x hx
  simp only [Array.toList_map,List.mem_map]at hx
  obtain⟨q,hq,rfl⟩:=hx
  have hq:q∈xs:=by simpa using hq
  have hokq:=hokx q (hxs q hq)
  cases q with
  | tmp t=>
   have htn:t<c.n:=by simpa [okOpd] using hokq
   rcases hlk t (hmem t (hxs _ hq)) htn with h1 | ⟨j,hj,oj,hoj,ha,hdj,_,h4⟩
   ·exact Shown.of_V hc.rel.len h1
   ·obtain⟨j1,e1,he1,hcase⟩:=h4
    have hb:∀j b,c.H.length+j1=c.H.length+j→(c.Ns i)[j]?=some b→hget L j=some b:=by
     intro j b hjj hb
     obtain rfl:j1=j:=by omega
     have hNb:N[j1]?=some b:=by
      rw [hN]
      obtain⟨t2,ht2⟩:=hpre
      rw [←ht2,List.append_assoc,gaL (gsI.1 hb).1]
      exact hb
     have:=(hLE j1 e1 b he1 hNb).2
     unfold hget
     rw [this];rfl
    have heval:β.eval c.γ (.tmp t)=β t:=rfl
    rw [heval]
    rcases hcase with ⟨hv1,_⟩ | ⟨l1,c1,hv1,_⟩ | ⟨l1,c1,hv1,_⟩
    ·rw [hv1];exact hb
    ·rw [hv1];exact hb
    ·rw [hv1];trivial
  | const v=>exact Shown.of_V hc.rel.len (plainV_mk (m:=c.m) hokq)
  | global g=>exact Shown.of_V hc.rel.len (eval_ev (x:=.global g) (a:=a) (α:=β) hc.rel hokq (fun t ht=>by cases ht))
  | func f=>trivial
 exact⟨L,mL,hR,hargs,hshown,hmE⟩
theorem plan_step(hc:c.Ok)(h:PInv c listed a w E){i:Nat}(hi:i∈c.hs)(hr:i∈Region.ready .any c.ops listed){K:Act→World→Prop}{Q':Exit→Act→World→Prop}
  (hK:∀a' w' E',PInv c (listed.setIfInBounds i true) a' w' E'→K a' w'):wpOp c.P c.ops Q' i K a w:=by
 obtain⟨hun,o,ho,hall⟩:=mem_ready.1 hr
 obtain⟨o',β,ho',hst,hpre,hb1,hb2⟩:=Planned.at c.hs c.α [] hc.sorted hc.plan i hi
 obtain rfl:o=o':=Option.some.inj (ho.symm.trans ho')
 have hlk:=h.looks hc hi ho hun hall hb1 hb2
 have hokx:∀x∈o.op.operands,okOpd c.n c.γ x=true:=fun x hx=>by
  obtain⟨q,hq,rfl⟩:=Array.mem_iff_getElem.1 hx
  exact (Array.all_eq_true.1 (hc.ok i o ho)) q hq
 have hold:oldB c.nd c.ops c.hs o=true:=by
  have k1:=hc.head i hi
  unfold opOkB at k1
  rw [ho]at k1
  simp only [Bool.and_eq_true]at k1
  exact k1.1.2
 have hmem:∀t,Operand.tmp t∈o.op.operands→t∈o.looksAt c.ops:=fun t ht=>List.mem_append_left _ (List.mem_filterMap.2 ⟨.tmp t,by simpa using ht,rfl⟩)
 have hg:∀d∈guardT c.ops o,d<c.n→V c.m (β d) (a.tmps.getD d undef):=by
  intro d hd hn
  rcases hlk d (guard_looks hd) hn with h1 | ⟨j,hj,oj,hoj,ha,hdj,_,_⟩
  ·exact h1
  ·refine absurd ?_ (oldB_spec hold hj hoj ha hdj)
   split
   ·exact hd
   ·exact guard_looks hd
 have hev:isCallF o.op=false→lookF o.op=false→∀x∈o.op.operands,V c.m (β.eval c.γ x) (a.eval x):=fun hcf hlf x hx=>eval_ev hc.rel (hokx x hx) fun t ht htn=>by
  subst ht
  rcases hlk t (hmem t hx) htn with h1 | ⟨j,hj,oj,hoj,ha,hdj,_,_⟩
  ·exact h1
  ·refine absurd ?_ (oldB_spec hold hj hoj ha hdj)
   rw [hcf,hlf]
   exact hmem t hx
 unfold wpOp
 simp only [ho]
 rcases hst with ⟨hw,hv,hn⟩ | ⟨hw,hcf,hlf,hx,hn⟩ | ⟨hw,ha,v0,H',b,hx,hgt,hpl,hv,hn⟩ | ⟨hw,hcf,⟨f,args,hca,hcal,hpl,hac⟩,hn⟩ | ⟨hw,hcf,hnd,f,args,b,len,hca,hcal,hplb,hac,hv,hn⟩ | ⟨hw,hcf,hnd,f,args,hca,hcal,hvm,hsl,hac,hn⟩ | ⟨hw,hcf,hlf,hpl,hx,hn⟩ | ⟨hw,hcf,hlf,⟨f,args,hca,hcal,hpl,hac⟩,hn⟩
 ·rw [wantedA_ev h.size hg hw]
  simp only [Bool.false_eq_true,if_false]
  exact hK _ _ E (h.next hc hi ho hun hall (fun _ _ h=>h) h.below h.ent h.dist (by rw [hn];simp) (fun j e he=>.inl he) (fun t _ _=>.inl (by rw [hv];exact plainV_mk plainV_undef)))
 ·rw [wantedA_ev h.size hg hw]
  simp only [if_true]
  refine .inl ?_
  have hevx:∀x∈o.op.operands,V c.m (β.eval c.γ x) (a.eval x):=by
   rcases hlf with hlf | hlf
   ·exact hev hcf hlf
   ·intro x hxm
    refine eval_ev hc.rel (hokx x hxm) fun t ht htn=>?_
    subst ht
    rcases hlk t (hmem t hxm) htn with h1 | ⟨j,hj,oj,hoj,ha,hdj,_,j1,e1,he1,hcase⟩
    ·exact h1
    ·exfalso
     obtain⟨dst,op,type,pos,after,guard⟩:=o
     simp only at hlf hx hxm
     unfold isLoadF at hlf
     split at hlf
     ·rename_i tt y
      simp only [Op.operands]at hxm
      have hy:y=.tmp t:=by
       have h9:=hxm
       simp at h9
       exact h9.symm
      subst hy
      have hx':xload c.P tt (β t) c.H=some (c.val i):=hx
      rcases hcase with ⟨hv1,_⟩ | ⟨l1,c1,hv1,_⟩ | ⟨l1,c1,hv1,_⟩
      ·rw [hv1]at hx'
       have:=xload_new hx'
       omega
      ·rw [hv1]at hx'
       simp [xload]at hx'
      ·rw [hv1]at hx'
       simp [xload]at hx'
     ·rename_i tt y z okk
      simp only [Op.operands]at hxm
      have hyz:y=.tmp t∨z=.tmp t:=by
       have h9:=hxm
       simp at h9
       rcases h9 with h9 | h9
       ·exact .inl h9.symm
       ·exact .inr h9.symm
      have hx':xlookup c.P tt (β.eval c.γ y) (β.eval c.γ z) okk c.H=some (c.val i):=hx
      obtain⟨⟨q,hq⟩,hz⟩:=xlookup_shape hx'
      rcases hyz with rfl | rfl
      ·have hq:β t=_:=hq
       rcases hcase with ⟨hv1,_⟩ | ⟨l1,c1,hv1,_⟩ | ⟨l1,c1,hv1,_⟩
       ·rw [hv1]at hq;cases hq
       ·rw [hv1]at hq;cases hq
       ·rw [hv1]at hq;cases hq
      ·have hz:plain2 (β t)=true:=hz
       rcases hcase with ⟨hv1,_⟩ | ⟨l1,c1,hv1,_⟩ | ⟨l1,c1,hv1,_⟩
       ·rw [hv1]at hz;cases hz
       ·rw [hv1]at hz;cases hz
       ·rw [hv1]at hz;cases hz
     ·cases hlf
  obtain⟨v',h1,h2⟩:=xread_ev hc.rel hevx hx
  unfold Oper.wp
  rw [h2 w h.below]
  exact hK _ _ E (h.next hc hi ho hun hall (fun _ _ h=>h) h.below h.ent h.dist (by rw [hn];simp) (fun j e he=>.inl he) (fun t _ _=>.inl h1))
 ·rw [wantedA_ev h.size hg hw]
  simp only [if_true]
  refine .inl ?_
  have hR:=(hc.rel.below h.below).freeze
  obtain⟨⟨b',hb'⟩,hform,hnro⟩:=xeff_alloc ha hx
  obtain⟨m',x,w',v',h1,h2,h3,h4,h5,h6⟩:=xeff_ev hR (hev (alloc_notCall ha) (alloc_notLook ha)) (hnro c.H.length)
  have hbb:b'=b:=by
   rw [hb',hget_app0,hget_cons0]at hgt
   exact Option.some.inj hgt
  rw [hb',hbb]at h5
  have hml:m'.length=c.H.length+1:=by have:=h5.len;simpa using this
  obtain⟨e,he⟩:∃e,m'[c.H.length]?=some e:=⟨_,geE (by omega)⟩
  obtain⟨hfresh,heo⟩:=h5.own c.H.length e (nlE _) he
  obtain⟨cs,fr,g1,g2,g3,g4,g5⟩:=h5.cells c.H.length b e (by simp) (plainB_e hpl) he
  have hblk:BlkOk w' e b:=⟨heo,g3,⟨plainB_e hpl,plainB_c hpl⟩,cs,fr,g1,g2 (nlE _),(g4 (nlE _)).1,(g4 (nlE _)).2,fun j x hx=>by
   obtain⟨y,p,q⟩:=g5 j x hx
   rw [heo,Nat.zero_add]at p
   rw [p,q.eq (alT.1 (plainB_c hpl) x (moG hx))]⟩
  have hVN:∀E':Nat→Option Ent,E' (c.Ns i).length=some e→VN c.H.length E' (c.val i) v':=by
   intro E' hE'
   refine⟨(c.Ns i).length,e,hE',?_⟩
   rw [hv]
   rcases hform with rfl | ⟨len,rfl⟩ | ⟨len,cc,rfl⟩
   ·obtain⟨e2,he2,rfl⟩:=h4.ptr_
    rw [he]at he2
    cases he2
    exact .inl ⟨rfl,by rw [heo]⟩
   ·obtain⟨e2,c',_,he2,hl,hs,rfl⟩:=h4.sl_
    rw [he]at he2
    cases he2
    exact .inr (.inl ⟨len,c',rfl,by rw [heo],hl,fun s hs'=>hs rfl s hs'⟩)
   ·obtain⟨e2,he2,hl,rfl⟩:=h4.slx_
    rw [he]at he2
    cases he2
    exact .inr (.inr ⟨len,cc,rfl,by rw [heo],hl⟩)
  obtain⟨E',hnext⟩:=h.grow hc hi ho hun hall hpre hn hfresh hblk h6 (fun E' hE' t _ _=>.inr ⟨by unfold newOp;rw [ha];rfl,hVN E' hE'⟩)
  unfold Oper.wp
  rw [h1]
  rcases h2 with rfl | ⟨rfl,rfl⟩
  ·exact hK _ _ _ hnext
  ·exact hK _ _ _ hnext
 ·rw [wantedA_ev h.size hg hw]
  simp only [if_true]
  refine .inl ?_
  obtain⟨xs,ts,hop,rfl⟩:=callee_ops hca
  obtain⟨L,mL,hR,hargs,hshown,_⟩:=plan_args hc h (xs:=xs) (fun x hx=>by rw [hop];simp [Op.operands,Call.operands,hx]) hpre hlk hokx hmem
  have h2:=hac L hshown
  have hfin:∀w'',Below w.heap.size w w''→K (a.put o.dst (c.val i)) w'':=fun w'' hb=>
   hK _ _ E (h.next hc hi ho hun hall (fun _ _ h=>h) (h.below.trans (hb.mono h.below.size)) (fun j e he=>let ⟨k1,b,k2,k3⟩:=h.ent j e he;⟨k1,b,k2,k3.below hb⟩) h.dist (by rw [hn];simp) (fun j e he=>.inl he) (fun t _ _=>.inl (plainV_mk hpl)))
  unfold Oper.wp
  rcases h2 (c.m++mL) w.heap.size w (xs.map a.eval) hR (by simp) (fun q x hx=>by
   rw [Array.getElem?_map]at hx ⊢
   cases hq:xs[q]? with
   | none=>rw [hq]at hx;cases hx
   | some y=>
    rw [hq]at hx
    cases hx
    exact⟨_,rfl,hargs y (Array.mem_of_getElem? hq)⟩) with ⟨hbd,hac'⟩ | ⟨v1,hrun,m',v2,v',H',he,_,hv,_,hb',rfl⟩
  ·rw [call_run hop hcal hbd,Oper.upon_enter]
   refine hac'.mono ?_
   rintro e w'' ⟨m',v2,v',H',rfl,_,hv,_,hb',rfl⟩
   show K (a.put o.dst v') w''
   rw [hv.eq hpl]
   exact hfin _ hb'
  ·cases he
   rw [call_runV hop hrun,hv.eq hpl,Oper.upon_value]
   exact hfin _ hb'
 ·rw [wantedA_ev h.size hg hw]
  simp only [if_true]
  refine .inl ?_
  obtain⟨xs,ts,hop,rfl⟩:=callee_ops hca
  obtain⟨L,mL,hR,hargs,hshown,_⟩:=plan_args hc h (xs:=xs) (fun x hx=>by rw [hop];simp [Op.operands,Call.operands,hx]) hpre hlk hokx hmem
  have h2:=hac L hshown
  have hfin:∀w'' m' v' H',Rel (c.H++L).length w.heap.size c.γ m' H' w''→Below w.heap.size w w''→(∃v2,V m' v2 v'∧Fresh (c.H++L).length b len v2 H')→K (a.put o.dst v') w'':=by
   rintro w'' m' v' H' hR' hb ⟨v2,hv2,j0,hj0,rfl,hgt⟩
   have hj0':j0<m'.length:=by rw [hR'.len];exact (gsI.1 (hget_some hgt)).1
   obtain⟨e,he⟩:∃e,m'[j0]?=some e:=⟨_,geE hj0'⟩
   obtain⟨hfresh,heo⟩:=hR'.own j0 e hj0 he
   obtain⟨cs,fr,g1,g2,g3,g4,g5⟩:=hR'.cells j0 b e (hget_some hgt) (plainB_e hplb) he
   have hblk:BlkOk w'' e b:=⟨heo,g3,⟨plainB_e hplb,plainB_c hplb⟩,cs,fr,g1,g2 hj0,(g4 hj0).1,(g4 hj0).2,fun j x hx=>by
    obtain⟨y,p,q⟩:=g5 j x hx
    rw [heo,Nat.zero_add]at p
    rw [p,q.eq (alT.1 (plainB_c hplb) x (moG hx))]⟩
   obtain⟨e2,c',_,he2,hl,hs,rfl⟩:=hv2.sl_
   rw [he]at he2
   cases he2
   have hVN:∀E':Nat→Option Ent,E' (c.Ns i).length=some e→VN c.H.length E' (c.val i) (.slice (some ⟨e.b,e.o+0,none⟩) len c'):=fun E' hE'=>
    ⟨(c.Ns i).length,e,hE',.inr (.inl ⟨len,c',hv,by rw [heo],hl,fun s hs'=>hs rfl s hs'⟩)⟩
   obtain⟨E',hnext⟩:=h.grow hc hi ho hun hall hpre hn hfresh hblk hb (fun E' hE' t _ _=>.inr ⟨by unfold newOp;rw [hnd,hcf];simp,hVN E' hE'⟩)
   exact hK _ _ _ hnext
  unfold Oper.wp
  rcases h2 (c.m++mL) w.heap.size w (xs.map a.eval) hR (by simp) (fun q x hx=>by
   rw [Array.getElem?_map]at hx ⊢
   cases hq:xs[q]? with
   | none=>rw [hq]at hx;cases hx
   | some y=>
    rw [hq]at hx
    cases hx
    exact⟨_,rfl,hargs y (Array.mem_of_getElem? hq)⟩) with ⟨hbd,hac'⟩ | ⟨v1,hrun,m',v2,v',H',he,_,hv2,hR2,hb',hq⟩
  ·rw [call_run hop hcal hbd,Oper.upon_enter]
   refine hac'.mono ?_
   rintro e w'' ⟨m',v2,v',H',rfl,_,hv2,hR2,hb',hq⟩
   exact hfin w'' m' v' H' hR2 hb' ⟨v2,hv2,hq⟩
  ·cases he
   rw [call_runV hop hrun,Oper.upon_value]
   exact hfin w m' v1 H' hR2 (.refl _ _) ⟨v2,hv2,hq⟩
 ·rw [wantedA_ev h.size hg hw]
  simp only [if_true]
  refine .inl ?_
  obtain⟨xs,ts,hop,rfl⟩:=callee_ops hca
  obtain⟨L,mL,hR,hargs,hshown,hmE⟩:=plan_args hc h (xs:=xs) (fun x hx=>by rw [hop];simp [Op.operands,Call.operands,hx]) hpre hlk hokx hmem
  have hxs:∀x∈xs,x∈o.op.operands:=fun x hx=>by
   rw [hop];simp [Op.operands,Call.operands,hx]
  have h2:=hac L hshown
  have hEq:∀j e1 e,E j=some e1→(c.m++mL)[c.H.length+j]?=some e→e1=e:=fun j e1 e h1 h2=>by rw [hmE j e1 h1]at h2;exact Option.some.inj h2
  have hEm:∀j e,E j=some e→e.o=0:=fun j e he=>(h.ent j e he).2.choose_spec.2.1
  have hfin:∀w'' m' v',c.m++mL <+: m'→Below w.heap.size w w''→V m' (c.val i) v'→K (a.put o.dst v') w'':=by
   intro w'' m' v' hm' hb hv'
   obtain⟨i0,l,hval⟩:∃i0 l,c.val i=.slice (some ⟨i0,0,none⟩) l l:=by
    unfold isSl at hsl
    split at hsl
    ·rename_i i0 l c0 he
     have:l=c0:=by simpa using hsl
     subst this
     exact⟨i0,l,he⟩
    ·cases hsl
   have htr:V c.m (c.val i) v'∨(newOp c.nd o=true∧VN c.H.length E (c.val i) v'):=by
    rw [hval]at hv' hvm ⊢
    obtain⟨e,c',_,he,hl,hs,rfl⟩:=hv'.sl_
    rcases Nat.lt_or_ge i0 c.m.length with hi0 | hi0
    ·left
     have hme:c.m[i0]?=some e:=by
      have h3:=pre_get ((List.prefix_append c.m mL).trans hm') (geE hi0)
      rw [he]at h3
      cases h3
      exact geE hi0
     exact .one (.sl hme hl hs)
    ·right
     refine⟨by unfold newOp;rw [hnd,hcf];simp,?_⟩
     simp only [Array.toList_map,List.mem_map]at hvm
     obtain⟨q,hq,hqe⟩:=hvm
     have hq:q∈xs:=by simpa using hq
     have hokq:=hokx q (hxs q hq)
     cases q with
     | tmp t=>
      have htn:t<c.n:=by simpa [okOpd] using hokq
      have heval:β.eval c.γ (.tmp t)=β t:=rfl
      rw [heval]at hqe
      rcases hlk t (hmem t (hxs _ hq)) htn with h1 | ⟨j,hj,oj,hoj,ha,hdj,_,h4⟩
      ·rw [hqe]at h1
       obtain⟨e2,_,_,he2,_⟩:=h1.sl_
       have:=(gsI.1 he2).1
       omega
      ·have hva:=hargs _ hq
       obtain⟨j1,e1,he1,⟨hv1,_⟩ | ⟨l1,c1,hv1,_⟩ | ⟨l1,c1,hv1,_⟩⟩:=h4
       ·rw [hqe]at hv1;cases hv1
       rotate_left
       ·rw [hqe]at hv1;cases hv1
       ·rw [hqe]at hv1
        cases hv1
        have hv2:V (c.m++mL) (β t) (a.tmps.getD t undef):=hva
        rw [hqe]at hv2
        obtain⟨e2,c2,_,he2,_,_,hy2⟩:=hv2.sl_
        have h5:=pre_get hm' he2
        rw [he]at h5
        cases h5
        have hee:e1=e:=hEq j1 e1 e he1 he2
        subst hee
        exact⟨j1,e1,he1,.inr (.inl ⟨l,c',rfl,by rw [hEm j1 e1 he1],hl,fun s hs'=>hs rfl s hs'⟩)⟩
     | const v=>
      have hpv:plainV v=true:=hokq
      have:v=.slice (some ⟨i0,0,none⟩) l l:=hqe
      rw [this]at hpv;cases hpv
     | global g=>
      have h1:=eval_ev (x:=.global g) (a:=a) (α:=β) hc.rel hokq (fun t ht=>by cases ht)
      rw [hqe]at h1
      obtain⟨e2,_,_,he2,_⟩:=h1.sl_
      have:=(gsI.1 he2).1
      omega
     | func f=>cases hqe
   exact hK _ _ E (h.next hc hi ho hun hall (fun _ _ h=>h) (h.below.trans (hb.mono h.below.size)) (fun j e he=>let ⟨k1,b,k2,k3⟩:=h.ent j e he;⟨k1,b,k2,k3.below hb⟩) h.dist (by rw [hn];simp) (fun j e he=>.inl he) (fun t _ _=>htr))
  unfold Oper.wp
  rcases h2 (c.m++mL) w.heap.size w (xs.map a.eval) hR (by simp) (fun q x hx=>by
   rw [Array.getElem?_map]at hx ⊢
   cases hq:xs[q]? with
   | none=>rw [hq]at hx;cases hx
   | some y=>
    rw [hq]at hx
    cases hx
    exact⟨_,rfl,hargs y (Array.mem_of_getElem? hq)⟩) with ⟨hbd,hac'⟩ | ⟨v1,hrun,m',v2,v',H',he,hm',hv2,hR2,hb',rfl⟩
  ·rw [call_run hop hcal hbd,Oper.upon_enter]
   refine hac'.mono ?_
   rintro e w'' ⟨m',v2,v',H',rfl,hm',hv2,hR2,hb',rfl⟩
   exact hfin w'' m' v' hm' hb' hv2
  ·cases he
   rw [call_runV hop hrun,Oper.upon_value]
   exact hfin w m' v1 hm' (.refl _ _) hv2
 ·rw [wantedA_ev h.size hg hw]
  simp only [if_true]
  refine .inl ?_
  obtain⟨L,mL,hR,hargs,hshown,_⟩:=plan_args hc h (xs:=o.op.operands) (fun x hx=>hx) hpre hlk hokx hmem
  have hx2:=hx L (fun x hxm=>hshown _ (by simp only [Array.toList_map,List.mem_map];exact⟨x,by simpa using hxm,rfl⟩))
  obtain⟨v',h1,h2⟩:=xread_ev hR hargs hx2
  unfold Oper.wp
  rw [h2 w (.refl _ _)]
  rw [h1.eq hpl]
  exact hK _ _ E (h.next hc hi ho hun hall (fun _ _ h=>h) h.below h.ent h.dist (by rw [hn];simp) (fun j e he=>.inl he) (fun t _ _=>.inl (plainV_mk hpl)))
 ·rw [wantedA_ev h.size hg hw]
  simp only [if_true]
  refine .inl ?_
  obtain⟨args',k1,k2,k3,k4⟩:=calleeX_ev (P:=c.P) (w:=w) (hev hcf hlf) hca
  have hR:=(hc.rel.below h.below).freeze
  have hfin:∀w'',Below w.heap.size w w''→K (a.put o.dst (c.val i)) w'':=fun w'' hb=>
   hK _ _ E (h.next hc hi ho hun hall (fun _ _ h=>h) (h.below.trans (hb.mono h.below.size)) (fun j e he=>let ⟨k1,b,k2,k3⟩:=h.ent j e he;⟨k1,b,k2,k3.below hb⟩) h.dist (by rw [hn];simp) (fun j e he=>.inl he) (fun t _ _=>.inl (plainV_mk hpl)))
  unfold Oper.wp
  rcases hac c.m w.heap.size w args' hR k1 k2 with ⟨hbd,hac'⟩ | ⟨v1,hrun,m',v2,v',H',he,_,hv,_,hb',rfl⟩
  ·rw [k3 hcal hbd,Oper.upon_enter]
   refine hac'.mono ?_
   rintro e w'' ⟨m',v2,v',H',rfl,_,hv,_,hb',rfl⟩
   show K (a.put o.dst v') w''
   rw [hv.eq hpl]
   exact hfin _ hb'
  ·cases he
   rw [k4 v1 hrun,hv.eq hpl,Oper.upon_value]
   exact hfin _ hb'
theorem plan_run(hc:c.Ok){Q':Exit→Act→World→Prop}{g:Nat}(hready:(Region.ready .any c.ops (setAll c.hs c.listed0)).all (fun j=>c.hs.all fun i=>waitsT c.ops c.ops.size j i)=true)
  (hend:∀a w m',c.m <+: m'→Rel c.nro c.base c.γ m' (c.H++(endN c.nb c.hs []).map some) w→FR c.n m' (endF c.ops c.val c.hs c.α) a→Below c.w0.heap.size c.w0 w→wpAny c.P .any c.ops Q' g (setAll c.hs c.listed0) a w) :
  ∀ (f:Nat) (listed:Array Bool) (a:Act) (w:World) (E:Nat→Option Ent),PInv c listed a w E→(c.hs.filter fun i=>!listed.getD i false).length=f→wpAny c.P .any c.ops Q' (f+g) listed a w:=by
 have hnd:c.hs.Nodup:=hc.sorted.imp (fun h=>Nat.ne_of_lt h)
 intro f
 induction f with
 | zero=>
  intro listed a w E h hf
  have hdone:∀i∈c.hs,listed.getD i false=true:=by
   intro i hi
   have h0:=List.eq_nil_of_length_eq_zero hf
   cases hq:listed.getD i false with
   | true=>rfl
   | false=>
    have:i∈c.hs.filter fun i=>!listed.getD i false:=List.mem_filter.2 ⟨hi,by rw [hq];rfl⟩
    rw [h0]at this;cases this
  have hsz:(setAll c.hs c.listed0).size=listed.size:=by rw [setAll_size,hc.size0,h.lsz]
  have heq:listed=setAll c.hs c.listed0:=by
   apply Array.ext hsz.symm
   intro x h1 h2
   have k1:=setAll_get c.hs c.listed0 x (by rw [hc.size0,←h.lsz];exact h1)
   have e1:listed.getD x false=listed[x]:=by simp [h1]
   have e2:(setAll c.hs c.listed0).getD x false=(setAll c.hs c.listed0)[x]:=by simp [h2]
   rw [←e1,←e2]
   cases hq:(setAll c.hs c.listed0).getD x false with
   | true=>
    rcases k1.1 hq with k | k
    ·exact h.sub x k
    ·exact hdone x k
   | false=>
    cases hq2:listed.getD x false with
    | false=>rfl
    | true=>
     have:=k1.2 (h.only x hq2)
     rw [hq]at this;cases this
  obtain⟨m',g1,g2,g3⟩:=h.finish hc hdone
  rw [Nat.zero_add,heq]
  exact hend a w m' g1 g2 g3 h.below
 | succ f ih=>
  intro listed a w E h hf
  have hex:∃i,i∈c.hs∧listed.getD i false=false:=by
   rcases hq:c.hs.filter fun i=>!listed.getD i false with _ | ⟨i,l⟩
   ·rw [hq]at hf;cases hf
   ·have:i∈c.hs.filter fun i=>!listed.getD i false:=by rw [hq];simp
    rw [List.mem_filter]at this
    exact⟨i,this.1,by simpa using this.2⟩
  obtain⟨i0,⟨hi0,hl0⟩,hmin⟩:=least hex
  have hlt0:i0<listed.size:=by
   have k1:=hc.head i0 hi0
   unfold opOkB at k1
   split at k1
   ·rename_i o ho
    rw [h.lsz];exact (asI.1 ho).1
   ·cases k1
  have hr0:i0∈Region.ready .any c.ops listed:=by
   rw [mem_ready]
   have k1:=hc.head i0 hi0
   unfold opOkB at k1
   split at k1
   case h_2=>cases k1
   rename_i o ho
   simp only [Bool.and_eq_true]at k1
   refine⟨getD_in hlt0 hl0,o,ho,fun e he hb=>?_⟩
   have k2:=Array.all_eq_true_iff_forall_mem.1 k1.2 e he
   rw [hb]at k2
   simp only [Bool.not_true,Bool.false_or,Bool.or_eq_true,Bool.and_eq_true,decide_eq_true_eq,List.contains_iff_mem]at k2
   rcases k2 with k2 | ⟨k2,k3⟩
   ·exact h.sub _ k2
   ·cases hq:listed.getD e.on false with
    | true=>rfl
    | false=>exact absurd ⟨k2,hq⟩ (hmin _ k3)
  rw [show f+1+g=(f+g)+1 by omega]
  refine⟨fun h0=>absurd hr0 (by rw [h0];simp),fun j hj=>?_⟩
  obtain⟨hjun,oj,hoj,hjall⟩:=mem_ready.1 hj
  by_cases hjh:j∈c.hs
  ·refine plan_step hc h hjh hj fun a' w' E' h'=>ih _ a' w' E' h' ?_
   have hfe:(c.hs.filter fun i=>!(listed.setIfInBounds j true).getD i false)=(c.hs.filter fun i=>!listed.getD i false).erase j:=by
    rw [(hnd.sublist List.filter_sublist).erase_eq_filter,List.filter_filter]
    apply List.filter_congr
    intro x hx
    by_cases e:j=x
    ·subst e
     have:j<listed.size:=by rw [h.lsz];exact (asI.1 hoj).1
     rw [getD_set_self this];simp
    ·rw [getD_set_ne false e]
     simp [Ne.symm e]
   rw [hfe,List.length_erase_of_mem (List.mem_filter.2 ⟨hjh,by rw [getD_both hjun];rfl⟩),hf]
   rfl
  ·exfalso
   have hjlt:j<c.listed0.size:=by rw [hc.size0];exact (asI.1 hoj).1
   have hjr:j∈Region.ready .any c.ops (setAll c.hs c.listed0):=by
    rw [mem_ready]
    refine⟨getD_in (by rw [setAll_size];exact hjlt) ?_,oj,hoj,fun e he hb=>?_⟩
    ·cases hq:(setAll c.hs c.listed0).getD j false with
     | false=>rfl
     | true=>
      rcases (setAll_get c.hs c.listed0 j hjlt).1 hq with k | k
      ·have:=h.sub j k
       rw [getD_both hjun]at this;cases this
      ·exact absurd k hjh
    ·have k:=hjall e he hb
     have hlt:e.on<c.listed0.size:=by rw [hc.size0,←h.lsz];exact getD_lt k
     exact (setAll_get c.hs c.listed0 e.on hlt).2 (h.only _ k)
   have k1:=alT.1 hready j hjr
   have k2:=alT.1 k1 i0 hi0
   obtain⟨o2,ho2,e,he,hb,hl⟩:=waitsT_spec h.closed (getD_in hlt0 hl0) _ _ k2
   obtain rfl:oj=o2:=Option.some.inj (hoj.symm.trans ho2)
   rw [hjall e he hb]at hl
   cases hl
end
def pureB(ops:Array Oper):List Nat→Array Bool→Bool
 | [],_=>true
 | i::is,listed=>(Region.ready .any ops listed).contains i&&Region.free .any ops listed i&&(match ops[i]? with | some o=>pureOp o.op | none=>false)&&pureB ops is (listed.setIfInBounds i true)
def planB(nd:List Tmp)(ops:Array Oper)(ps hs:List Nat)(k g:Nat):Bool:=
 Region.noSelect ops&&decide (ps.length+(hs.length+g)=ops.size)&&decide (k+g=ops.size)&&pureB ops ps (Array.replicate ops.size false)&&headB nd ops hs k g (setAll ps (Array.replicate ops.size false))
section
variable {P:Program} {nro n base:Nat} {γ:Nat→Option Nat} {m:List Ent} {H:AH} {α:Fm} {a:Act} {w:World} {Q:Exit→Fm→AH→Prop} {ops:Array Oper}
theorem SL.sound_pureB{l:List Oper}(hl:l.toArray=ops)(hok:okL n γ l=true){Qk:Fm→Prop}{Q':Exit→Act→World→Prop}(hQ:∀c a w,¬ Q' (.panic c) a w)(hsel:Region.noSelect ops=true)
  (hR:Rel nro base γ m H w) {F:Nat}:∀ (ps:List Nat) (listed:Array Bool) (α:Fm) (a:Act),(∀a α,FR n m α a→Qk α→wpAny P .any ops Q' F (setAll ps listed) a w)→pureB ops ps listed=true→FR n m α a→SL P n γ ops Qk H (sel l ps) α→wpAny P .any ops Q' (ps.length+F) listed a w
 | [],listed,α,a,hK,hB,hF,h=>by
  simp only [List.length_nil,Nat.zero_add]
  exact hK a α hF h
 | i::ps,listed,α,a,hK,hB,hF,h=>by
  simp only [pureB,Bool.and_eq_true]at hB
  obtain⟨⟨⟨hr,hf⟩,hp⟩,hB'⟩:=hB
  have hr':i∈Region.ready .any ops listed:=by simpa using hr
  obtain⟨_,oi,hoi,_⟩:=mem_ready.1 hr'
  have hli:l[i]?=some oi:=by rw [←hoi,←hl];simp
  simp only [hoi]at hp
  have hoki:oi.op.operands.all (okOpd n γ)=true:=by
   have:=alT.1 hok oi (moG hli)
   exact this
  simp only [sel,hli]at h
  unfold SL at h
  rw [show (i::ps).length+F=(ps.length+F)+1 by simp;omega]
  split at h
  ·exact h.elim
  ·rename_i hw
   have hwt:=wantedA_spec hF hw
   exact wpAny_take hoi hsel hf hr (fun c a w h=>absurd h (hQ c _ w)) (.inr ⟨hwt,rfl⟩) (SL.sound_pureB hl hok hQ hsel hR ps _ _ _ hK hB' (hF.put (plainV_mk plainV_undef)) h)
  ·rename_i hw
   have hwt:=wantedA_spec hF hw
   split at h
   ·rename_i v hx
    obtain⟨v',h1,h2⟩:=xread_all hp hoki hx hR hF
    exact wpAny_take hoi hsel hf hr (fun c a w h=>absurd h (hQ c _ w)) (.inl ⟨hwt,h2⟩) (SL.sound_pureB hl hok hQ hsel hR ps _ _ _ hK hB' (hF.put h1) h)
   ·exact h.elim
theorem aw_plan{id:Nat}{l:List Oper}(nd:List Tmp)(ps hs:List Nat)(k g:Nat)(hm:P.follows .mixedOrders=true)(hB:planB nd l.toArray ps hs k g=true)(hok:okL n γ l=true)
  (h:∀K:Fm→AH→Prop,(∀α' H',Q .normal α' H'→K α' H')→SL P n γ l.toArray (fun α1=>PL P nro n γ nd l.toArray (fun α' N=>XL P nro n γ l.toArray K (l.drop k) α' (H++N.map some)) H (sel l hs) α1 []) H (sel l ps) α) :
  AW P nro n γ (.region id l.toArray true) Q α H:=by
 intro m base w a hR hF
 simp only [planB,Bool.and_eq_true,decide_eq_true_eq]at hB
 obtain⟨⟨⟨⟨hsel,hn1⟩,hn2⟩,hpb⟩,hhb⟩:=hB
 simp only [headB,Bool.and_eq_true,decide_eq_true_eq]at hhb
 obtain⟨⟨⟨⟨⟨hso,hcl⟩,hsz⟩,hop⟩,hrd⟩,hsq⟩:=hhb
 have hsorted:=sortedB_spec hso
 refine wp_region_noPanic (wp_region_any hm ?_)
 have hR':Rel nro base γ m H { w with drawn:=w.drawn+1 }:=hR.drewN 1
 rw [←hn1]
 have hrep:Array.replicate (ps.length+(hs.length+g)) false=Array.replicate l.toArray.size false:=by rw [hn1]
 rw [hrep]
 refine SL.sound_pureB rfl hok (fun c a w h=>h) hsel hR' ps _ α a (fun a1 α1 hF1 hq=>?_) hpb hF (h _ fun _ _ h=>h)
 have hhlt:∀i∈hs,i<l.length:=fun i hi=>by
  have k1:=alT.1 hop i hi
  unfold opOkB at k1
  split at k1
  ·rename_i o ho
   simpa using (asI.1 ho).1
  ·cases k1
 obtain⟨val,nb,Ns,hpl,hK⟩:=PL.plan rfl hs α1 [] (hsorted.imp (fun h=>Nat.ne_of_lt h)) hhlt hq
 let c:PCtx:=⟨P,nro,n,base,γ,nd,m,H,l.toArray,hs,α1,{ w with drawn:=w.drawn+1 },setAll ps (Array.replicate l.toArray.size false),val,nb,Ns⟩
 have hc:c.Ok:=⟨hR',fun i o ho=>alT.1 hok o (moG (i:=i) (by have h2:l.toArray[i]?=some o:=ho;simpa using h2)),hsel,hsorted,fun i hi=>alT.1 hop i hi,hsz,hpl⟩
 have hnot:∀i∈hs,(setAll ps (Array.replicate l.toArray.size false)).getD i false=false:=fun i hi=>by
  have k1:=alT.1 hop i hi
  unfold opOkB at k1
  split at k1
  case h_2=>cases k1
  simp only [Bool.and_eq_true,Bool.not_eq_true']at k1
  exact getD_both k1.1.1.1
 have hinv:PInv c (setAll ps (Array.replicate l.toArray.size false)) a1 { w with drawn:=w.drawn+1 } (fun _=>none):=
  ⟨hF1.defers,hF1.size,.refl _ _,hsz,fun x h=>h,fun x h=>.inl h,closedB_spec hcl,fun t ht _=>hF1.val t ht,fun i hi o t ho hl=>(by rw [hnot i hi]at hl;cases hl),fun j e h=>(by cases h),fun j j' e e' _ h=>(by cases h),fun i hi hl=>(by rw [hnot i hi]at hl;cases hl),fun j e h=>(by cases h)⟩
 have hlen:(hs.filter fun i=>!(setAll ps (Array.replicate l.toArray.size false)).getD i false).length=hs.length:=by
  rw [List.filter_eq_self.2 fun i hi=>by rw [hnot i hi];rfl]
 refine plan_run hc (g:=g) hrd (fun a2 w2 m2 hm2 hR2 hF2 hb2=>?_) hs.length _ a1 _ _ hinv hlen
 have hdl:(l.drop k).length=g:=by
  have:l.toArray.size=l.length:=by simp
  simp;omega
 have hseq:=wpAny_of_seq (P:=P) (md:=.any) (ops:=l.toArray) (Q':=NoPanic (Con nro n γ m base w Q)) (l.drop k) k (setAll hs (setAll ps (Array.replicate l.toArray.size false))) a2 w2 (fun j=>by simp [List.getElem?_drop]) (by rw [hdl];exact hsq) ?_
 ·rwa [hdl]at hseq
 have:=XL.sound (Q:=fun e α H=>match e with | .panic _=>False | e=>Q e α H) _ _ _ (okL_take hok k).2 hK m2 base w2 a2 hR2 hF2
 refine wpList_mono (fun e a w' hc'=>?_) _ _ _ this
 have hc2:=Con.trans (w:=w2) hm2 ((Below.drew (.refl base w)).trans (hb2.mono hR'.base_le)) hc'
 cases e with
 | panic c=>obtain⟨_,_,_,_,_,_,_,hf⟩:=hc2;exact hf
 | _=>exact hc2
end
end
section
def gam(gs:List Nat):Nat→Option Nat:=fun g=>gs.findIdx? (·==g)
section
variable {P:Program} {nro n base:Nat} {γ:Nat→Option Nat} {m:List Ent} {H:AH} {α:Fm} {a:Act} {w:World} {Q:Value→AH→Prop}
theorem ac_of_rc{f:FuncId}{args:Array Value}{v:Value}(h:AC P H.length γ f args H (fun v' _=>v'=v))(hv:plainV v=true)(hq:Q v H):AC P nro γ f args H Q:=by
 intro m base w args' hR hsz hva
 refine (h m w.heap.size w args' hR.freeze hsz hva).mono ?_
 rintro e w' ⟨m',v1,v',H',rfl,_,hv',_,hb,rfl⟩
 exact⟨m,v1,v1,H,by rw [hv'.eq hv],List.prefix_rfl,plainV_mk hv,hR.below hb,hb.mono hR.base_le,hq⟩
end
section
variable {P:Program} {W:World}
theorem rel_ro(L:List (Ent×Blk))(γ:Nat→Option Nat)
  (h:∀x∈L,x.1.b<W.heap.size∧x.2=⟨x.2.cells,x.2.ty,x.1.es⟩∧∃cs fr,W.heap[x.1.b]?=some (.cells cs x.2.ty fr)∧∀ (j:Nat) (v:Value),x.2.cells[j]?=some v→∃y,cs[x.1.o+j]?=some y∧V1 (L.map (·.1)) v y)
  (hg:∀ (g i:Nat),γ g=some i→∃e:Ent,(L.map (·.1))[i]?=some e∧e.b=g∧e.o=0)
  (hz:∀ (g i:Nat) (x:Ent×Blk),γ g=some i→L[i]?=some x→∀ (cs:Array Value) (ty:TypeId) (fr:Nat×Nat),W.heap[x.1.b]?=some (.cells cs ty fr)→cs.size=x.2.cells.length:=by intro _ _ _ h;cases h) :
  Rel L.length W.heap.size γ (L.map (·.1)) (L.map fun x=>some x.2) W:=by
 have get:∀ (i:Nat) (e:Ent),(L.map (·.1))[i]?=some e→∃x,L[i]?=some x∧x∈L∧e=x.1:=by
  intro i e he
  rw [gmP]at he
  cases hx:L[i]? with
  | none=>rw [hx]at he;cases he
  | some x=>rw [hx]at he;cases he;exact⟨x,rfl,moG hx,rfl⟩
 refine⟨by simp,by simp,nlE _,fun i e he=>?_,fun i e _ he=>?_,fun i e hi he=>?_,fun i k e l hk hl he=>?_,fun i k e hk _ he=>?_,fun i j ki kj ei ej hi hj _ hki=>?_,fun g i hgi=>?_⟩
 ·obtain⟨x,_,hx,rfl⟩:=get i e he;exact (h x hx).1
 ·obtain⟨x,_,hx,rfl⟩:=get i e he;exact (h x hx).1
 ·obtain⟨x,hx,_,_⟩:=get i e he
  have:=(gsI.1 hx).1
  omega
 ·obtain⟨x,hx,hm,rfl⟩:=get i e he
  rw [gmP,hx]at hk
  cases hk
  have h2:=(h x hm).2.1
  rw [h2]at hl
  cases hl
 ·obtain⟨x,hx,hm,rfl⟩:=get i e he
  rw [gmP,hx]at hk
  cases hk
  obtain⟨_,h2,cs,fr,h3,h4⟩:=h x hm
  have h2:x.1.es=x.2.es:=(congrArg Blk.es h2).symm
  have hi:=(gsI.1 hx).1
  exact⟨cs,fr,h3,fun hn=>by omega,h2,fun hn=>by omega,h4⟩
 ·have:=(gsI.1 hki).1
  simp at this
  omega
 ·obtain⟨e,h1,h2,h3⟩:=hg g i hgi
  obtain⟨x,hx,hm,rfl⟩:=get i e h1
  refine⟨(gsI.1 hx).1,_,h1,h2,h3,fun k cs ty fr hk _ hc=>?_⟩
  rw [gmP,hx]at hk
  cases hk
  exact hz g i x hgi hx cs ty fr hc
theorem Rel.tab{nro base:Nat}{m:List Ent}{H:AH}{w:World}{γ:Nat→Option Nat}(hR:Rel nro base γ m H w){name:String}{g i:Nat}{k:IntKind}{zs:List Int}{ty:TypeId}(hn:P.globalNamed name=some g)(hg:γ g=some i)(hk:hget H i=some ⟨iv k zs,ty,none⟩):Lib.TabIs P w name k zs:=by
 obtain⟨_,e,h1,h2,h3,h4⟩:=hR.glob g i hg
 obtain⟨cs,fr,a,_,_,_,f⟩:=hR.cells i _ e (hget_some hk) rfl h1
 have hsz:=h4 _ cs ty fr (hget_some hk) rfl a
 have e1:cs=(zs.map fun z=>Value.int k z).toArray:=by
  apply Array.ext_getElem?
  intro j
  cases hj:(iv k zs)[j]? with
  | some v=>
   obtain⟨y,hy,hv⟩:=f j v hj
   rw [h3,Nat.zero_add]at hy
   have hj':((zs.map fun z=>Value.int k z).toArray)[j]?=some v:=by simpa [iv] using hj
   rw [hy,hj']
   unfold iv at hj
   rw [gmP]at hj
   cases hz:zs[j]? with
   | none=>rw [hz]at hj;cases hj
   | some z=>
    rw [hz]at hj
    cases hj
    cases hv with
    | plain _=>rfl
  | none=>
   have hl:(iv k zs).length≤j:=by simpa using hj
   have hsz':cs.size=(iv k zs).length:=hsz
   rw [Array.getElem?_eq_none (by omega),Array.getElem?_eq_none (by simpa [iv] using hl)]
 unfold Lib.TabIs World.var?
 rw [hn]
 simp only [Option.bind_some]
 rw [←h2,a,e1]
theorem tab_block{name:String}{k:IntKind}{zs:List Int}{g:Nat}(h:Lib.TabIs P W name k zs)(hg:P.globalNamed name=some g):∃t fr,W.heap[g]?=some (.cells (iv k zs).toArray t fr):=by
 unfold Lib.TabIs World.var? at h
 rw [hg]at h
 simp only [Option.bind_some]at h
 split at h
 ·rename_i cs t fr hb
  cases h
  exact⟨t,fr,hb⟩
 ·cases h
theorem iv_v1{m:List Ent}{k:IntKind}{zs:List Int}(j:Nat)(v:Value)(h:(iv k zs)[j]?=some v):∃y,((iv k zs).toArray)[0+j]?=some y∧V1 m v y:=by
 refine⟨v,by simpa using h,?_⟩
 unfold iv at h
 rw [gmP]at h
 cases hz:zs[j]? with
 | none=>rw [hz]at h;cases h
 | some z=>rw [hz]at h;cases h;exact .plain rfl
theorem calls_of_ac{f:FuncId}{args args':Array Value}{v:Value}{m:List Ent}{H:AH}{γ:Nat→Option Nat}(hR:Rel H.length W.heap.size γ m H W)(hv:plainV v=true)(hs:args'.size=args.size)
  (ha:∀ (i:Nat) (x:Value),args[i]?=some x→∃y,args'[i]?=some y∧V m x y) (h:AC P H.length γ f args H (fun v' _=>v'=v)) (hbd:bodied P f=true:=by kernel_rfl) (hcl:callable P f=true:=by kernel_rfl):Calls P f args' W fun e W'=>e=.returned v∧Below W.heap.size W W':=by
 rcases h m W.heap.size W args' hR hs ha with ⟨_,h'⟩ | ⟨v0,hrun,_⟩
 case inr=>
  rw [callable_run hcl hbd]at hrun
  cases hrun
 refine h'.mono ?_
 rintro e w' ⟨m',v1,v',H',rfl,_,hv',_,hb,rfl⟩
 exact⟨by rw [hv'.eq hv],hb⟩
end
end
section
theorem lnS:(∀ {α:Type} (l:List α) (i:Nat) (x:α),(l.set i x).length=l.length)∧(∀ {α:Type} (a b:List α),(a++b).length=a.length+b.length)∧(∀ {α:Type} (x:α) (l:List α),(x::l).length=l.length+1)∧(∀ {α:Type},([]:List α).length=0)∧(∀ (k:IntKind) (l:List Int),(iv k l).length=l.length)∧∀n:Nat,(zl n).length=n:=
 ⟨fun _ _ _=>List.length_set,fun _ _=>laP,fun _ _=>rfl,rfl,iv_length,zl_length⟩
theorem ltT{a b:Int}(h:a<b):(a<b)=True:=eq_true h
theorem ltF{a b:Int}(h:b≤a):(a<b)=False:=eq_false (by omega)
theorem leT{a b:Int}(h:a≤b):(a≤b)=True:=eq_true h
theorem leF{a b:Int}(h:b<a):(a≤b)=False:=eq_false (by omega)
theorem eqT{a b:Int}(h:a=b):(a=b)=True:=eq_true h
theorem eqF{a b:Int}(h:a≠b):(a=b)=False:=eq_false h
theorem ltTn{a b:Nat}(h:a<b):(a<b)=True:=eq_true h
theorem ltFn{a b:Nat}(h:b≤a):(a<b)=False:=eq_false (by omega)
theorem leTn{a b:Nat}(h:a≤b):(a≤b)=True:=eq_true h
theorem leFn{a b:Nat}(h:b<a):(a≤b)=False:=eq_false (by omega)
theorem eqTn{a b:Nat}(h:a=b):(a=b)=True:=eq_true h
theorem eqFn{a b:Nat}(h:a≠b):(a=b)=False:=eq_false h
theorem beqT{a b:Int}(h:a=b):(a==b)=true:=by simpa using h
theorem beqF{a b:Int}(h:a≠b):(a==b)=false:=by simpa using h
theorem bneT{a b:Int}(h:a≠b):(a != b)=true:=by simpa using h
theorem bneF{a b:Int}(h:a=b):(a != b)=false:=by simpa using h
theorem wi64{x:Int}(h:-9223372036854775808≤x∧x≤9223372036854775807):IntKind.i64.wrap x=x:=wrap64_in h
theorem wu64{x:Int}(h:0≤x∧x≤18446744073709551615):IntKind.u64.wrap x=x:=by simp only [IntKind.wrap,IntKind.bits,IntKind.signed];simp;omega
theorem wu32{x:Int}(h:0≤x∧x≤4294967295):IntKind.u32.wrap x=x:=by simp only [IntKind.wrap,IntKind.bits,IntKind.signed];simp;omega
theorem wu16{x:Int}(h:0≤x∧x≤65535):IntKind.u16.wrap x=x:=by simp only [IntKind.wrap,IntKind.bits,IntKind.signed];simp;omega
theorem wu8{x:Int}(h:0≤x∧x≤255):IntKind.u8.wrap x=x:=by simp only [IntKind.wrap,IntKind.bits,IntKind.signed];simp;omega
theorem tmodP{a b:Int}(h:0≤a):a.tmod b=a%b:=Int.tmod_eq_emod_of_nonneg h
theorem tdivP{a b:Int}(h:0≤a):a.tdiv b=a/b:=Int.tdiv_eq_ediv_of_nonneg h
theorem hgetL{H L:AH}{i:Nat}(h:i<H.length):hget (H++L) i=hget H i:=hget_left h
theorem hgetNe{H:AH}{i j:Nat}{x:Option Blk}(h:i≠j):hget (H.set i x) j=hget H j:=hget_set_ne h
theorem hgetEq{H:AH}{i:Nat}{x:Option Blk}(h:i<H.length):hget (H.set i x) i=x:=hget_set_eq h
theorem setL{H L:AH}{i:Nat}{x:Option Blk}(h:i<H.length):(H++L).set i x=H.set i x++L:=List.set_append_left _ _ h
theorem iv_getN(k:IntKind)(l:List Int)(i:Nat)(h:i<l.length):(iv k l)[i]?=some (.int k (l.getD i 0)):=iv_get k l i h
theorem nums_def(s:ByteArray):(s.data.toList.map fun b=>(b.toNat:Int))=nums s:=rfl
theorem nums_len(s:ByteArray):(nums s).length=s.size:=by unfold nums;simp
theorem agB:isAggD .bool=false:=rfl
theorem agI(k:IntKind):isAggD (.int k)=false:=rfl
theorem agS:isAggD .string=false:=rfl
theorem agP(t:TypeId):isAggD (.pointer t)=false:=rfl
theorem agL(t:TypeId):isAggD (.slice t)=false:=rfl
theorem agA(n:Nat)(t:TypeId):isAggD (.array n t)=true:=rfl
theorem agM(k t:TypeId):isAggD (.map k t)=false:=rfl
theorem okM(k t:TypeId):okD (.map k t)=true:=rfl
theorem okB:okD .bool=true:=rfl
theorem okI(k:IntKind):okD (.int k)=true:=rfl
theorem okS:okD .string=true:=rfl
theorem okP(t:TypeId):okD (.pointer t)=true:=rfl
theorem okSl(t:TypeId):okD (.slice t)=true:=rfl
theorem okA(n:Nat)(t:TypeId):okD (.array n t)=true:=rfl
def By(l:List Int):Prop:=∀x∈l,0≤x∧x≤255
theorem nums_of(l:List Int)(h:By l):nums (strOfNums l)=l:=by
 unfold nums
 rw [strOfNums_data,List.map_map]
 refine (List.map_congr_left fun x hx=>?_).trans (List.map_id' l)
 have:=h x hx
 simp only [Function.comp_apply]
 rw [UInt8.toNat_ofNat']
 omega
theorem By.get{l:List Int}(h:By l)(p:Nat):0≤l.getD p 0∧l.getD p 0≤255:=by
 rw [gdD]
 cases hq:l[p]? with
 | none=>simp
 | some x=>simpa using h x (moG hq)
end
section
def behind(i:Nat):List (List Nat)→List (List Nat)
 | []=>[]
 | (j::l)::os=>if j=i then l::behind i os else behind i os
 | []::os=>behind i os
def ordersB(ops:Array Oper):Nat→Array Bool→List (List Nat)→Bool
 | 0,listed,os=>(Region.ready .any ops listed).isEmpty&&os.contains []
 | f+1,listed,os=>!(Region.ready .any ops listed).isEmpty&&(Region.ready .any ops listed).all fun i=>ordersB ops f (listed.setIfInBounds i true) (behind i os)
theorem behind_mem{i:Nat}{o:List Nat}:∀ {os:List (List Nat)},o∈behind i os→(i::o)∈os
 | []::os,h=>by simp only [behind]at h;exact List.mem_cons_of_mem _ (behind_mem h)
 | (j::l)::os,h=>by
  simp only [behind]at h
  split at h
  ·rename_i e
   subst e
   rcases List.mem_cons.1 h with rfl | h
   ·exact List.mem_cons_self
   ·exact List.mem_cons_of_mem _ (behind_mem h)
  ·exact List.mem_cons_of_mem _ (behind_mem h)
section
variable {P:Program} {nro n base:Nat} {γ:Nat→Option Nat} {m:List Ent} {H:AH} {α:Fm} {a:Act} {w:World} {Q:Exit→Fm→AH→Prop} {ops:Array Oper}
theorem orders_ne{ops:Array Oper}:∀ (f:Nat) (listed:Array Bool) (os:List (List Nat)),ordersB ops f listed os=true→∃o,o∈os
 | 0,listed,os,h=>by simp only [ordersB,Bool.and_eq_true,List.contains_iff_mem]at h;exact⟨_,h.2⟩
 | f+1,listed,os,h=>by
  simp only [ordersB,Bool.and_eq_true]at h
  cases hr:Region.ready .any ops listed with
  | nil=>rw [hr]at h;simp at h
  | cons i rs=>
   rw [hr]at h
   simp only [List.all_cons,Bool.and_eq_true]at h
   obtain⟨o,ho⟩:=orders_ne f _ _ h.2.1
   exact⟨_,behind_mem ho⟩
end
end
section
open Go Go.Proofs Go.Shelf Go.RowKit
section
variable {P:Program} {ρ:Ren} {nro base:Nat} {γ:Nat→Option Nat} {m:List Ent} {H:AH} {w:World}
theorem lies_one{e:TypeId}{s:Nat}(hc:P.cellsOf e=s)(h0:s≠0)(count:Nat)(hn:1≤count):liesAt P P.depth e count 0 e 1=true:=by
 have hd:P.depth=(2*(P.types.size+Made.depth)+1)+1:=rfl
 rw [hd]
 simp only [liesAt,Bool.or_eq_true]
 left
 rw [hd]
 simp [rowAt,hc,h0,hn,sameLayout]
set_option maxHeartbeats 1000000 in
set_option maxRecDepth 100000 in
theorem check_fresh(L:Lays.n240 P ρ)(X:Builder.X72 P ρ)(b n:Nat)(w:World)(h0:w.cell? ⟨b,0,none⟩=some (.pointer none))(hsh:w.shape? b=some ((ρ.t 72),n))(hn:2≤n)(hfz:w.frozen? ⟨b,0,none⟩=false) :
  Calls P (ρ.f 240) #[.pointer (some ⟨b,0,none⟩)] w fun e w'=>e=.returned (.tuple #[])∧w'=w.setCell ⟨b,0,none⟩ (.pointer (some ⟨b,0,none⟩)):=by
 obtain⟨j,hj,hjs⟩:=Option.map_eq_some_iff.1 X.sizeBuilder
 have hc2:P.cellsOf (ρ.t 72)=2:=by simp [Program.cellsOf,hj,hjs]
 have hlies:=lies_one (P:=P) hc2 (by omega) (n/P.cellsOf (ρ.t 72)) (by rw [hc2];omega)
 have mixed:=L.mixed
 have t72:=L.t72;have a72:=L.a72;have z72:=L.z72;have v72:=L.v72;have u72:=run_underlying L.t72
 have t70:=L.t70;have a70:=L.a70;have z70:=L.z70;have v70:=L.v70;have u70:=run_underlying L.t70
 have t9:=L.t9;have a9:=L.a9;have z9:=L.z9;have v9:=L.v9;have u9:=run_underlying L.t9
 have t4:=L.t4;have a4:=L.a4;have z4:=L.z4;have v4:=L.v4;have u4:=run_underlying L.t4
 have t164:=L.t164;have a164:=L.a164;have z164:=L.z164;have v164:=L.v164;have u164:=run_underlying L.t164
 go_enter L.f240,Body.n240_ntmps ρ
 go_wp2
 rw [Lib.run_to_unsafe w ⟨b,0,none⟩ L.t70 L.t164 hj (by rw [hjs];decide) hsh (show 0<n by omega)]
 simp only [Result.andThen]
 rw [Oper.upon_value]
 go_wp2
 rw [run_callFunc_extern L.f276 (by kernel_rfl) (by kernel_rfl) (by kernel_rfl) (e:=Extern.AbiNoEscape.same) (by kernel_rfl)]
 rw [Lib.run_noEscape]
 simp only [Result.andThen]
 rw [Oper.upon_value]
 go_wp2
 rw [Lib.run_from_unsafe w ⟨b,0,none⟩ L.t164 L.t70 hj hsh hlies]
 simp only [Result.andThen]
 rw [Oper.upon_value]
 go_wp2
 go_end0
 exact⟨rfl,rfl⟩
set_option maxHeartbeats 1000000 in
set_option maxRecDepth 100000 in
theorem string_row(L:Lays.n169 P ρ)(X:Builder.Extra P ρ)(b g cap n:Nat)(l:List UInt8)(w:World)(h0:l≠[])(hb:w.cell? ⟨b,1,none⟩=some (.slice (some ⟨g,0,none⟩) l.length cap))(hlc:l.length≤cap)(hsh:w.shape? g=some (ρ.t 5,n))(hn:l.length≤n)
  (h63:l.length≤9223372036854775807) (hcell:∀j x,l[j]?=some x→w.cell? ((⟨g,0,none⟩:Addr).add j)=some (.int .u8 x.toNat)) :
  Calls P (ρ.f 169) #[.pointer (some ⟨b,0,none⟩)] w fun e w'=>e=.returned (.string ⟨l.toArray⟩)∧w'=w.drew.freeze ⟨g,0,none⟩ l.length:=by
 have hl0:l.length≠0:=by simpa using h0
 have c1:w.drew.cell? ⟨b,1,none⟩=some (.slice (some ⟨g,0,none⟩) l.length cap):=hb
 have hSD:(Builtin.unsafeSliceData_ #[(ρ.t 37)] (ρ.t 127) #[.slice (some ⟨g,0,none⟩) l.length cap]).run P w.drew=.ok (.pointer (some ⟨g,0,none⟩)) w.drew:=
  Lib.run_unsafeSliceData_row _ _ _ _ _ _ (by omega)
 have hUS:(Builtin.unsafeString_ #[(ρ.t 127),(ρ.t 3)] (ρ.t 9) #[.pointer (some ⟨g,0,none⟩),.int .i64 l.length]).run P w.drew=.ok (.string ⟨l.toArray⟩) (w.drew.freeze ⟨g,0,none⟩ l.length):=
  Lib.run_unsafeString_row w.drew (ρ.t 127) (ρ.t 3) (ρ.t 9) (ρ.t 5) L.t127 X.cellsByte g n hsh l h0 hn h63 hcell
 have mixed:=L.mixed
 have t72:=L.t72;have a72:=L.a72;have z72:=L.z72;have v72:=L.v72;have u72:=run_underlying L.t72
 have t70:=L.t70;have a70:=L.a70;have z70:=L.z70;have v70:=L.v70;have u70:=run_underlying L.t70
 have t37:=L.t37;have a37:=L.a37;have z37:=L.z37;have v37:=L.v37;have u37:=run_underlying L.t37
 have t127:=L.t127;have a127:=L.a127;have z127:=L.z127;have v127:=L.v127;have u127:=run_underlying L.t127
 have t3:=L.t3;have a3:=L.a3;have z3:=L.z3;have v3:=L.v3;have u3:=run_underlying L.t3
 have t9:=L.t9;have a9:=L.a9;have z9:=L.z9;have v9:=L.v9;have u9:=run_underlying L.t9
 have t5:=X.t5;have a5:=X.a5;have z5:=X.z5;have v5:=X.v5;have u5:=run_underlying X.t5
 go_enter L.f169,Body.n169_ntmps ρ
 go_wp2
 go_region_o
 all_goals (go_wp2;go_ret;exact⟨rfl,rfl⟩)
set_option maxHeartbeats 2000000 in
set_option maxRecDepth 100000 in
theorem string_nil(L:Lays.n169 P ρ)(X:Builder.Extra P ρ)(b:Nat)(w:World)(hb:w.cell? ⟨b,1,none⟩=some (.slice none 0 0)) :
  Calls P (ρ.f 169) #[.pointer (some ⟨b,0,none⟩)] w fun e w'=>e=.returned (.string ⟨#[]⟩)∧w'=w.drew:=by
 have hUS:=Any.unsafeString_none L X
 have c1:w.drew.cell? ⟨b,1,none⟩=some (.slice none 0 0):=hb
 have hSD:(Builtin.unsafeSliceData_ #[(ρ.t 37)] (ρ.t 127) #[.slice none 0 0]).run P w.drew=.ok (.pointer none) w.drew:=rfl
 have mixed:=L.mixed
 have t72:=L.t72;have a72:=L.a72;have z72:=L.z72;have v72:=L.v72;have u72:=run_underlying L.t72
 have t70:=L.t70;have a70:=L.a70;have z70:=L.z70;have v70:=L.v70;have u70:=run_underlying L.t70
 have t37:=L.t37;have a37:=L.a37;have z37:=L.z37;have v37:=L.v37;have u37:=run_underlying L.t37
 have t127:=L.t127;have a127:=L.a127;have z127:=L.z127;have v127:=L.v127;have u127:=run_underlying L.t127
 have t3:=L.t3;have a3:=L.a3;have z3:=L.z3;have v3:=L.v3;have u3:=run_underlying L.t3
 have t9:=L.t9;have a9:=L.a9;have z9:=L.z9;have v9:=L.v9;have u9:=run_underlying L.t9
 have t5:=X.t5;have a5:=X.a5;have z5:=X.z5;have v5:=X.v5;have u5:=run_underlying X.t5
 go_enter L.f169,Body.n169_ntmps ρ
 go_wp2
 go_region_o
 all_goals (go_wp2;go_ret;exact⟨rfl,rfl⟩)
theorem one_arg{args':Array Value}{y:Value}(h:args'.size=1)(hy:args'[0]?=some y):args'=#[y]:=by
 apply Array.ext_getElem?
 intro k
 match k with
 | 0=>rw [hy];rfl
 | k+1=>rw [Array.getElem?_eq_none (by omega),Array.getElem?_eq_none (by simp)]
theorem Rel.killed(hR:Rel nro base γ m H w){j:Nat}{k:Blk}{e:Ent}(hj:nro≤j)(hk:hget H j=some k)(he:m[j]?=some e){w':World}(hsz:w'.heap.size=w.heap.size)(hold:∀b,b≠e.b→w'.heap[b]?=w.heap[b]?) :
  Rel nro base γ m (H.set j none) w':=by
 have hs:∀ (i:Nat) (k:Blk),(H.set j none)[i]?=some (some k)→H[i]?=some (some k)∧i≠j:=by
  intro i k h
  by_cases e:j=i
  ·subst e
   rcases Nat.lt_or_ge j H.length with hl | hl
   ·rw [List.getElem?_set_self hl]at h;cases h
   ·rw [List.getElem?_eq_none (by simpa using hl)]at h;cases h
  ·rw [List.getElem?_set_ne e]at h;exact⟨h,Ne.symm e⟩
 refine⟨by simp [hR.len],by simpa using hR.le,by rw [hsz];exact hR.base_le,fun i e' he'=>by rw [hsz];exact hR.inb i e' he',hR.ro,hR.own,fun i q e' l hq hl he'=>?_,fun i q e' hq hqm he'=>?_,
  fun i' j ki kj ei ej hi hj hne hki hkj hei hej=>hR.apart i' j ki kj ei ej hi hj hne (hs _ _ hki).1 (hs _ _ hkj).1 hei hej,
  hR.globs (nlE _) (fun _ _ h=>h) (fun i k _ h=>(hs i k h).1) (fun i k e' hi _ he'=>hold _ (by have:=hR.ro i e' hi he';have:=(hR.own j e hj he).1;omega))⟩
 all_goals
  obtain⟨hq,hne⟩:=hs i q hq
  have hb:e'.b≠e.b:=by
   rcases Nat.lt_or_ge i nro with hi | hi
   ·have:=hR.ro i e' hi he';have:=(hR.own j e hj he).1;omega
   ·exact hR.apart i j q k e' e hi hj hne hq (hget_some hk) he' he
 ·obtain⟨h1,h2,h3,es,cl,h4,h5⟩:=hR.maps i q e' l hq hl he'
  exact⟨h1,h2,h3,es,cl,(hold _ hb).trans h4,h5⟩
 ·obtain⟨cs,fr,h1,h2⟩:=hR.cells i q e' hq hqm he'
  exact⟨cs,fr,(hold _ hb).trans h1,h2⟩
theorem check_used_ac(L:Lays.n240 P ρ)(X:Builder.X72 P ρ){i:Nat}{v:Value}{T:TypeId}{es:Option Nat}(hi:nro≤i)(hb:hget H i=some ⟨[.pointer (some ⟨i,0,none⟩),v],T,es⟩) :
  AC P nro γ (ρ.f 240) #[.pointer (some ⟨i,0,none⟩)] H (fun v' H'=>v'=.tuple #[]∧H'=H):=by
 intro m base w args' hR hsz hva
 obtain⟨y0,hy0,hv0⟩:=hva 0 _ rfl
 obtain rfl:=one_arg hsz hy0
 obtain⟨e,he,rfl⟩:=hv0.ptr_
 have ho:=hR.own i e hi he
 obtain⟨y,hy,hvy⟩:=hR.cell hb he (off:=0) (x:=.pointer (some ⟨i,0,none⟩)) rfl
 obtain⟨e2,he2,rfl⟩:=(V.one hvy).ptr_
 rw [he]at he2
 cases he2
 rw [ho.2]at hy ⊢
 refine .inl ⟨by simp only [bodied,L.f240];rfl,(Any.Builder_copyCheck_used L X e.b w hy).mono ?_⟩
 rintro e' w' ⟨rfl,rfl⟩
 exact⟨m,.tuple #[],.tuple #[],H,rfl,List.prefix_rfl,plainV_mk (by simp [plainV]),hR,.refl _ _,rfl,rfl⟩
theorem check_fresh_ac(L:Lays.n240 P ρ)(X:Builder.X72 P ρ){i:Nat}{v:Value}{es:Option Nat}(hi:nro≤i)(hb:hget H i=some ⟨[.pointer none,v],ρ.t 72,es⟩) :
  AC P nro γ (ρ.f 240) #[.pointer (some ⟨i,0,none⟩)] H (fun v' H'=>v'=.tuple #[]∧H'=H.set i (some ⟨[.pointer (some ⟨i,0,none⟩),v],ρ.t 72,es⟩)):=by
 intro m base w args' hR hsz hva
 obtain⟨y0,hy0,hv0⟩:=hva 0 _ rfl
 obtain rfl:=one_arg hsz hy0
 have hv0':=hv0
 obtain⟨e,he,rfl⟩:=hv0.ptr_
 have ho:=hR.own i e hi he
 obtain⟨cs,fr,h1,h2,h3,h4,h5⟩:=hR.cells i _ e (hget_some hb) rfl he
 obtain⟨z,hz,hvz⟩:=h5 0 (.pointer none) rfl
 have:=(V.one hvz).eq rfl
 subst this
 obtain⟨z1,hz1,_⟩:=h5 1 v rfl
 rw [ho.2]at hz hz1 hv0' ⊢
 have hlt:1<cs.size:=by
  have:=(asI.1 hz1).1
  omega
 have hcell:w.cell? ⟨e.b,0,none⟩=some (.pointer none):=by simp [World.cell?,h1];simpa using hz
 have hfz:w.frozen? ⟨e.b,0,none⟩=false:=by
  have:=(h4 hi).1 0 (by omega)
  simp only [World.frozen?,h1]
  simp only [Bool.and_eq_false_iff,decide_eq_false_iff_not]
  omega
 obtain⟨w',r1,r2,r3⟩:=storeCells_rel (P:=P) hi he [.pointer (some ⟨i,0,none⟩)] [.pointer (some ⟨e.b,0,none⟩)] 0 0 H w _ ⟨rfl,fun q x hx=>by
  cases q with
  | zero=>cases hx;exact⟨_,rfl,by have:=V1.ptr (m:=m) (i:=i) (off:=0) he;rw [ho.2]at this;exact this⟩
  | succ q=>simp at hx⟩ hR (hget_some hb) (by simp)
 have hst:(store ((⟨e.b,0,none⟩:Addr).add 0) (.pointer (some ⟨e.b,0,none⟩))).run P w=.ok () (w.setCell ⟨e.b,0,none⟩ (.pointer (some ⟨e.b,0,none⟩))):=by
  rw [add_none,run_store P w _ _ _ rfl]
  simp [hcell,hfz]
 have hrun:(storeCells ⟨e.b,0,none⟩ [.pointer (some ⟨e.b,0,none⟩)] 0).run P w=.ok () (w.setCell ⟨e.b,0,none⟩ (.pointer (some ⟨e.b,0,none⟩))):=by
  simp [storeCells,hst]
 rw [hrun]at r1
 cases r1
 refine .inl ⟨by simp only [bodied,L.f240];rfl,(check_fresh L X e.b cs.size w hcell (by simp [World.shape?,h1]) (by omega) hfz).mono ?_⟩
 rintro e' w' ⟨rfl,rfl⟩
 exact⟨m,.tuple #[],.tuple #[],_,rfl,List.prefix_rfl,plainV_mk (by simp [plainV]),r2,r3,rfl,rfl⟩
theorem string_ac(L:Lays.n169 P ρ)(X:Builder.Extra P ρ){i j len:Nat}{p:Value}{T:TypeId}{es:Option Nat}{s:ByteArray}(hi:nro≤i)(hb:hget H i=some ⟨[p,.slice (some ⟨j,0,none⟩) len len],T,es⟩)(hj:nro≤j)
  (hk:hget H j=some ⟨iv .u8 (nums s),ρ.t 5,some 1⟩) (hl:s.size=len) (h0:len≠0) :
  AC P nro γ (ρ.f 169) #[.pointer (some ⟨i,0,none⟩)] H (fun v' H'=>v'=.string s∧H'=H.set j none):=by
 intro m base w args' hR hsz hva
 obtain⟨y0,hy0,hv0⟩:=hva 0 _ rfl
 obtain rfl:=one_arg hsz hy0
 obtain⟨e,he,rfl⟩:=hv0.ptr_
 have ho:=hR.own i e hi he
 obtain⟨y,hy,hvy⟩:=hR.cell hb he (off:=1) (x:=.slice (some ⟨j,0,none⟩) len len) rfl
 obtain⟨ej,c',_,hej,hlc,hcap,rfl⟩:=(V.one hvy).sl_
 have hoj:=hR.own j ej hj hej
 obtain⟨cs,fr,g1,g2,g3,g4,g5⟩:=hR.cells j _ ej (hget_some hk) rfl hej
 obtain⟨hc1,hc2⟩:=hcap rfl 1 g3
 have hcs:=g2 hj
 rw [ho.2,hoj.2]at hy
 rw [ho.2]
 have hsl:s.data.toList.length=len:=by rw [←hl];simp
 have:=string_row L X e.b ej.b c' cs.size s.data.toList w (by intro h;rw [h]at hsl;exact h0 hsl.symm) (by rw [hsl];simpa using hy) (by omega) (by simp [World.shape?,g1]) (by rw [hsl];omega) (by unfold maxLen at hc2;omega) (fun q x hx=>by
  obtain⟨y,hy,hv⟩:=hR.cell hk hej (off:=q) (x:=.int .u8 x.toNat) (by simp [iv,nums,hx])
  have:=hv.eq rfl
  subst this
  rw [hoj.2]at hy
  have e:(⟨ej.b,0,none⟩:Addr).add q=⟨ej.b,0+q,none⟩:=by unfold Addr.add;split <;> simp_all
  rw [e,hy])
 refine .inl ⟨by simp only [bodied,L.f169];rfl,this.mono ?_⟩
 rintro e' w' ⟨rfl,rfl⟩
 have hrel:Rel nro base γ m (H.set j none) (w.drew.freeze ⟨ej.b,0,none⟩ s.data.toList.length):=by
  refine Rel.killed (hR.drewN 1) hj hk hej ?_ fun b hb=>?_
  ·unfold World.freeze
   split
   ·rfl
   ·show (Array.modify _ _ _).size=_
    rw [Array.size_modify]
    rfl
  ·unfold World.freeze
   split
   ·rfl
   ·simp only [Array.getElem?_modify]
    rw [if_neg (fun h=>hb h.symm)]
    rfl
 exact⟨m,.string s,.string s,_,by simp,List.prefix_rfl,plainV_mk rfl,hrel,Lib.below_freeze (Below.drew (Below.refl base w)) (p:=⟨ej.b,0,none⟩) hoj.1 _,rfl,rfl⟩
theorem string_nil_ac(L:Lays.n169 P ρ)(X:Builder.Extra P ρ){i:Nat}{p:Value}{T:TypeId}{es:Option Nat}(hi:nro≤i)(hb:hget H i=some ⟨[p,.slice none 0 0],T,es⟩) :
  AC P nro γ (ρ.f 169) #[.pointer (some ⟨i,0,none⟩)] H (fun v' H'=>v'=.string ⟨#[]⟩∧H'=H):=by
 intro m base w args' hR hsz hva
 obtain⟨y0,hy0,hv0⟩:=hva 0 _ rfl
 obtain rfl:=one_arg hsz hy0
 obtain⟨e,he,rfl⟩:=hv0.ptr_
 have ho:=hR.own i e hi he
 obtain⟨y,hy,hvy⟩:=hR.cell hb he (off:=1) (x:=.slice none 0 0) rfl
 have:=(V.one hvy).eq rfl
 subst this
 rw [ho.2]at hy ⊢
 refine .inl ⟨by simp only [bodied,L.f169];rfl,(string_nil L X e.b w (by simpa using hy)).mono ?_⟩
 rintro e' w' ⟨rfl,rfl⟩
 exact⟨m,.string ⟨#[]⟩,.string ⟨#[]⟩,H,rfl,List.prefix_rfl,plainV_mk rfl,hR.drewN 1,Below.drew (Below.refl base w),rfl,rfl⟩
end
end
section
structure Fr (H H':AH) (F F':List Nat):Prop where
 len:H.length≤H'.length
 out:∀j,j<H.length→j∉F→hget H' j=hget H j
 new:∀j∈F',j∈F∨H.length≤j
section
variable {β:Type}
theorem setR_right(a b r:List Value)(off:Nat)(h:off+r.length≤b.length):setR (a++b) (a.length+off) r=a++setR b off r:=by
 apply List.ext_getElem?
 intro j
 rw [setR_get _ _ _ _ (by simp;omega)]
 rcases Nat.lt_or_ge j a.length with hj | hj
 ·rw [if_neg (by omega),gaL hj,gaL hj]
 ·rw [gaR hj,gaR hj,setR_get _ _ _ _ h]
  by_cases hc:off≤j-a.length∧j-a.length<off+r.length
  ·rw [if_pos hc,if_pos (by omega),show j-(a.length+off)=j-a.length-off by omega]
  ·rw [if_neg hc,if_neg (by omega)]
theorem setR_frontF(q r:List Value)(h:r.length≤q.length):setR q 0 r=r++q.drop r.length:=by
 apply List.ext_getElem?
 intro j
 rw [setR_get _ _ _ _ (by omega)]
 rcases Nat.lt_or_ge j r.length with hj | hj
 ·rw [if_pos (by omega),gaL hj,Nat.sub_zero]
 ·rw [if_neg (by omega),gaR hj,List.getElem?_drop,show r.length+(j-r.length)=j by omega]
theorem hga{G L:AH}{i k:Nat}{v:Option Blk}:hget (G.set i v++L) (G.length+k)=hget L k:=by
 have:=hget_app (G.set i v) L k
 rwa [List.length_set]at this
theorem hga0{G L:AH}{i:Nat}{v:Option Blk}:hget (G.set i v++L) G.length=hget L 0:=hga (k:=0)
theorem fl_len{L:List (List β)}{n:Nat}(h:∀r∈L,r.length=n):L.flatten.length=L.length*n:=by
 induction L with
 | nil=>simp
 | cons x L ih=>
  rw [List.flatten_cons,laP,ih (fun r hr=>h r (List.mem_cons_of_mem _ hr)),h x List.mem_cons_self,List.length_cons,Nat.add_mul]
  omega
theorem fl_drop{L:List (List β)}{n:Nat}(h:∀r∈L,r.length=n):∀k,k≤L.length→L.flatten.drop (k*n)=(L.drop k).flatten:=by
 induction L with
 | nil=>intro k hk;simp
 | cons x L ih=>
  intro k hk
  cases k with
  | zero=>simp
  | succ k=>
   have hx:=h x List.mem_cons_self
   rw [List.flatten_cons,List.drop_succ_cons,←ih (fun r hr=>h r (List.mem_cons_of_mem _ hr)) k (by simpa using hk),Nat.add_mul,Nat.one_mul]
   rw [show k*n+n=x.length+k*n by omega,List.drop_append,List.drop_of_length_le (by omega),List.nil_append,show x.length+k*n-x.length=k*n by omega]
theorem fl_get{L:List (List β)}{n k:Nat}{r:List β}(h:∀r∈L,r.length=n)(hk:L[k]?=some r):(L.flatten.drop (k*n)).take n=r:=by
 obtain⟨hl,he⟩:=gsI.1 hk
 rw [fl_drop h k (by omega),List.drop_eq_getElem_cons hl,List.flatten_cons,he]
 have:=h r (moG hk)
 rw [List.take_append_of_le_length (by omega),tkL (by omega)]
end
theorem nums_appF(a b:ByteArray):nums (a++b)=nums a++nums b:=by simp [nums]
def sv(s:ByteArray):List Value:=iv .u8 (nums s)
def zs(n:Nat):ByteArray:=⟨(List.replicate n (0:UInt8)).toArray⟩
end
section
theorem fr1{H:AH}{p:Nat}{x:Option Blk}:Fr H (H.set p x) [p] [p]:=Fr.mk (by simp) (fun j hj hn=>hget_set_ne (by simp at hn;omega)) (fun j hj=>.inl hj)
end
section
open Go Go.RowKit Go.ChangeShapes Go.WideShapes Go.ChangeAt
inductive CD where
 | int (k:IntKind) (z:Int) | str (s:ByteArray) | bool (b:Bool) | sl (rows:List (List CD))
inductive CD.Val (H:AH):CD→Value→Prop
 | int {k:IntKind} {z:Int}:CD.Val H (.int k z) (.int k z)
 | str {s:ByteArray}:CD.Val H (.str s) (.string s)
 | bool {b:Bool}:CD.Val H (.bool b) (.bool b)
 | nil {a:Option Addr} (ha:∀x,a=some x→x.spot=some 0):CD.Val H (.sl []) (.slice a 0 0)
 | sl {sz j:Nat} {k:Blk} {rows:List (List CD)} (h1:hget H j=some k) (h2:rows.length*sz≤k.cells.length) (h3:∀row∈rows,row.length=sz)
   (h4:∀ (i:Nat) (row:List CD) (c:Nat) (d:CD) (x:Value),rows[i]?=some row→row[c]?=some d→k.cells[i*sz+c]?=some x→CD.Val H d x):CD.Val H (.sl rows) (.slice (some ⟨j,0,none⟩) rows.length rows.length)
def ValL(H:AH)(ds:List CD)(us:List Value):Prop:=us.length=ds.length∧∀ (c:Nat) (d:CD) (u:Value),ds[c]?=some d→us[c]?=some u→CD.Val H d u
theorem CD.Val.low{H H':AH}{d:CD}{v:Value}(hl:∀j,j<H.length→hget H' j=hget H j)(h:CD.Val H d v):CD.Val H' d v:=by
 induction h with
 | int=>exact .int
 | str=>exact .str
 | bool=>exact .bool
 | nil h=>exact .nil h
 | sl h1 h2 h3 h4 ih=>exact .sl (by rw [hl _ (hget_lt h1)];exact h1) h2 h3 ih
section
variable {P:Program} {W:World} {H:Type} {enc:TypeId×Value→H}
end
section
variable {P:Program} {W:World} {H:Type} {enc:TypeId×Value→H}
end
theorem val_int{H:AH}{k:IntKind}{z:Int}{v:Value}(h:CD.Val H (.int k z) v):v=.int k z:=by cases h;rfl
theorem val_len{P:Program}{H:AH}{rows:List (List CD)}{v:Value}{t e:TypeId}(h:CD.Val H (.sl rows) v)(ht:und P t=.slice e):xlen P t v=some (.int .i64 rows.length):=by
 cases h with
 | nil=>simp [xlen,ht]
 | sl _ _ _ _=>simp [xlen,ht]
theorem val_nt{H:AH}{rows:List (List CD)}{v:Value}(h:CD.Val H (.sl rows) v):notTuple v=true∧v.cells=#[v]:=by
 cases h <;> exact⟨rfl,rfl⟩
theorem val_at{P:Program}{H:AH}{rows:List (List CD)}{v:Value}{t e:TypeId}{sz:Nat}(h:CD.Val H (.sl rows) v)(ht:und P t=.slice e)(hs:szt P e=sz)(h0:0<sz)(hl:∀row∈rows,row.length=sz){i:Nat}{row:List CD}(hi:rows[i]?=some row) :
  ∃j b us,v=.slice (some ⟨j,0,none⟩) rows.length rows.length∧hget H j=some b∧rows.length*sz≤b.cells.length∧xindexAddr P t v (.int .i64 (i:Nat))=some (.pointer (some ⟨j,i*sz,none⟩)) ∧
   us=(b.cells.drop (i*sz)).take sz∧us.length=sz∧i*sz+sz≤b.cells.length∧(∀c,c<sz→b.cells[i*sz+c]?=us[c]?)∧ValL H row us:=by
 have hil:=(gsI.1 hi).1
 have hrl:=hl row (moG hi)
 cases h with
 | nil=>simp at hi
 | @sl sz' j b _ h1 h2 h3 h4=>
  have hsz:sz'=sz:=(h3 row (moG hi)).symm.trans hrl
  subst hsz
  have h7:(i+1)*sz'≤rows.length*sz':=Nat.mul_le_mul_right _ hil
  rw [Nat.add_mul]at h7
  refine⟨j,b,(b.cells.drop (i*sz')).take sz',rfl,h1,h2,?_,rfl,by rw [List.length_take,List.length_drop];omega,by omega,fun c hc=>?_,⟨by rw [List.length_take,List.length_drop,hrl];omega,fun c d u hd hu=>?_⟩⟩
  ·unfold xindexAddr
   simp only [ht,hs]
   rw [if_pos ⟨by omega,by omega,h0⟩]
   simp
  ·rw [List.getElem?_take_of_lt hc,List.getElem?_drop]
  ·have hc:c<sz':=by rw [←hrl];exact (gsI.1 hd).1
   rw [List.getElem?_take_of_lt hc,List.getElem?_drop]at hu
   exact h4 i row c d u hi hd hu
theorem load_at{P:Program}{G:AH}{e:TypeId}{sz i j:Nat}{b:Blk}{us:List Value}(hb:hget G j=some b)(hs:szt P e=sz)(h0:0<sz)(hd:isAggD (und P e)=true)(hu:us=(b.cells.drop (i*sz)).take sz)(hle:i*sz+sz≤b.cells.length) :
  xload P e (.pointer (some ⟨j,i*sz,none⟩)) G=some (.agg us.toArray):=by
 unfold xload
 simp only [hb,hd,hs,if_true]
 rw [if_pos ⟨h0,hle⟩,hu]
theorem ValL.cons{H:AH}{d:CD}{ds:List CD}{us:List Value}(h:ValL H (d::ds) us):∃u r,us=u::r∧CD.Val H d u∧ValL H ds r:=by
 obtain⟨h1,h2⟩:=h
 cases us with
 | nil=>cases h1
 | cons u r=>exact⟨u,r,rfl,h2 0 d u rfl rfl,by simpa using h1,fun c d u hd hu=>h2 (c+1) d u (by simpa using hd) (by simpa using hu)⟩
theorem ValL.nil{H:AH}{us:List Value}(h:ValL H [] us):us=[]:=List.eq_nil_of_length_eq_zero h.1
theorem ValL.ints{H:AH}{k:IntKind}:∀ {zs:List Int} {us:List Value},ValL H (zs.map (.int k)) us→us=iv k zs
 | [],us,h=>h.nil
 | z::zs,us,h=>by
  obtain⟨u,r,rfl,hu,hr⟩:=ValL.cons h
  rw [val_int hu,ValL.ints hr]
  rfl
end
section
theorem sn_size(l:List Int):(strOfNums l).size=l.length:=by simp [strOfNums,ByteArray.size]
theorem sn_app(a b:List Int):strOfNums a++strOfNums b=strOfNums (a++b):=by
 apply ByteArray.ext
 apply Array.toList_inj.1
 simp [strOfNums,ByteArray.data_append]
theorem sn_inj{a b:List Int}(ha:By a)(hb:By b)(h:strOfNums a=strOfNums b):a=b:=by
 rw [←nums_of a ha,h,nums_of b hb]
end
section
section
variable {P:Program} {nro n base base':Nat} {γ:Nat→Option Nat} {m m':List Ent} {H H':AH} {w w':World} {Q:Value→AH→Prop}
theorem Rel.thaw(h1:Rel nro base γ m H w')(h2:Rel H.length base' γ m' H' w')(hm:m <+: m')(hl:∀j,j<H.length→hget H' j=hget H j)(hle:H.length≤H'.length)(hb:∀ (i:Nat) (e:Ent),m[i]?=some e→e.b<base')(hbb:base≤base'):Rel nro base γ m' H' w':=by
 have hml:=h1.len
 have old:∀ (i:Nat) (e:Ent),i<H.length→m'[i]?=some e→m[i]?=some e:=fun i e hi he=>by
  obtain⟨r,rfl⟩:=hm
  rwa [gaL (by omega)]at he
 have oldH:∀ (i:Nat) (k:Blk),i<H.length→H'[i]?=some (some k)→H[i]?=some (some k):=fun i k hi hk=>by
  have h3:=hl i hi
  unfold hget at h3
  rw [hk,geE hi]at h3
  simp at h3
  rw [geE hi,←h3]
 refine⟨h2.len,Nat.le_trans h1.le hle,h1.base_le,h2.inb,fun i e hi he=>h1.ro i e hi (old i e (Nat.lt_of_lt_of_le hi h1.le) he),fun i e hi he=>?_,h2.maps,fun i k e hk hn he=>?_,fun i j ki kj ei ej hi hj hij hki hkj hei hej=>?_,
  h1.globs (nlE _) (fun i e h=>pre_get hm h) (fun i k hi h=>oldH i k (Nat.lt_of_lt_of_le hi h1.le) h) (fun _ _ _ _ _ _=>rfl)⟩
 ·rcases Nat.lt_or_ge i H.length with h | h
  ·exact h1.own i e hi (old i e h he)
  ·have:=h2.own i e h he
   exact⟨by omega,this.2⟩
 ·rcases Nat.lt_or_ge i H.length with h | h
  ·obtain⟨cs,fr,a,b,c,d,f⟩:=h1.cells i k e (oldH i k h hk) hn (old i e h he)
   refine⟨cs,fr,a,b,c,d,fun j x hx=>?_⟩
   obtain⟨y,hy,hv⟩:=f j x hx
   exact⟨y,hy,hv.mono hm⟩
  ·obtain⟨cs,fr,a,b,c,d,f⟩:=h2.cells i k e hk hn he
   exact⟨cs,fr,a,fun _=>b h,c,fun _=>d h,f⟩
 ·rcases Nat.lt_or_ge i H.length with h | h
  ·have e1:=old i ei h hei
   rcases Nat.lt_or_ge j H.length with h' | h'
   ·exact h1.apart i j ki kj ei ej hi hj hij (oldH i ki h hki) (oldH j kj h' hkj) e1 (old j ej h' hej)
   ·have:=hb i ei e1
    have:=(h2.own j ej h' hej).1
    omega
  ·rcases Nat.lt_or_ge j H.length with h' | h'
   ·have:=hb j ej (old j ej h' hej)
    have:=(h2.own i ei h hei).1
    omega
   ·exact h2.apart i j ki kj ei ej h h' hij hki hkj hei hej
theorem AC.thaw{f:FuncId}{args:Array Value}(h:AC P H.length γ f args H Q)(hq:∀v H',Q v H'→H.length≤H'.length∧∀j,j<H.length→hget H' j=hget H j):AC P nro γ f args H Q:=by
 intro m base w args' hR hsz hva
 refine (h m w.heap.size w args' hR.freeze hsz hva).mono ?_
 rintro e w' ⟨m',v1,v',H',rfl,hm,hv',hR',hb,hQ⟩
 obtain⟨h1,h2⟩:=hq _ _ hQ
 exact⟨m',v1,v',H',rfl,hm,hv',(hR.below hb).thaw hR' hm h2 h1 hR.inb hR.base_le,hb.mono hR.base_le,hQ⟩
end
end
section
def headsO:List (List Nat)→List Nat
 | []=>[]
 | (j::_)::os=>if (headsO os).contains j then headsO os else j::headsO os
 | []::os=>headsO os
theorem headsO_mem{i:Nat}{o:List Nat}:∀ {os:List (List Nat)},(i::o)∈os→i∈headsO os
 | []::os,h=>by
  rcases List.mem_cons.1 h with h | h
  ·cases h
  ·exact headsO_mem (os:=os) h
 | (j::l)::os,h=>by
  unfold headsO
  rcases List.mem_cons.1 h with h | h
  ·cases h
   split
   ·rename_i hc;simpa using hc
   ·simp
  ·have:=headsO_mem (os:=os) h
   split
   ·exact this
   ·exact List.mem_cons_of_mem _ this
def XLk(P:Program)(nro:Nat)(γ:Nat→Option Nat)(r:St)(d:Option Tmp)(α:Fm)(H:AH)(k:Fm→AH→Prop):Prop:=
 match r with
 | .no=>False
 | .val v H'=>k (α.put d v) H'
 | .call f args=>callable P f=true∧AC P nro γ f args H fun v H'=>k (α.put d v) H'
def XO(P:Program)(nro n:Nat)(γ:Nat→Option Nat)(ops:Array Oper)(K:Fm→AH→Prop)(l:List Oper):Nat→List (List Nat)→Fm→AH→Prop
 | 0,_,α,H=>K α H
 | f+1,os,α,H=>∀i∈headsO os,match l[i]? with
  | none=>False
  | some o=>XLk P nro γ (step1 P nro n γ ops o α H) o.dst α H (XO P nro n γ ops K l f (behind i os))
section
variable {P:Program} {nro n base:Nat} {γ:Nat→Option Nat} {m:List Ent} {H:AH} {α:Fm} {a:Act} {w:World} {Q:Exit→Fm→AH→Prop} {ops:Array Oper}
theorem XO_z{K:Fm→AH→Prop}{l:List Oper}{os:List (List Nat)}:XO P nro n γ ops K l 0 os α H=K α H:=rfl
theorem XO_s{K:Fm→AH→Prop}{l:List Oper}{f:Nat}{os:List (List Nat)}:XO P nro n γ ops K l (f+1) os α H=∀i∈headsO os,match l[i]? with
  | none=>False
  | some o=>XLk P nro γ (step1 P nro n γ ops o α H) o.dst α H (XO P nro n γ ops K l f (behind i os)):=rfl
theorem XLk_val{v:Value}{H':AH}{d:Option Tmp}{k:Fm→AH→Prop}:XLk P nro γ (.val v H') d α H k=k (α.put d v) H':=rfl
theorem XLk_call{f:FuncId}{args:Array Value}{d:Option Tmp}{k:Fm→AH→Prop}:XLk P nro γ (.call f args) d α H k=(callable P f=true∧AC P nro γ f args H fun v H'=>k (α.put d v) H'):=rfl
end
end
section
def pureTreeB(ops:Array Oper)(F:Nat)(os:List (List Nat)):List Nat→Array Bool→Bool
 | [],listed=>ordersB ops F listed os
 | i::is,listed=>(Region.ready .any ops listed).contains i&&Region.free .any ops listed i&&(match ops[i]? with | some o=>pureOp o.op | none=>false)&&pureTreeB ops F os is (listed.setIfInBounds i true)
def ptreeB(ops:Array Oper)(ps:List Nat)(F:Nat)(os:List (List Nat)):Bool:=
 Region.noSelect ops&&decide (ps.length+F=ops.size)&&pureTreeB ops F os ps (Array.replicate ops.size false)
section
variable {P:Program} {nro n base:Nat} {γ:Nat→Option Nat} {m:List Ent} {H:AH} {α:Fm} {a:Act} {w:World} {Q:Exit→Fm→AH→Prop} {ops:Array Oper}
theorem tree_runG{l:List Oper}(hl:l.toArray=ops)(hok:okL n γ l=true){K:Fm→AH→Prop}{w0:World}{m0:List Ent}{Q':Exit→Act→World→Prop}(hK:∀m α H a w,m0 <+: m→Rel nro base γ m H w→FR n m α a→Below base w0 w→K α H→Q' .normal a w):∀ (f:Nat) (listed:Array Bool) (os:List (List Nat)) (α:Fm) (H:AH) (m:List Ent) (w:World) (a:Act),
  ordersB ops f listed os=true→XO P nro n γ ops K l f os α H→m0 <+: m→Rel nro base γ m H w→FR n m α a→Below base w0 w→wpAny P .any ops Q' f listed a w
 | 0,listed,os,α,H,m,w,a,hB,h,hm,hR,hF,hb=>by
  simp only [ordersB,Bool.and_eq_true,List.contains_iff_mem,List.isEmpty_iff]at hB
  exact⟨hB.1,hK m α H a w hm hR hF hb h⟩
 | f+1,listed,os,α,H,m,w,a,hB,h,hm,hR,hF,hb=>by
  simp only [ordersB,Bool.and_eq_true]at hB
  refine⟨fun h0=>(by rw [h0]at hB;simp at hB),fun i hi=>?_⟩
  have hBi:=alT.1 hB.2 i hi
  obtain⟨_,o,ho,_⟩:=mem_ready.1 hi
  have hli:l[i]?=some o:=by rw [←ho,←hl];simp
  have hmem:=moG hli
  have hoko:o.op.operands.all (okOpd n γ)=true:=alT.1 hok o hmem
  obtain⟨r0,hr0⟩:=orders_ne f _ _ hBi
  have hstep:XLk P nro γ (step1 P nro n γ ops o α H) o.dst α H (XO P nro n γ ops K l f (behind i os)):=by
   have:=h i (headsO_mem (behind_mem hr0))
   rw [hli]at this
   exact this
  rw [step1_eq]at hstep
  unfold wpOp
  simp only [ho]
  have fin:∀ (v:Value) (v':Value) (m':List Ent) (H':AH) (w':World),m <+: m'→V m' v v'→Rel nro base γ m' H' w'→Below base w w'→XO P nro n γ ops K l f (behind i os) (α.put o.dst v) H' →
    wpAny P .any ops Q' f (listed.setIfInBounds i true) (a.put o.dst v') w':=fun v v' m' H' w' h1 h2 h3 h4 h5=>
   tree_runG hl hok hK f _ _ _ _ m' w' _ hBi h5 (hm.trans h1) h3 ((hF.mono h1).put h2) (hb.trans h4)
  cases hw:wantedA ops n α o with
  | none=>rw [hw]at hstep;exact hstep.elim
  | some b=>
   rw [wantedA_spec hF hw]
   cases b with
   | false=>
    simp only [Bool.false_eq_true,if_false]
    rw [hw]at hstep
    exact fin undef undef m H w List.prefix_rfl (plainV_mk plainV_undef) hR (.refl _ _) hstep
   | true=>
    rw [hw,stepW_t]at hstep
    simp only [if_true]
    refine .inl ?_
    unfold Oper.wp
    cases hc:calleeOf γ α o.op with
    | some c=>
     obtain⟨cf,cargs⟩:=c
     rw [hc,stepC_s,XLk_call]at hstep
     obtain⟨hcal,hac⟩:=hstep
     obtain⟨xs,ts,hop,rfl⟩:=callee_ops hc
     have hxs:xs.all (okOpd n γ)=true:=by
      have:=hoko
      rw [hop]at this
      rw [Array.all_eq_true]at this ⊢
      intro i hi
      have:=this (i+1) (by simp [Op.operands,Call.operands];omega)
      simpa [Op.operands,Call.operands,Array.getElem_append] using this
     obtain⟨h1,h2⟩:=args_rel hR hF hxs
     rcases hac m base w (xs.map a.eval) hR h1 h2 with ⟨hbd,hac'⟩ | ⟨v0,hrun,m',v,v',H',he,hm',hv,hR',hb',hx⟩
     ·rw [call_run hop hcal hbd,Oper.upon_enter]
      refine hac'.mono ?_
      rintro e w' ⟨m',v,v',H',rfl,hm',hv,hR',hb',hx⟩
      exact fin v v' m' H' w' hm' hv hR' hb' hx
     ·cases he
      rw [call_runV hop hrun,Oper.upon_value]
      exact fin v v0 m' H' w hm' hv hR' hb' hx
    | none=>
     rw [hc,stepC_n]at hstep
     cases hxo:xop P nro γ o.op α H with
     | none=>
      rw [hxo,stepX_n]at hstep
      cases hcx:calleeX P γ α o.op with
      | none=>rw [hcx]at hstep;exact hstep.elim
      | some c=>
       obtain⟨cf,cargs⟩:=c
       rw [hcx,stepN_s,XLk_call]at hstep
       obtain⟨hcal,hac⟩:=hstep
       obtain⟨args',h1,h2,hrun1,hrun2⟩:=calleeX_run (P:=P) hR hF hoko hcx
       rcases hac m base w args' hR h1 h2 with ⟨hbd,hac'⟩ | ⟨v0,hrun,m',v,v',H',he,hm',hv,hR',hb',hx⟩
       ·rw [hrun1 hcal hbd,Oper.upon_enter]
        refine hac'.mono ?_
        rintro e w' ⟨m',v,v',H',rfl,hm',hv,hR',hb',hx⟩
        exact fin v v' m' H' w' hm' hv hR' hb' hx
       ·cases he
        rw [hrun2 v0 hrun,Oper.upon_value]
        exact fin v v0 m' H' w hm' hv hR' hb' hx
     | some vH=>
      obtain⟨v,H'⟩:=vH
      rw [hxo,stepX_s,XLk_val]at hstep
      obtain⟨m',x,w',v',h1,h2,h3,h4,h5,h6⟩:=xop_av hoko hxo m base w a hR hF
      rw [h1]
      rcases h2 with rfl | ⟨rfl,rfl⟩
      ·exact fin v v' m' H' w' h3 h4 h5 h6 hstep
      ·exact fin v undef m' H' w' h3 h4 h5 h6 hstep
theorem SL.sound_pureT{F:Nat}{os:List (List Nat)}{l:List Oper}(hl:l.toArray=ops)(hok:okL n γ l=true){Qk:Fm→Prop}{Q':Exit→Act→World→Prop}(hQ:∀c a w,¬ Q' (.panic c) a w)(hsel:Region.noSelect ops=true)
  (hR:Rel nro base γ m H w) (hK:∀a α listed,FR n m α a→ordersB ops F listed os=true→Qk α→wpAny P .any ops Q' F listed a w) :
  ∀ (ps:List Nat) (listed:Array Bool) (α:Fm) (a:Act),pureTreeB ops F os ps listed=true→FR n m α a→SL P n γ ops Qk H (sel l ps) α→wpAny P .any ops Q' (ps.length+F) listed a w
 | [],listed,α,a,hB,hF,h=>by
  simp only [List.length_nil,Nat.zero_add]
  exact hK a α listed hF hB h
 | i::ps,listed,α,a,hB,hF,h=>by
  simp only [pureTreeB,Bool.and_eq_true]at hB
  obtain⟨⟨⟨hr,hf⟩,hp⟩,hB'⟩:=hB
  have hr':i∈Region.ready .any ops listed:=by simpa using hr
  obtain⟨_,oi,hoi,_⟩:=mem_ready.1 hr'
  have hli:l[i]?=some oi:=by rw [←hoi,←hl];simp
  simp only [hoi]at hp
  have hoki:oi.op.operands.all (okOpd n γ)=true:=by
   have:=alT.1 hok oi (moG hli)
   exact this
  simp only [sel,hli]at h
  unfold SL at h
  rw [show (i::ps).length+F=(ps.length+F)+1 by simp;omega]
  split at h
  ·exact h.elim
  ·rename_i hw
   have hwt:=wantedA_spec hF hw
   exact wpAny_take hoi hsel hf hr (fun c a w h=>absurd h (hQ c _ w)) (.inr ⟨hwt,rfl⟩) (SL.sound_pureT hl hok hQ hsel hR hK ps _ _ _ hB' (hF.put (plainV_mk plainV_undef)) h)
  ·rename_i hw
   have hwt:=wantedA_spec hF hw
   split at h
   ·rename_i v hx
    obtain⟨v',h1,h2⟩:=xread_all hp hoki hx hR hF
    exact wpAny_take hoi hsel hf hr (fun c a w h=>absurd h (hQ c _ w)) (.inl ⟨hwt,h2⟩) (SL.sound_pureT hl hok hQ hsel hR hK ps _ _ _ hB' (hF.put h1) h)
   ·exact h.elim
theorem aw_ptree{id:Nat}{l:List Oper}(ps:List Nat)(F:Nat)(os:List (List Nat))(hm:P.follows .mixedOrders=true)(hB:ptreeB l.toArray ps F os=true)(hok:okL n γ l=true)
  (h:∀K:Fm→AH→Prop,(∀α' H',Q .normal α' H'→K α' H')→SL P n γ l.toArray (fun α1=>XO P nro n γ l.toArray K l F os α1 H) H (sel l ps) α) :
  AW P nro n γ (.region id l.toArray true) Q α H:=by
 intro m base w a hR hF
 simp only [ptreeB,Bool.and_eq_true,decide_eq_true_eq]at hB
 obtain⟨⟨hsel,hn⟩,hpt⟩:=hB
 refine wp_region_noPanic (wp_region_any hm ?_)
 have hR':Rel nro base γ m H { w with drawn:=w.drawn+1 }:=hR.drewN 1
 rw [←hn]at hpt ⊢
 refine SL.sound_pureT rfl hok (fun c a w h=>h) hsel hR' (fun a1 α1 listed1 hF1 hst hq=>?_) ps _ α a hpt hF (h _ fun _ _ h=>h)
 exact tree_runG rfl hok (w0:={ w with drawn:=w.drawn+1 }) (m0:=m) (fun m' α' H' a' w' h1 h2 h3 h4 h5=>NoPanic.normal ⟨m',α',H',h1,h2,h3,(Below.drew (.refl base w)).trans h4,h5⟩) F listed1 os α1 H m _ a1 hst hq List.prefix_rfl hR' hF1 (.refl _ _)
end
end
section
def XOm(P:Program)(nro n:Nat)(γ:Nat→Option Nat)(ops:Array Oper)(l:List Oper)(i:Nat)(α:Fm)(G:AH)(k:Fm→AH→Prop):Prop:=match l[i]? with
 | none=>False
 | some o=>XLk P nro γ (step1 P nro n γ ops o α G) o.dst α G k
def depB(ops:Array Oper)(D:List (List Nat)):Bool:=(List.range ops.size).all fun i=>match ops[i]? with
 | none=>false
 | some o=>((D.getD i []).all fun d=>o.after.toList.any fun e=>decide (e.on=d)&&Region.binds .any e)&&o.after.toList.all fun e=>!(Region.binds .any e)||decide (e.on<i)
theorem depB_dep{ops:Array Oper}{D:List (List Nat)}(h:depB ops D=true){i:Nat}{o:Oper}(ho:ops[i]?=some o):(∀d∈D.getD i [],∃e∈o.after,e.on=d∧Region.binds .any e=true)∧∀e∈o.after,Region.binds .any e=true→e.on<i:=by
 have hi:i<ops.size:=(asI.1 ho).1
 have:=alT.1 h i (List.mem_range.2 hi)
 rw [ho]at this
 simp only [Bool.and_eq_true]at this
 refine⟨fun d hd=>?_,fun e he hb=>?_⟩
 ·obtain⟨e,he,h2⟩:=List.any_eq_true.1 (alT.1 this.1 d hd)
  simp only [Bool.and_eq_true,decide_eq_true_eq]at h2
  exact⟨e,by simpa using he,h2.1,h2.2⟩
 ·have:=alT.1 this.2 e (by simpa using he)
  rw [hb]at this
  simpa using this
def left(s:Array Bool):Nat:=s.toList.count false
theorem left_set{s:Array Bool}{i:Nat}(h:s.getD i true=false):left (s.setIfInBounds i true)+1=left s:=by
 have hi:i<s.size:=by
  by_cases e:i<s.size
  ·exact e
  ·rw [agD,Array.getElem?_eq_none (by omega)]at h
   cases h
 have hg:s.toList[i]?=some false:=by
  rw [agD,Array.getElem?_eq_getElem hi]at h
  rw [Array.getElem?_toList,Array.getElem?_eq_getElem hi]
  exact congrArg some h
 unfold left
 rw [Array.toList_setIfInBounds]
 have:∀ (l:List Bool) (i:Nat),l[i]?=some false→(l.set i true).count false+1=l.count false:=by
  intro l
  induction l with
  | nil=>intro i h;cases h
  | cons x l ih=>
   intro i h
   cases i with
   | zero=>cases h;simp
   | succ i=>
    have:=ih i h
    rw [List.set_cons_succ,List.count_cons,List.count_cons]
    omega
 exact this _ _ hg
theorem left_zero{s:Array Bool}(h:left s=0):∀i,s.getD i true=true:=fun i=>by
 cases hg:s.getD i true with
 | true=>rfl
 | false=>have:=left_set hg;omega
theorem least_out{s:Array Bool}(h:0<left s):∃i,s.getD i true=false∧∀j,j<i→s.getD j false=true:=by
 have hex:∃i,s.getD i true=false:=by
  by_cases e:∃i,s.getD i true=false
  ·exact e
  ·exfalso
   have hall:∀x∈s.toList,x=true:=fun x hx=>by
    obtain⟨i,hi,rfl⟩:=List.mem_iff_getElem.1 hx
    cases hb:s.toList[i] with
    | true=>rfl
    | false=>
     refine absurd ⟨i,?_⟩ e
     have hi':i<s.size:=by simpa using hi
     rw [agD,Array.getElem?_eq_getElem hi']
     simpa using hb
   have:s.toList.count false=0:=List.count_eq_zero.2 (fun hm=>by have:=hall false hm;cases this)
   unfold left at h
   omega
 have:∀n,(∃i,i<n∧s.getD i true=false)→∃i,s.getD i true=false∧∀j,j<i→s.getD j true≠false:=by
  intro n
  induction n with
  | zero=>rintro⟨i,hi,_⟩;omega
  | succ n ih=>
   rintro⟨i,hi,hg⟩
   by_cases e:∃j,j<n∧s.getD j true=false
   ·exact ih e
   ·exact⟨i,hg,fun j hj hgj=>e ⟨j,by omega,hgj⟩⟩
 obtain⟨i,hi⟩:=hex
 obtain⟨k,hk,hlt⟩:=this (i+1) ⟨i,by omega,hi⟩
 refine⟨k,hk,fun j hj=>?_⟩
 have hks:k<s.size:=by
  by_cases e:k<s.size
  ·exact e
  ·rw [agD,Array.getElem?_eq_none (by omega)]at hk
   cases hk
 have:=hlt j hj
 rw [agD,Array.getElem?_eq_getElem (by omega)]at this ⊢
 simpa using this
theorem gd_tf{s:Array Bool}{i:Nat}(h:i<s.size):s.getD i true=s.getD i false:=by
 rw [agD,agD,Array.getElem?_eq_getElem h];rfl
section
variable {P:Program} {nro n base:Nat} {γ:Nat→Option Nat} {m:List Ent} {H:AH} {α:Fm} {a:Act} {w:World} {Q:Exit→Fm→AH→Prop} {ops:Array Oper}
theorem inv_run{l:List Oper}(hl:l.toArray=ops)(hok:okL n γ l=true){D:List (List Nat)}(hD:depB ops D=true){J:Array Bool→Fm→AH→Prop}
  (hs:∀ (i:Nat) (s:Array Bool) (α:Fm) (G:AH) (k:Fm→AH→Prop),J s α G→i<ops.size→s.getD i false=false→(∀d∈D.getD i [],s.getD d false=true)→(∀j,i∈D.getD j []→s.getD j false=false)→(∀α' G',J (s.setIfInBounds i true) α' G'→k α' G')→XOm P nro n γ ops l i α G k)
  (hK:∀ (s:Array Bool) (α:Fm) (G:AH),J s α G→s.all id=true→Q .normal α G) {w0:World} {m0:List Ent}:∀ (f:Nat) (listed:Array Bool) (α:Fm) (H:AH) (m:List Ent) (w:World) (a:Act),
  listed.size=ops.size→left listed=f→(∀j,listed.getD j false=true→∀d∈D.getD j [],listed.getD d false=true)→J listed α H→m0 <+: m→Rel nro base γ m H w→FR n m α a→Below base w0 w→wpAny P .any ops (Con nro n γ m0 base w0 Q) f listed a w
 | 0,listed,α,H,m,w,a,hsz,hlf,hcl,h,hm,hR,hF,hb=>by
  have hz:=left_zero hlf
  refine⟨?_,m,α,H,hm,hR,hF,hb,hK _ _ _ h ?_⟩
  ·refine List.eq_nil_iff_forall_not_mem.2 fun j hj=>?_
   have:=(mem_ready.1 hj).1
   rw [hz j]at this
   cases this
  ·rw [Array.all_eq_true]
   intro i hi
   have:=hz i
   rw [agD,Array.getElem?_eq_getElem hi]at this
   exact this
 | f+1,listed,α,H,m,w,a,hsz,hlf,hcl,h,hm,hR,hF,hb=>by
  refine⟨fun h0=>?_,fun i hi=>?_⟩
  ·obtain⟨j,hj,hlt⟩:=least_out (s:=listed) (by omega)
   have hjs:j<ops.size:=by
    by_cases e:j<listed.size
    ·omega
    ·rw [agD,Array.getElem?_eq_none (by omega)]at hj
     cases hj
   have hoj:ops[j]?=some ops[j]:=Array.getElem?_eq_getElem hjs
   have:j∈Region.ready .any ops listed:=mem_ready.2 ⟨hj,_,hoj,fun e he hb=>hlt _ ((depB_dep hD hoj).2 e he hb)⟩
   rw [h0]at this
   cases this
  obtain⟨hni,o,ho,hwait⟩:=mem_ready.1 hi
  have hio:i<ops.size:=(asI.1 ho).1
  have hni2:listed.getD i false=false:=by rw [←gd_tf (by omega)];exact hni
  have hdi:∀d∈D.getD i [],listed.getD d false=true:=fun d hd=>by
   obtain⟨e,he,rfl,hb⟩:=(depB_dep hD ho).1 d hd
   exact hwait e he hb
  have hci:∀j,i∈D.getD j []→listed.getD j false=false:=fun j hj=>by
   cases hg:listed.getD j false with
   | false=>rfl
   | true=>rw [hcl j hg i hj]at hni2;cases hni2
  have hcl2:∀j,(listed.setIfInBounds i true).getD j false=true→∀d∈D.getD j [],(listed.setIfInBounds i true).getD d false=true:=fun j hj d hd=>by
   have up:∀q,listed.getD q false=true→(listed.setIfInBounds i true).getD q false=true:=fun q hq=>by
    by_cases e:i=q
    ·subst e;rw [hq]at hni2;cases hni2
    ·rw [agD,Array.getElem?_setIfInBounds_ne e,←agD];exact hq
   by_cases e:i=j
   ·subst e
    exact up d (hdi d hd)
   ·rw [agD,Array.getElem?_setIfInBounds_ne e,←agD]at hj
    exact up d (hcl j hj d hd)
  have hli:l[i]?=some o:=by rw [←ho,←hl];simp
  have hmem:=moG hli
  have hoko:o.op.operands.all (okOpd n γ)=true:=alT.1 hok o hmem
  have hstep:=hs i listed α H (fun α' H'=>J (listed.setIfInBounds i true) α' H') h hio hni2 hdi hci (fun _ _ h=>h)
  unfold XOm at hstep
  rw [hli]at hstep
  simp only at hstep
  rw [step1_eq]at hstep
  unfold wpOp
  simp only [ho]
  have fin:∀ (v:Value) (v':Value) (m':List Ent) (H':AH) (w':World),m <+: m'→V m' v v'→Rel nro base γ m' H' w'→Below base w w'→J (listed.setIfInBounds i true) (α.put o.dst v) H' →
    wpAny P .any ops (Con nro n γ m0 base w0 Q) f (listed.setIfInBounds i true) (a.put o.dst v') w':=fun v v' m' H' w' h1 h2 h3 h4 h5=>
   inv_run hl hok hD hs hK f _ _ _ m' w' _ (by simpa using hsz) (by have:=left_set hni;omega) hcl2 h5 (hm.trans h1) h3 ((hF.mono h1).put h2) (hb.trans h4)
  cases hw:wantedA ops n α o with
  | none=>rw [hw]at hstep;exact hstep.elim
  | some b=>
   rw [wantedA_spec hF hw]
   cases b with
   | false=>
    simp only [Bool.false_eq_true,if_false]
    rw [hw]at hstep
    exact fin undef undef m H w List.prefix_rfl (plainV_mk plainV_undef) hR (.refl _ _) hstep
   | true=>
    rw [hw,stepW_t]at hstep
    simp only [if_true]
    refine .inl ?_
    unfold Oper.wp
    cases hc:calleeOf γ α o.op with
    | some c=>
     obtain⟨cf,cargs⟩:=c
     rw [hc,stepC_s,XLk_call]at hstep
     obtain⟨hcal,hac⟩:=hstep
     obtain⟨xs,ts,hop,rfl⟩:=callee_ops hc
     have hxs:xs.all (okOpd n γ)=true:=by
      have:=hoko
      rw [hop]at this
      rw [Array.all_eq_true]at this ⊢
      intro i hi
      have:=this (i+1) (by simp [Op.operands,Call.operands];omega)
      simpa [Op.operands,Call.operands,Array.getElem_append] using this
     obtain⟨h1,h2⟩:=args_rel hR hF hxs
     rcases hac m base w (xs.map a.eval) hR h1 h2 with ⟨hbd,hac'⟩ | ⟨v0,hrun,m',v,v',H',he,hm',hv,hR',hb',hx⟩
     ·rw [call_run hop hcal hbd,Oper.upon_enter]
      refine hac'.mono ?_
      rintro e w' ⟨m',v,v',H',rfl,hm',hv,hR',hb',hx⟩
      exact fin v v' m' H' w' hm' hv hR' hb' hx
     ·cases he
      rw [call_runV hop hrun,Oper.upon_value]
      exact fin v v0 m' H' w hm' hv hR' hb' hx
    | none=>
     rw [hc,stepC_n]at hstep
     cases hxo:xop P nro γ o.op α H with
     | none=>
      rw [hxo,stepX_n]at hstep
      cases hcx:calleeX P γ α o.op with
      | none=>rw [hcx]at hstep;exact hstep.elim
      | some c=>
       obtain⟨cf,cargs⟩:=c
       rw [hcx,stepN_s,XLk_call]at hstep
       obtain⟨hcal,hac⟩:=hstep
       obtain⟨args',h1,h2,hrun1,hrun2⟩:=calleeX_run (P:=P) hR hF hoko hcx
       rcases hac m base w args' hR h1 h2 with ⟨hbd,hac'⟩ | ⟨v0,hrun,m',v,v',H',he,hm',hv,hR',hb',hx⟩
       ·rw [hrun1 hcal hbd,Oper.upon_enter]
        refine hac'.mono ?_
        rintro e w' ⟨m',v,v',H',rfl,hm',hv,hR',hb',hx⟩
        exact fin v v' m' H' w' hm' hv hR' hb' hx
       ·cases he
        rw [hrun2 v0 hrun,Oper.upon_value]
        exact fin v v0 m' H' w hm' hv hR' hb' hx
     | some vH=>
      obtain⟨v,H'⟩:=vH
      rw [hxo,stepX_s,XLk_val]at hstep
      obtain⟨m',x,w',v',h1,h2,h3,h4,h5,h6⟩:=xop_av hoko hxo m base w a hR hF
      rw [h1]
      rcases h2 with rfl | ⟨rfl,rfl⟩
      ·exact fin v v' m' H' w' h3 h4 h5 h6 hstep
      ·exact fin v undef m' H' w' h3 h4 h5 h6 hstep
theorem aw_inv{rid:Nat}{l:List Oper}(D:List (List Nat))(J:Array Bool→Fm→AH→Prop)(hm:P.follows .mixedOrders=true)(hB:depB l.toArray D=true)(hok:okL n γ l=true)
  (h0:J (Array.replicate l.length false) α H)
  (hs:∀ (i:Nat) (s:Array Bool) (α:Fm) (G:AH) (k:Fm→AH→Prop),J s α G→i<l.toArray.size→s.getD i false=false→(∀d∈D.getD i [],s.getD d false=true)→(∀j,i∈D.getD j []→s.getD j false=false)→(∀α' G',J (s.setIfInBounds i true) α' G'→k α' G')→XOm P nro n γ l.toArray l i α G k)
  (hK:∀ (s:Array Bool) (α:Fm) (G:AH),J s α G→s.all id=true→Q .normal α G):AW P nro n γ (.region rid l.toArray true) Q α H:=by
 intro m base w a hR hF
 refine wp_region_any hm ?_
 have h00:∀j,(Array.replicate l.length false).getD j false=false:=fun j=>by
  rw [agD,Array.getElem?_replicate]
  split <;> rfl
 have:=inv_run (P:=P) (Q:=Q) (ops:=l.toArray) rfl hok hB hs hK (w0:=w) (m0:=m) l.length (Array.replicate l.length false) α H m { w with drawn:=w.drawn+1 } a (by simp) (by unfold left;simp) (fun j hj=>by rw [h00 j]at hj;cases hj) h0 List.prefix_rfl (hR.drewN 1) hF (Below.drew (.refl base w))
 simpa using this
end
theorem name_aw{P:Program}{nro n:Nat}{γ:Nat→Option Nat}{c:Code}{Q:Exit→Fm→AH→Prop}{α:Fm}{H:AH}(h:∀β:Fm,β=α→AW P nro n γ c Q β H):AW P nro n γ c Q α H:=h α rfl
end
section
theorem sg0(n i:Nat):(Array.replicate n false).getD i false=false:=by
 rw [agD,Array.getElem?_replicate]
 split <;> rfl
theorem sgE{s:Array Bool}{i:Nat}(h:i<s.size):(s.setIfInBounds i true).getD i false=true:=by
 rw [agD,Array.getElem?_setIfInBounds_self_of_lt h];rfl
theorem sgN{s:Array Bool}{i j:Nat}(h:i≠j):(s.setIfInBounds i true).getD j false=s.getD j false:=by
 rw [agD,Array.getElem?_setIfInBounds_ne h,←agD]
structure Slot where
 a:Option Nat
 t:Nat
 st:Nat
 z:List Value
 ty:TypeId
 c:AH→List Nat→List Value→Prop
def StV(n:Nat)(VP:AH→List Nat→Nat→Value→Prop):Prop:=∀ (G G':AH) (X X':List Nat) (i:Nat) (v:Value),G.length≤G'.length→(∀j,j<n→hget G' j=hget G j)→(∀j∈X,j∈X'∧hget G' j=hget G j)→VP G X i v→VP G' X' i v
def StC(n:Nat)(c:AH→List Nat→List Value→Prop):Prop:=∀ (G G':AH) (X X':List Nat) (cs:List Value),G.length≤G'.length→(∀j,j<n→hget G' j=hget G j)→(∀j∈X,j∈X'∧hget G' j=hget G j)→c G X cs→c G' X' cs
structure ObjK (n:Nat) (O:Array Bool→List Nat→AH→Prop) (calls:List Nat):Prop where
 lo:∀s Y G,O s Y G→n≤G.length∧∀j∈Y,n≤j∧j<G.length
 plain:∀s Y G i,i∉calls→O s Y G→O (s.setIfInBounds i true) Y G
 push:∀s Y G b,O s Y G→O s (G.length::Y) (G++[b])
 set:∀s Y G r b,r∈Y→O s Y G→O s Y (G.set r b)
def al(s:Array Bool)(k:Slot):Bool:=match k.a with | some a=>s.getD a false | none=>true
structure JK (n:Nat) (ds:List (Option Nat)) (D:List (List Nat)) (VP:AH→List Nat→Nat→Value→Prop) (sl:List Slot) (O:Array Bool→List Nat→AH→Prop) (β:Fm) (S:List Nat) (B:AH) (X Y:List Nat) (rs:Nat→Nat) (s:Array Bool) (α:Fm) (G:AH):Prop where
 sz:s.size=ds.length
 cl:∀j,s.getD j false=true→∀d∈D.getD j [],s.getD d false=true
 lo:∀t,some t∉ds→α t=β t
 o:O s Y G
 xy:∀j∈X,j∈Y
 ss:∀j∈S,j∈X∧hget G j=hget B j
 low:∀j,j<n→hget G j=hget B j
 le:B.length≤G.length
 val:∀i t,ds[i]?=some (some t)→s.getD i false=true→VP G X i (α t)
 sla:∀k sk,sl[k]?=some sk→al s sk=true→α sk.t=.pointer (some ⟨rs k,0,none⟩)∧rs k∈Y∧rs k∉X∧∃cs,hget G (rs k)=some ⟨cs,sk.ty,none⟩∧(if s.getD sk.st false=true then sk.c G X cs else cs=sk.z)
 ne:∀k k' sk sk',sl[k]?=some sk→sl[k']?=some sk'→k≠k'→al s sk=true→al s sk'=true→rs k≠rs k'
def JkE(n:Nat)(ds:List (Option Nat))(D:List (List Nat))(VP:AH→List Nat→Nat→Value→Prop)(sl:List Slot)(O:Array Bool→List Nat→AH→Prop)(β:Fm)(S:List Nat)(B:AH)(s:Array Bool)(α:Fm)(G:AH):Prop:=∃X Y rs,JK n ds D VP sl O β S B X Y rs s α G
def shapeK(ds:List (Option Nat))(sl:List Slot)(calls:List Nat):Bool:=
 ((List.range ds.length).all fun i=>(List.range ds.length).all fun j=>i==j||(ds.getD i none).isNone||ds.getD i none != ds.getD j none) &&
 (sl.all fun k=>(match k.a with | some a=>ds.getD a none==some k.t&&a != k.st&&decide (a<ds.length)&&!calls.contains a | none=>!ds.contains (some k.t))&&decide (k.st<ds.length)&&ds.getD k.st none==none&&!calls.contains k.st) &&
 ((List.range sl.length).all fun i=>(List.range sl.length).all fun j=>i==j||match sl[i]?,sl[j]? with | some x,some y=>(x.a.isNone||x.a != y.a)&&x.st != y.st&&x.a != some y.st&&x.t != y.t | _,_=>true)
section
variable {n:Nat} {ds:List (Option Nat)} {D:List (List Nat)} {VP:AH→List Nat→Nat→Value→Prop} {sl:List Slot} {O:Array Bool→List Nat→AH→Prop} {calls:List Nat} {β:Fm} {S:List Nat} {B:AH} {X Y:List Nat} {rs:Nat→Nat} {s:Array Bool} {α:Fm} {G G':AH}
theorem shape_nd(h:shapeK ds sl calls=true){i j t:Nat}(hi:ds[i]?=some (some t))(hj:ds[j]?=some (some t)):i=j:=by
 simp only [shapeK,Bool.and_eq_true]at h
 have il:=(gsI.1 hi).1
 have jl:=(gsI.1 hj).1
 have:=alT.1 (alT.1 h.1.1 i (List.mem_range.2 il)) j (List.mem_range.2 jl)
 have e1:ds.getD i none=some t:=by rw [gdD,hi];rfl
 have e2:ds.getD j none=some t:=by rw [gdD,hj];rfl
 rw [e1,e2]at this
 simpa using this
theorem shape_sl(h:shapeK ds sl calls=true){k:Slot}(hk:k∈sl):(∀a,k.a=some a→ds[a]?=some (some k.t)∧a≠k.st∧a∉calls)∧(k.a=none→some k.t∉ds)∧ds[k.st]?=some none∧k.st∉calls:=by
 simp only [shapeK,Bool.and_eq_true]at h
 have:=alT.1 h.1.2 k hk
 simp only [Bool.and_eq_true,beq_iff_eq,decide_eq_true_eq,Bool.not_eq_true',List.contains_eq_mem,decide_eq_false_iff_not]at this
 obtain⟨⟨⟨h1,h4⟩,h5⟩,h7⟩:=this
 refine⟨fun a e=>?_,fun e=>?_,?_,h7⟩
 ·rw [e]at h1
  simp only [Bool.and_eq_true,beq_iff_eq,bne_iff_ne,decide_eq_true_eq,Bool.not_eq_true',List.contains_eq_mem,decide_eq_false_iff_not]at h1
  obtain⟨⟨⟨k1,k2⟩,k3⟩,k4⟩:=h1
  refine⟨?_,k2,k4⟩
  rw [geE k3]
  rw [gdD,geE k3]at k1
  simpa using k1
 ·rw [e]at h1
  simpa using h1
 ·rw [geE h4]
  rw [gdD,geE h4]at h5
  simpa using h5
theorem shape_two(h:shapeK ds sl calls=true){i j:Nat}{x y:Slot}(hi:sl[i]?=some x)(hj:sl[j]?=some y)(hne:i≠j):(∀a,x.a=some a→y.a≠some a)∧x.st≠y.st∧x.a≠some y.st∧x.t≠y.t:=by
 simp only [shapeK,Bool.and_eq_true]at h
 have il:=(gsI.1 hi).1
 have jl:=(gsI.1 hj).1
 have:=alT.1 (alT.1 h.2 i (List.mem_range.2 il)) j (List.mem_range.2 jl)
 rw [hi,hj]at this
 simp only [Bool.or_eq_true,beq_iff_eq,hne,false_or,Bool.and_eq_true,bne_iff_ne]at this
 refine⟨fun a e e2=>?_,this.1.1.2,this.1.2,this.2⟩
 rcases this.1.1.1 with h | h
 ·rw [e]at h;cases h
 ·exact h (e.trans e2.symm)
theorem al_ne{i:Nat}{sk:Slot}(h:sk.a≠some i):al (s.setIfInBounds i true) sk=al s sk:=by
 unfold al
 cases e:sk.a with
 | none=>rfl
 | some a=>exact sgN (fun e2=>h (by rw [e,e2]))
theorem al_0{sk:Slot}(h:al (Array.replicate n false) sk=true):sk.a=none:=by
 unfold al at h
 cases e:sk.a with
 | none=>rfl
 | some a=>
  rw [e]at h
  simp only [sg0]at h
  cases h
theorem cl_set(h:∀j,s.getD j false=true→∀d∈D.getD j [],s.getD d false=true){i:Nat}(hd:∀d∈D.getD i [],s.getD d false=true):∀j,(s.setIfInBounds i true).getD j false=true→∀d∈D.getD j [],(s.setIfInBounds i true).getD d false=true:=by
 have up:∀q,s.getD q false=true→(s.setIfInBounds i true).getD q false=true:=fun q hq=>by
  by_cases e:i=q
  ·subst e
   have hlt:i<s.size:=by
    rcases Nat.lt_or_ge i s.size with h | h
    ·exact h
    ·rw [agD,Array.getElem?_eq_none h]at hq;cases hq
   exact sgE hlt
  ·rw [sgN e];exact hq
 intro j hj d hdj
 by_cases e:i=j
 ·subst e
  exact up d (hd d hdj)
 ·rw [sgN e]at hj
  exact up d (h j hj d hdj)
theorem JK.start(hO:O (Array.replicate ds.length false) Y B)(hS:∀j∈S,j∈Y)(rs:Nat→Nat)
  (h1:∀k sk,sl[k]?=some sk→sk.a=none→β sk.t=.pointer (some ⟨rs k,0,none⟩)∧rs k∈Y∧rs k∉S∧hget B (rs k)=some ⟨sk.z,sk.ty,none⟩)
  (h2:∀ (k k':Nat) (sk sk':Slot),sl[k]?=some sk→sl[k']?=some sk'→k≠k'→sk.a=none→sk'.a=none→rs k≠rs k'):JkE n ds D VP sl O β S B (Array.replicate ds.length false) β B:=
 ⟨S,Y,rs,by simp,fun j hj=>(by rw [sg0]at hj;cases hj),fun _ _=>rfl,hO,hS,fun j hj=>⟨hj,rfl⟩,fun _ _=>rfl,nlE _,fun i t _ h=>(by rw [sg0]at h;cases h),fun k sk hk h=>by
  obtain⟨w1,w2,w3,w4⟩:=h1 k sk hk (al_0 h)
  exact⟨w1,w2,w3,sk.z,w4,by rw [sg0];rfl⟩,fun k k' sk sk' hk hk' hne ha ha'=>h2 k k' sk sk' hk hk' hne (al_0 ha) (al_0 ha')⟩
theorem slot_ne(h:shapeK ds sl calls=true){k:Nat}{sk:Slot}(hk:sl[k]?=some sk){i t:Nat}(hi:ds[i]?=some (some t))(hia:sk.a≠some i):sk.t≠t∧i≠sk.st:=by
 obtain⟨h1,h2,h3,_⟩:=shape_sl h (moG hk)
 refine⟨fun e=>?_,fun e=>by rw [e,h3]at hi;cases hi⟩
 cases e2:sk.a with
 | none=>exact h2 e2 (e▸moG hi)
 | some a=>
  have:=shape_nd h hi (e▸(h1 a e2).1)
  exact hia (by rw [e2,this])
theorem JK.plain(h:JK n ds D VP sl O β S B X Y rs s α G)(hsh:shapeK ds sl calls=true)(hob:ObjK n O calls){i t:Nat}{v:Value}(hi:ds[i]?=some (some t))(hic:i∉calls)(hia:∀k∈sl,k.a≠some i)(hv:VP G X i v)(hd:∀d∈D.getD i [],s.getD d false=true):JK n ds D VP sl O β S B X Y rs (s.setIfInBounds i true) (α.put (some t) v) G:=by
 refine⟨by simp [h.sz],cl_set h.cl hd,fun t' ht=>?_,hob.plain _ _ _ _ hic h.o,h.xy,h.ss,h.low,h.le,fun j t' hj hs=>?_,fun k sk hk ha=>?_,fun k k' sk sk' hk hk' hne ha ha'=>?_⟩
 ·have:t'≠t:=fun e=>ht (e▸moG hi)
  rw [←h.lo t' ht]
  simp [put_at,this]
 ·by_cases e:i=j
  ·subst e
   rw [hi]at hj;cases hj
   simpa [put_at] using hv
  ·rw [sgN e]at hs
   have:t'≠t:=fun e2=>e (shape_nd hsh hi (e2▸hj))
   simpa [put_at,this] using h.val j t' hj hs
 ·have hn:=hia sk (moG hk)
  rw [al_ne hn]at ha
  obtain⟨n1,n2⟩:=slot_ne hsh hk hi hn
  rw [sgN n2]
  obtain⟨w1,w2⟩:=h.sla k sk hk ha
  exact⟨by simpa [put_at,n1] using w1,w2⟩
 ·rw [al_ne (hia sk (moG hk))]at ha
  rw [al_ne (hia sk' (moG hk'))]at ha'
  exact h.ne k k' sk sk' hk hk' hne ha ha'
theorem JK.call(h:JK n ds D VP sl O β S B X Y rs s α G)(hsh:shapeK ds sl calls=true)(hst:StV n VP)(hsc:∀k∈sl,StC n k.c){Y' R:List Nat}{i t:Nat}{v:Value}(hO:O (s.setIfInBounds i true) Y' G')(hl:G.length≤G'.length)(hlow:∀j,j<n→hget G' j=hget G j)(hY:∀j∈Y,j∈Y'∧hget G' j=hget G j)(hR:∀j∈R,j∈Y'∧j∉Y)
  (hi:ds[i]?=some (some t)) (hia:∀k∈sl,k.a≠some i) (hv:VP G' (R++X) i v) (hd:∀d∈D.getD i [],s.getD d false=true):JK n ds D VP sl O β S B (R++X) Y' rs (s.setIfInBounds i true) (α.put (some t) v) G':=by
 have hX:∀j∈X,j∈R++X∧hget G' j=hget G j:=fun j hj=>⟨List.mem_append_right _ hj,(hY j (h.xy j hj)).2⟩
 refine⟨by simp [h.sz],cl_set h.cl hd,fun t' ht=>?_,hO,fun j hj=>?_,fun j hj=>?_,fun j hj=>(hlow j hj).trans (h.low j hj),Nat.le_trans h.le hl,fun j t' hj hs=>?_,fun k sk hk ha=>?_,fun k k' sk sk' hk hk' hne ha ha'=>?_⟩
 ·have:t'≠t:=fun e=>ht (e▸moG hi)
  rw [←h.lo t' ht]
  simp [put_at,this]
 ·rcases maP.1 hj with e | e
  ·exact (hR j e).1
  ·exact (hY j (h.xy j e)).1
 ·obtain⟨w1,w2⟩:=h.ss j hj
  exact⟨List.mem_append_right _ w1,(hX j w1).2.trans w2⟩
 ·by_cases e:i=j
  ·subst e
   rw [hi]at hj;cases hj
   simpa [put_at] using hv
  ·rw [sgN e]at hs
   have:t'≠t:=fun e2=>e (shape_nd hsh hi (e2▸hj))
   simpa [put_at,this] using hst G G' X (R++X) j _ hl hlow hX (h.val j t' hj hs)
 ·have hn:=hia sk (moG hk)
  rw [al_ne hn]at ha
  obtain⟨n1,n2⟩:=slot_ne hsh hk hi hn
  rw [sgN n2]
  obtain⟨w1,w2,w3,cs,w4,w5⟩:=h.sla k sk hk ha
  refine⟨by simpa [put_at,n1] using w1,(hY _ w2).1,fun e=>?_,cs,(hY _ w2).2.trans w4,?_⟩
  ·rcases maP.1 e with e | e
   ·exact (hR _ e).2 w2
   ·exact w3 e
  ·split
   ·rename_i hd
    rw [if_pos hd]at w5
    exact hsc sk (moG hk) G G' X (R++X) cs hl hlow hX w5
   ·rename_i hd
    rw [if_neg hd]at w5
    exact w5
 ·rw [al_ne (hia sk (moG hk))]at ha
  rw [al_ne (hia sk' (moG hk'))]at ha'
  exact h.ne k k' sk sk' hk hk' hne ha ha'
theorem JK.alloc(h:JK n ds D VP sl O β S B X Y rs s α G)(hsh:shapeK ds sl calls=true)(hob:ObjK n O calls)(hst:StV n VP)(hsc:∀k∈sl,StC n k.c){k i:Nat}{sk:Slot}(hk:sl[k]?=some sk)(hki:sk.a=some i)(hn:s.getD sk.st false=false)(hv:VP (G++[some (⟨sk.z,sk.ty,none⟩:Blk)]) X i (.pointer (some ⟨G.length,0,none⟩)))(hd:∀d∈D.getD i [],s.getD d false=true) :
  JK n ds D VP sl O β S B X (G.length::Y) (fun q=>if q=k then G.length else rs q) (s.setIfInBounds i true) (α.put (some sk.t) (.pointer (some ⟨G.length,0,none⟩))) (G++[some (⟨sk.z,sk.ty,none⟩:Blk)]):=by
 obtain⟨q0,_,q2,q4⟩:=shape_sl hsh (moG hk)
 obtain⟨hi,q1,q3⟩:=q0 i hki
 obtain⟨hlo1,hlo2⟩:=hob.lo _ _ _ h.o
 have hl:G.length≤(G++[some (⟨sk.z,sk.ty,none⟩:Blk)]).length:=by simp
 have hlow:∀j,j<n→hget (G++[some (⟨sk.z,sk.ty,none⟩:Blk)]) j=hget G j:=fun j hj=>hget_left (by omega)
 have hX:∀j∈X,j∈X∧hget (G++[some (⟨sk.z,sk.ty,none⟩:Blk)]) j=hget G j:=fun j hj=>⟨hj,hget_left (hlo2 j (h.xy j hj)).2⟩
 refine⟨by simp [h.sz],cl_set h.cl hd,fun t' ht=>?_,hob.plain _ _ _ _ q3 (hob.push _ _ _ _ h.o),fun j hj=>List.mem_cons_of_mem _ (h.xy j hj),fun j hj=>?_,fun j hj=>(hlow j hj).trans (h.low j hj),Nat.le_trans h.le hl,fun j t' hj hs=>?_,fun k2 sk2 hk2 ha=>?_,fun k1 k2 sk1 sk2 hk1 hk2 hne ha1 ha2=>?_⟩
 ·have:t'≠sk.t:=fun e=>ht (e▸moG hi)
  rw [←h.lo t' ht]
  simp [put_at,this]
 ·obtain⟨w1,w2⟩:=h.ss j hj
  exact⟨w1,(hX j w1).2.trans w2⟩
 ·by_cases e:i=j
  ·subst e
   rw [hi]at hj;cases hj
   simpa [put_at] using hv
  ·rw [sgN e]at hs
   have:t'≠sk.t:=fun e2=>e (shape_nd hsh hi (e2▸hj))
   simpa [put_at,this] using hst G _ X X j _ hl hlow hX (h.val j t' hj hs)
 ·by_cases e:k2=k
  ·subst e
   rw [hk]at hk2;cases hk2
   refine⟨by simp [put_at],by simp,fun hx=>?_,sk.z,by simp [hget_app0,hget_cons0],?_⟩
   ·have:=(hlo2 _ (h.xy _ hx)).2
    simp at this
   ·rw [sgN q1,hn];rfl
  ·obtain⟨n1,n2,n3,n4⟩:=shape_two hsh hk2 hk e
   obtain⟨m1,m2,m3,m4⟩:=shape_two hsh hk hk2 (Ne.symm e)
   rw [al_ne (m1 i hki)]at ha
   rw [sgN (fun e2=>m3 (by rw [hki,e2]))]
   obtain⟨w1,w2,w3,cs,w4,w5⟩:=h.sla k2 sk2 hk2 ha
   refine⟨by simp [put_at,n4,e,w1],by simp [e,w2],by simpa [e] using w3,cs,?_,?_⟩
   ·simp only [e,if_false]
    exact (hget_left (hlo2 _ w2).2).trans w4
   ·split
    ·rename_i hd
     rw [if_pos hd]at w5
     exact hsc sk2 (moG hk2) G _ X X cs hl hlow hX w5
    ·rename_i hd
     rw [if_neg hd]at w5
     exact w5
 ·have old:∀ (q:Nat) (sq:Slot),sl[q]?=some sq→q≠k→al (s.setIfInBounds i true) sq=true→rs q<G.length:=fun q sq hq hqk ha=>by
   rw [al_ne ((shape_two hsh hk hq (Ne.symm hqk)).1 i hki)]at ha
   exact (hlo2 _ (h.sla q sq hq ha).2.1).2
  show (if k1=k then G.length else rs k1)≠(if k2=k then G.length else rs k2)
  by_cases e1:k1=k
  ·have e2:k2≠k:=fun e=>hne (e1.trans e.symm)
   rw [if_pos e1,if_neg e2]
   have:=old k2 sk2 hk2 e2 ha2
   omega
  ·by_cases e2:k2=k
   ·rw [if_neg e1,if_pos e2]
    have:=old k1 sk1 hk1 e1 ha1
    omega
   ·rw [if_neg e1,if_neg e2]
    rw [al_ne ((shape_two hsh hk hk1 (Ne.symm e1)).1 i hki)]at ha1
    rw [al_ne ((shape_two hsh hk hk2 (Ne.symm e2)).1 i hki)]at ha2
    exact h.ne k1 k2 sk1 sk2 hk1 hk2 hne ha1 ha2
theorem JK.store(h:JK n ds D VP sl O β S B X Y rs s α G)(hsh:shapeK ds sl calls=true)(hob:ObjK n O calls)(hst:StV n VP)(hsc:∀k∈sl,StC n k.c){k:Nat}{sk:Slot}(hk:sl[k]?=some sk)(ha0:al s sk=true){cs:List Value}(hc:sk.c G X cs)(hd:∀d∈D.getD sk.st [],s.getD d false=true) :
  JK n ds D VP sl O β S B X Y rs (s.setIfInBounds sk.st true) α (G.set (rs k) (some (⟨cs,sk.ty,none⟩:Blk))):=by
 obtain⟨q0,_,q2,q4⟩:=shape_sl hsh (moG hk)
 obtain⟨hlo1,hlo2⟩:=hob.lo _ _ _ h.o
 obtain⟨p1,p2,p3,cs0,p4,p5⟩:=h.sla k sk hk ha0
 have hlt:=(hlo2 _ p2)
 have hl:G.length≤(G.set (rs k) (some (⟨cs,sk.ty,none⟩:Blk))).length:=by simp
 have hlow:∀j,j<n→hget (G.set (rs k) (some (⟨cs,sk.ty,none⟩:Blk))) j=hget G j:=fun j hj=>hget_set_ne (by omega)
 have hX:∀j∈X,j∈X∧hget (G.set (rs k) (some (⟨cs,sk.ty,none⟩:Blk))) j=hget G j:=fun j hj=>⟨hj,hget_set_ne (fun e=>p3 (e▸hj))⟩
 refine⟨by simp [h.sz],cl_set h.cl hd,h.lo,hob.plain _ _ _ _ q4 (hob.set _ _ _ _ _ p2 h.o),h.xy,fun j hj=>?_,fun j hj=>(hlow j hj).trans (h.low j hj),Nat.le_trans h.le hl,fun j t' hj hs=>?_,fun k2 sk2 hk2 ha=>?_,fun k1 k2 sk1 sk2 hk1 hk2 hne ha1 ha2=>?_⟩
 ·obtain⟨w1,w2⟩:=h.ss j hj
  exact⟨w1,(hX j w1).2.trans w2⟩
 ·have e:sk.st≠j:=fun e=>by rw [←e,q2]at hj;cases hj
  rw [sgN e]at hs
  exact hst G _ X X j _ hl hlow hX (h.val j t' hj hs)
 ·by_cases e:k2=k
  ·subst e
   rw [hk]at hk2;cases hk2
   refine⟨p1,p2,p3,cs,hget_set_eq hlt.2,?_⟩
   have hss:sk.st<s.size:=by rw [h.sz];exact (gsI.1 q2).1
   rw [sgE hss,if_pos rfl]
   exact hsc sk (moG hk) G _ X X cs hl hlow hX hc
  ·obtain⟨n1,n2,n3,n4⟩:=shape_two hsh hk2 hk e
   have hne2:sk2.a≠some sk.st:=fun e2=>by
    have:=((shape_sl hsh (moG hk2)).1 _ e2).1
    rw [q2]at this;cases this
   rw [al_ne hne2]at ha
   rw [sgN (Ne.symm n2)]
   obtain⟨w1,w2,w3,cs2,w4,w5⟩:=h.sla k2 sk2 hk2 ha
   have hrr:=h.ne k2 k sk2 sk hk2 hk e ha ha0
   refine⟨w1,w2,w3,cs2,(hget_set_ne (Ne.symm hrr)).trans w4,?_⟩
   split
   ·rename_i hd
    rw [if_pos hd]at w5
    exact hsc sk2 (moG hk2) G _ X X cs2 hl hlow hX w5
   ·rename_i hd
    rw [if_neg hd]at w5
    exact w5
 ·have f:∀ (q:Nat) (sq:Slot),sl[q]?=some sq→sq.a≠some sk.st:=fun q sq hq e2=>by
   have:=((shape_sl hsh (moG hq)).1 _ e2).1
   rw [q2]at this;cases this
  rw [al_ne (f k1 sk1 hk1)]at ha1
  rw [al_ne (f k2 sk2 hk2)]at ha2
  exact h.ne k1 k2 sk1 sk2 hk1 hk2 hne ha1 ha2
end
def stT{β:Type}:List (Nat×β)→β→Array Bool→β
 | [],x,_=>x
 | (c,y)::l,x,s=>if s.getD c false=true then stT l y s else x
theorem stT_0{β:Type}{l:List (Nat×β)}{x:β}{n:Nat}:stT l x (Array.replicate n false)=x:=by
 cases l with
 | nil=>rfl
 | cons p l=>
  unfold stT
  rw [sg0]
  rfl
theorem all_done{s:Array Bool}(h:s.all id=true){i:Nat}(hi:i<s.size):s.getD i false=true:=by
 rw [agD,Array.getElem?_eq_getElem hi]
 exact Array.all_eq_true.1 h i hi
end
section
section
variable {P:Program} {nro n base:Nat} {γ:Nat→Option Nat} {m:List Ent} {H:AH} {α:Fm} {a:Act} {w:World}
theorem ops_ev{o:Oper}(hok:o.op.operands.all (okOpd n γ)=true)(hR:Rel nro base γ m H w)(hF:FR n m α a):∀x∈o.op.operands,V m (α.eval γ x) (a.eval x):=fun x hx=>hF.eval hR (by
 obtain⟨i,hi,rfl⟩:=Array.mem_iff_getElem.1 hx
 exact (Array.all_eq_true.1 hok) i hi)
theorem Rel.told(hR:Rel nro base γ m H w){i:Nat}{k:Blk}{e:Ent}(hi:nro≤i)(hk:hget H i=some k)(he:m[i]?=some e){s:Nat}(hes:k.es=some s):k.cells.length≤e.sz∧e.es=some s∧e.o=0:=by
 obtain⟨cs,fr,h1,h2,h3,h4,h5⟩:=hR.cells i k e (hget_some hk) (hR.noMapE (hget_some hk) he hes) he
 have ho:=hR.own i e hi he
 refine⟨?_,by rw [h3,hes],ho.2⟩
 rcases Nat.eq_zero_or_pos k.cells.length with h0 | h0
 ·omega
 ·obtain⟨y,hy,_⟩:=h5 (k.cells.length-1) _ (geE (by omega))
  have:=(asI.1 hy).1
  have:=h2 hi
  omega
theorem av_slice_room{o:Oper}{t e:TypeId}{x:Operand}{lo hi:Option Operand}{i len:Nat}{l h:Int}{k:Blk}(ho:o.op=.slice t x lo hi none)(hok:o.op.operands.all (okOpd n γ)=true)(hu:und P t=.slice e)
  (hx:α.eval γ x=.slice (some ⟨i,0,none⟩) len len) (hl:bnd (lo.map (α.eval γ)) 0=some l) (hh:bnd (hi.map (α.eval γ)) len=some h) (hk:hget H i=some k) (hi':nro≤i) (hes:k.es=some (szt P e)) (h0:0<szt P e)
  (h1:0≤l) (h2:l≤h) (h3:h.toNat*szt P e≤k.cells.length) :
  AV P nro n γ o α H (if l≠0∧h=l then .slice (some ⟨i,0,some 0⟩) 0 0 else .slice (some ⟨i,l.toNat*szt P e,none⟩) (h.toNat-l.toNat) (h.toNat-l.toNat+1)) H:=by
 intro m base w a hR hF
 have ev:=ops_ev hok hR hF
 rw [ho]at ev
 have hx':=ev x (by simp [Op.operands])
 rw [hx]at hx'
 obtain⟨en,c',_,he,hcc,hsz,hy⟩:=hx'.sl_
 obtain⟨t1,t2,t3⟩:=hR.told hi' hk he hes
 obtain⟨c1,c2⟩:=hsz rfl _ t2
 have hhc:h.toNat≤c':=by
  have:h.toNat*szt P e≤c'*szt P e:=by omega
  exact Nat.le_of_mul_le_mul_right this h0
 have hb:=bounds_run (P:=P) (isS:=true) (cap:=c') (bnd_cases (a:=a) (m:=m) (fun y hy=>ev y (by subst hy;simp [Op.operands])) hl) (bnd_cases (a:=a) (m:=m) (fun y hy=>ev y (by subst hy;simp [Op.operands])) hh) h1 h2 (by omega) w
 have hrun:(Instr.sliceAt t (a.eval x) (lo.map a.eval) (hi.map a.eval) none).run P w =
   .ok (.slice (if c'=l.toNat then some ⟨en.b,en.o+0,none⟩ else (some ⟨en.b,en.o+0,none⟩:Option Addr).map (·.add (l.toNat*szt P e))) (h.toNat-l.toNat) (c'-l.toNat)) w:=by
  rw [hy]
  simp [Instr.sliceAt,Instr.slice,run_underlying (und_some hu (by simp)),hb,run_sizeOf h0]
 obtain⟨dst,op,type,pos,after,guard⟩:=o
 simp only at ho
 subst ho
 refine⟨m,_,w,_,run_v2 hrun,.inl rfl,List.prefix_rfl,?_,hR,.refl _ _⟩
 by_cases hz:l≠0∧h=l
 ·rw [if_pos hz]
  have e0:h.toNat-l.toNat=0:=by rw [hz.2];omega
  rw [e0]
  split
  ·exact .one .sl0
  ·exact .one .sl0
 ·rw [if_neg hz]
  have hne:c'=l.toNat→l.toNat*szt P e=0:=by
   intro hk
   by_cases hl0:l=0
   ·subst hl0;simp
   ·exact absurd ⟨hl0,by omega⟩ hz
  have e1:(if c'=l.toNat then some ⟨en.b,en.o+0,none⟩ else (some ⟨en.b,en.o+0,none⟩:Option Addr).map (·.add (l.toNat*szt P e)))=some ⟨en.b,en.o+l.toNat*szt P e,none⟩:=by
   rw [Option.map_some,add_none]
   split
   ·rename_i hk;rw [hne hk]
   ·rfl
  rw [e1]
  exact .one (.slv he (by omega))
theorem bounds3_run{lo hi mx:Value}{len cap:Nat}{l h mm:Int}{k1 k2 k3:IntKind}(hl:lo=.int k1 l)(hh:hi=.int k2 h)(hm:mx=.int k3 mm)(h0:0≤l)(h1:l≤h)(h2:h≤mm)(h3:mm≤cap)(w:World) :
  (Instr.sliceBounds true len cap (some lo) (some hi) (some mx)).run P w=.ok (l.toNat,h.toNat,mm.toNat) w:=by
 subst hl hh hm
 have e1:0≤h:=by omega
 have e2:0≤mm:=by omega
 have e5:h≤max mm 0:=by omega
 have e6:l≤max h 0:=by omega
 simp [Instr.sliceBounds,Instr.sliceBound,asIntOf,h0,e1,e2,h3,e5,e6]
theorem av_slice3{o:Oper}{t e:TypeId}{x lo hi mx:Operand}{i off len c:Nat}{l h mm:Int}{k1 k2 k3:IntKind}(ho:o.op=.slice t x (some lo) (some hi) (some mx))(hok:o.op.operands.all (okOpd n γ)=true)(hu:und P t=.slice e)
  (hx:α.eval γ x=.slice (some ⟨i,off,none⟩) len c) (hl:α.eval γ lo=.int k1 l) (hh:α.eval γ hi=.int k2 h) (hm:α.eval γ mx=.int k3 mm) (h0:0<szt P e) (h1:0≤l) (h2:l<h) (h3:h≤mm) (h4:mm≤len) :
  AV P nro n γ o α H (.slice (some ⟨i,off+l.toNat*szt P e,none⟩) (h.toNat-l.toNat) (h.toNat-l.toNat+1)) H:=by
 intro m base w a hR hF
 have ev:=ops_ev hok hR hF
 rw [ho]at ev
 have hx':=ev x (by simp [Op.operands])
 rw [hx]at hx'
 have hl':=ev lo (by simp [Op.operands])
 rw [hl]at hl'
 have hh':=ev hi (by simp [Op.operands])
 rw [hh]at hh'
 have hm':=ev mx (by simp [Op.operands])
 rw [hm]at hm'
 obtain⟨en,c',he,hcc,hy,_⟩:=hx'.slw_
 have hb:=bounds3_run (P:=P) (len:=len) (cap:=c') hl'.int_ hh'.int_ hm'.int_ h1 (by omega) h3 (by omega) w
 have hrun:(Instr.sliceAt t (a.eval x) (some (a.eval lo)) (some (a.eval hi)) (some (a.eval mx))).run P w =
   .ok (.slice (some ((⟨en.b,en.o+off,none⟩:Addr).add (l.toNat*szt P e))) (h.toNat-l.toNat) (mm.toNat-l.toNat)) w:=by
  have hne:¬ mm.toNat=l.toNat:=by omega
  rw [hy]
  simp [Instr.sliceAt,Instr.slice,run_underlying (und_some hu (by simp)),hb,run_sizeOf h0,hne]
 obtain⟨dst,op,type,pos,after,guard⟩:=o
 simp only at ho
 subst ho
 refine⟨m,_,w,_,run_v2 hrun,.inl rfl,List.prefix_rfl,?_,hR,.refl _ _⟩
 rw [add_none,Nat.add_assoc]
 exact .one (.slv he (by omega))
theorem av_append_in{o:Oper}{t e:TypeId}{s x:Operand}{i len:Nat}{k:Blk}{news:List Value}(ho:o.op=.call ⟨.builtin .append,#[s,x],#[t,t]⟩)(hok:o.op.operands.all (okOpd n γ)=true)(hu:und P t=.slice e)
  (hs:α.eval γ s=.slice (some ⟨i,0,none⟩) len len) (hx:xcells (szt P e) (α.eval γ x) H=some news) (hns:∀b,α.eval γ x≠.string b) (hk:hget H i=some k) (hi':nro≤i) (hes:k.es=some (szt P e)) (hty:k.ty=e) (h0:0<szt P e)
  (hfit:len*szt P e+news.length≤k.cells.length) :
  AV P nro n γ o α H (.slice (some ⟨i,0,none⟩) (len+news.length/szt P e) (len+news.length/szt P e)) (H.set i (some ⟨setR k.cells (len*szt P e) news,k.ty,k.es⟩)):=by
 intro m base w a hR hF
 have ev:=ops_ev hok hR hF
 rw [ho]at ev
 have hs':=ev s (by simp [Op.operands,Call.operands])
 rw [hs]at hs'
 have hx':=ev x (by simp [Op.operands,Call.operands])
 obtain⟨en,c',_,he,hcc,hsz,hy⟩:=hs'.sl_
 obtain⟨t1,t2,t3⟩:=hR.told hi' hk he hes
 obtain⟨c1,c2⟩:=hsz rfl _ t2
 have hus:=und_some hu (by simp)
 have hrun0:∀v' w',(Builtin.append_ #[t,t] o.type #[a.eval s,a.eval x]).run P w=.ok v' w'→(execOp a.eval o).run P w=.ok (.value v') w':=by
  intro v' w' hr
  obtain⟨dst,op,type,pos,after,guard⟩:=o
  simp only at ho
  subst ho
  simp only at hr
  simp [execOp,resolve,invoke,builtin,hr]
 obtain⟨cnt,news',hv,hl',happ⟩:∃cnt news',Vs m news news'∧news'.length=cnt*szt P e ∧
   ((a.eval x=.slice none 0 0∧cnt=0)∨∃ad c,a.eval x=.slice (some ad) cnt c∧∀ (j:Nat) (u:Value),news'[j]?=some u→w.cell? (ad.add j)=some u):=by
  rcases xcells_slice hR hx' hx hns with ⟨h1,h2⟩ | ⟨ad,cnt,c,news',h1,hv,hl',hcell⟩
  ·exact⟨0,[],by rw [h2];exact⟨rfl,by simp⟩,by simp,.inl ⟨h1,rfl⟩⟩
  ·exact⟨cnt,news',hv,hl',.inr ⟨ad,c,h1,hcell⟩⟩
 have hnl:news.length=cnt*szt P e:=by rw [←hv.1];exact hl'
 have hdiv:news.length/szt P e=cnt:=by rw [hnl];exact Nat.mul_div_cancel _ h0
 have hroom:len+cnt≤c':=by
  have:(len+cnt)*szt P e≤c'*szt P e:=by rw [Nat.add_mul];omega
  exact Nat.le_of_mul_le_mul_right this h0
 obtain⟨w',h1,h2,h3⟩:=storeCells_rel (P:=P) hi' he news news' (len*szt P e) 0 H w k hv hR (hget_some hk) (by omega)
 have hkm:=hR.noMapE (hget_some hk) he hes
 rw [with_eq hkm,Nat.add_zero]at h2
 refine⟨m,_,w',_,hrun0 (.slice (some ⟨en.b,0,none⟩) (len+cnt) c') w' ?_,.inl rfl,List.prefix_rfl,?_,h2,h3⟩
 ·have hst:(storeCells ((⟨en.b,0,none⟩:Addr).add (len*szt P e)) news').run P w=.ok () w':=by rw [add_none,Nat.zero_add];exact h1
  rw [hy,t3]
  rcases happ with ⟨hxe,rfl⟩ | ⟨ad,c,hxe,hcell⟩
  ·have hn0:news'=[]:=List.eq_nil_of_length_eq_zero (by simpa using hl')
   rw [hn0]at h1
   cases h1
   rw [hxe]
   exact slice_none_append hu h0 hcc w
  ·have hfc:(Builtin.firstCells (szt P e) cnt (.slice (some ad) cnt c)).run P w=.ok news'.toArray w:=run_firstCells_some w (szt P e) cnt ad cnt c news' hl' hcell
   rw [hxe]
   simp [Builtin.append_,run_underlying hus,run_sizeOf h0,Builtin.lenOf,hroom,hfc,hst]
 ·rw [hdiv]
  have:V m (.slice (some ⟨i,0,none⟩) (len+cnt) (len+cnt)) (.slice (some ⟨en.b,en.o+0,none⟩) (len+cnt) c'):=.one (.sl he hroom (fun _ s hs=>by
   rw [t2]at hs
   cases hs
   exact⟨c1,c2⟩))
  rw [t3]at this
  exact this
theorem wpList_then{ops:Array Oper}{Q1 Q2:Exit→Act→World→Prop}{l2:List Oper}(hn:∀a w,Q1 .normal a w→wpList P ops Q2 l2 a w)(ho:∀e a w,e≠.normal→Q1 e a w→Q2 e a w):∀ (l:List Oper) (a:Act) (w:World),wpList P ops Q1 l a w→wpList P ops Q2 (l++l2) a w
 | [],a,w,h=>hn a w h
 | o::l,a,w,h=>by
  rw [List.cons_append]
  unfold wpList at h ⊢
  have hout:LetsOut Q1→LetsOut Q2:=fun ⟨a,w,h⟩=>⟨a,w,ho _ _ _ (by simp) h⟩
  split
  ·rename_i hw
   rw [if_pos hw]at h
   refine h.imp (fun h=>?_) (fun h=>⟨h.1,hout h.2⟩)
   unfold Oper.wp at h ⊢
   generalize (execOp a.eval o).run P w=r at *
   cases r with
   | ok x w'=>
    cases x <;> simp only [Oper.upon]at h ⊢ <;>
     first
      | exact wpList_then hn ho l _ _ h
      | exact Calls.mono h (fun e w'' he=>by cases e <;> first | exact wpList_then hn ho l _ _ he | exact ho _ _ _ (by simp) he | exact hout he)
      | exact Go.Rows.mono h (fun _ _ he=>wpList_then hn ho l _ _ he)
   | halt x w'=>cases x <;> simp only [Oper.upon]at h ⊢ <;> first | exact ho _ _ _ (by simp) h | exact h
  ·rename_i hw
   rw [if_neg hw]at h
   exact wpList_then hn ho l _ _ h
theorem al_then{ops:Array Oper}{Q:Exit→Fm→AH→Prop}{l2:List Oper}(l1:List Oper)(hok:okL n γ l1=true)(h:XL P nro n γ ops (fun α' H'=>AL P nro n γ ops Q l2 α' H') l1 α H):AL P nro n γ ops Q (l1++l2) α H:=by
 intro m base w a hR hF
 have h1:AL P nro n γ ops (thenQ (fun α' H'=>AL P nro n γ ops Q l2 α' H') Q) l1 α H:=XL.sound l1 α H hok h
 refine wpList_then (fun a' w' hc=>?_) (fun e a' w' hne hc=>?_) l1 a w (h1 m base w a hR hF)
 ·obtain⟨m',α',H',hm,hR',hF',hb,hq⟩:=hc
  exact wpList_mono (fun e a w hc=>hc.trans hm hb) _ _ _ (hq m' base w' a' hR' hF')
 ·obtain⟨m',α',H',hm,hR',hF',hb,hq⟩:=hc
  cases e with
  | normal=>exact absurd rfl hne
  | _=>exact⟨m',α',H',hm,hR',hF',hb,hq⟩
theorem aw_opsA{id:Nat}{l:List Oper}{Q:Exit→Fm→AH→Prop}(k:Nat)(hok:okL n γ (l.take k)=true)(h:XL P nro n γ l.toArray (fun α' H'=>AL P nro n γ l.toArray Q (l.drop k) α' H') (l.take k) α H):AW P nro n γ (.region id l.toArray false) Q α H:=by
 refine aw_region ?_
 have:=al_then (Q:=Q) (l2:=l.drop k) (l.take k) hok h
 rwa [List.take_append_drop]at this
theorem aw_tailA{id:Nat}{l:List Oper}{Q:Exit→Fm→AH→Prop}(k:Nat)(hm:P.follows .mixedOrders=true)(hB:Region.lexTailB .any l.toArray k=true)(hok:okL n γ l=true)
  (h:SL P n γ l.toArray (fun α'=>AL P nro n γ l.toArray Q (l.drop k) α' H) H (l.take k) α):AW P nro n γ (.region id l.toArray true) Q α H:=by
 intro m base w a hR hF
 refine wp_region_still_tail k hm hB ?_
 have hR':Rel nro base γ m H { w with drawn:=w.drawn+1 }:=hR.drewN 1
 refine SL.sound hR' (fun a' α' hF' hq=>?_) (l.take k) α a (okL_take hok k).1 hF h
 have:=hq m base _ a' hR' hF'
 refine wpList_mono (fun e a w' hc=>?_) _ _ _ this
 exact Con.trans (w:={ w with drawn:=w.drawn+1 }) List.prefix_rfl (Below.drew (.refl base w)) hc
theorem al_xl{ops:Array Oper}{Q:Exit→Fm→AH→Prop}{l:List Oper}(hok:okL n γ l=true)(h:∀K:Fm→AH→Prop,(∀α' H',Q .normal α' H'→K α' H')→XL P nro n γ ops K l α H):AL P nro n γ ops Q l α H:=XL.sound l α H hok (h _ fun _ _ h=>h)
theorem unit_nt:plainV (.tuple #[])=true:=by simp [plainV]
theorem av_clear{o:Oper}{t e:TypeId}{x:Operand}{i off len c:Nat}{k:Blk}{z:Value}(ho:o.op=.call ⟨.builtin .clear,#[x],#[t]⟩)(hok:o.op.operands.all (okOpd n γ)=true)(hu:und P t=.slice e)
  (hx:α.eval γ x=.slice (some ⟨i,off,none⟩) len c) (hk:hget H i=some k) (hi':nro≤i) (hkm:k.ents=none) (h0:0<szt P e) (hz:zer P e=some z) (hzs:z.cells.size=szt P e) (hp:z.cells.toList.all plain1=true) (hfit:off+len*szt P e≤k.cells.length) :
  AV P nro n γ o α H (.tuple #[]) (H.set i (some ⟨setR k.cells off ((List.range (len*szt P e)).map fun j=>z.cells.toList.getD (j%szt P e) undef),k.ty,k.es⟩)):=by
 intro m base w a hR hF
 have ev:=ops_ev hok hR hF
 rw [ho]at ev
 have hx':=ev x (by simp [Op.operands,Call.operands])
 rw [hx]at hx'
 have hus:=und_some hu (by simp)
 obtain⟨Z,hZ⟩:∃Z,Z=(Builtin.zeroCells z.cells len).toList:=⟨_,rfl⟩
 have hZe:Z=(List.range (len*szt P e)).map fun j=>z.cells.toList.getD (j%szt P e) undef:=by
  rw [hZ]
  unfold Builtin.zeroCells
  rw [zeros_eq _ _ (by omega),hzs]
 have hv:Vs m ((List.range (len*szt P e)).map fun j=>z.cells.toList.getD (j%szt P e) undef) Z:=by
  rw [hZe];exact plain_Vs (zeros_plain _ _ _ h0 (by simpa using hzs) hp)
 obtain⟨en,c',w',hy,h1,h2,h3⟩:=copy_store (P:=P) hR hx' hk hi' hv (by simpa using hfit)
 rw [with_eq hkm]at h2
 refine⟨m,_,w',.tuple #[],?_,.inl rfl,List.prefix_rfl,plainV_mk unit_nt,h2,h3⟩
 obtain⟨dst,op,type,pos,after,guard⟩:=o
 simp only at ho
 subst ho
 have hr:(Builtin.clear_ #[t] type #[a.eval x]).run P w=.ok (.tuple #[]) w':=by
  rw [hy]
  cases len with
  | zero=>
   have:Z=[]:=by rw [hZe];simp
   rw [this]at h1
   cases h1
   simp [Builtin.clear_,run_underlying hus]
  | succ len=>simp [Builtin.clear_,run_underlying hus,run_zero hz,←hZ,h1]
 simp [execOp,resolve,invoke,builtin,hr]
end
end
end Go.Proofs.YtcidhpandnjmoaaDoor
