import Derived.Test.YtobagnjnbmgidaaGreatDoorE1
set_option linter.all false
set_option maxHeartbeats 2000000
set_option maxRecDepth 100000
namespace Go.Proofs.YtobagnjnbmgidaaGreatDoor
open Go.Conc Go.RowKit
structure XF where
 f:Nat
 N:Nat
 todo:List Item
 E:Env
structure cT where
 fs:List XF
 m:mJ
 bs:List (Bool×Bool)
 dB:List (Bool×Bool)
 fI:List (Int×Nat)
def KE:List Item→Option (List Item)
 |.code .skip::k=>some k
 |.code (.seq y z)::k=>some (.code y::.code z::k)
 |.code (.block id c)::k=>some (.code c::.inBlock id::k)
 |.code (.loop c)::k=>some (.code c::.inLoop c::k)
 |.code (.exit id)::k=>exitTo id k
 |.code (.label _)::k=>some k
 |.code (.region _ ops false)::k=>some (.inRegion ops (List.range ops.size)::k)
 |.inBlock _::k=>some k
 |.inLoop c::k=>some (.code c::.inLoop c::k)
 |.inRegion _ []::k=>some k
 |_=>none
def sG:List Value→Nat→Env
 |[],_=>[]
 |v::l,n=>(n,v)::sG l (n+1)
def nv(f:XF)(t:List Item)(E:Env)(d:Option Nat)(v:Value):Option XF:=match d with
 |some d=>bif Nat.blt d f.N then some ⟨f.f,f.N,t,(d,v)::E⟩ else none
 |none=>some ⟨f.f,f.N,t,E⟩
def Uv(P:Program)(E:Env)(o:Oper):Option (Value×Int×Nat):=match o.op with
 |.indexAddr t x i=>match ev E x,ev E i with
  |.slice (some a) len _,.int _ i=>match P.underlying t with
   |some (.slice el)=>match cY P (sizeOf el) with
    |some sz=>some (.pointer (some (a.add (i.toNat*sz))),i,len)
    |none=>none
   |_=>none
  |_,_=>none
 |_=>none
def mo(o:Oper):Bool:=match o.op with
 |.select ..=>true
 |_=>false
def Af(P:Program)(B:Nat)(f:XF)(l:List XF)(x:cT)(t:List Item)(o:Oper)(E:Env):Option cT:=
 bif !mo o&&o.op.operands.all (kn E) then
  match dK P B (execOp (ev E) o) x.m with
  |some (.value v,m)=>(nv f t E o.dst v).map fun g=>{x with fs:=g::l,m:=m}
  |some (.skip,m)=>(nv f t E o.dst undef).map fun g=>{x with fs:=g::l,m:=m}
  |some (.enter _ _,_)=>match cY P (execOp (ev E) o) with
   |some (.enter h args)=>match P.funcs[h]? with
    |some fn=>match fn.body with
     |some c=>some {x with fs:=⟨h,args.size+(fn.ntmps-args.size),[.code c],sG args.toList 0⟩::{f with E:=E}::l}
     |none=>none
    |none=>none
   |_=>none
  |_=>none
 else none
def uN(o:Oper):Bool:=match o.op with
 |.indexAddr ..=>true
 |_=>false
def uH(P:Program)(B:Nat)(f:XF)(l:List XF)(x:cT)(t:List Item)(o:Oper)(E:Env):Option cT:=
 bif uN o then match x.bs with
  |(_,true)::bs=>Af P B f l {x with bs:=bs} t o E
  |(_,false)::bs=>bif o.op.operands.all (kn E) then match Uv P E o with
   |some (v,i,n)=>(nv f t E o.dst v).map fun g=>{x with fs:=g::l,bs:=bs,fI:=(i,n)::x.fI}
   |none=>none
   else none
  |[]=>none
 else Af P B f l x t o E
def Lv(P:Program)(B:Nat)(f:XF)(l:List XF)(x:cT)(ops:Array Oper)(i:Nat)(t:List Item):Option cT:=match ops[i]? with
 |none=>none
 |some o=>match o.guard with
  |none=>uH P B f l x t o f.E
  |some (j,want)=>match (ops[j]?).bind (·.dst) with
   |none=>none
   |some d=>match look f.E d with
    |some (.bool u)=>match x.bs with
     |(b,s)::bs=>bif !s||(u==b) then
        let x':cT:={x with bs:=bs,dB:=bif s then x.dB else(u,b)::x.dB}
        bif b==want then uH P B {f with E:=(d,.bool b)::f.E} l x' t o ((d,.bool b)::f.E) else(nv f t ((d,.bool b)::f.E) o.dst undef).map fun g=>{x' with fs:=g::l}
      else none
     |[]=>none
    |some (.tuple _)=>(nv f t f.E o.dst undef).map fun g=>{x with fs:=g::l}
    |_=>none
def sU{α:Type}(P:Program):Sem α→mJ→Option (α×mJ)
 |.pure a,s=>some (a,s)
 |.load _ a k,s=>match s.hs with
  |(i,j,l)::hs=>match nth s.M i with
   |some r=>bif Nat.blt j.2 r.k&&(!l||Nat.blt j.1 r.n) then sU P (k (r.get j)) (s.zE hs s.M a (r.ad j) l j.1 r.n) else none
   |none=>none
  |[]=>none
 |.program k,s=>sU P (k P) s
 |_,_=>none
def FO(E:Env):ResultVar→Bool
 |.tmp t=>(look E t).isSome
 |.cell a _=>(look E a).isSome
def Bu(N:Nat)(E:Env):Array Value:=((List.range N).map fun t=>(look E t).getD undef).toArray
def l8(P:Program)(f:XF)(m:mJ):Option (Value×mJ):=match P.funcs[f.f]? with
 |some fn=>bif fn.results.toList.all (FO f.E) then sU P (results fn (Bu f.N f.E)) m else none
 |none=>none
def yG(P:Program)(f:XF)(l:List XF)(x:cT):Option cT:=match l with
 |g::l=>match g.todo with
  |.inRegion ops (i::r)::k=>match l8 P f x.m with
   |some (v,m)=>(nv g (.inRegion ops r::k) g.E ((ops[i]?).bind (·.dst)) v).map fun h=>{x with fs:=h::l,m:=m}
   |none=>none
  |_=>none
 |[]=>none
def nT(P:Program)(B:Nat)(x:cT):Option cT:=match x.fs with
 |[]=>none
 |f::l=>match KE f.todo with
  |some t=>some {x with fs:={f with todo:=t}::l}
  |none=>match f.todo with
   |.code (.cond c y z)::k=>match ev f.E c with
    |.bool u=>match x.bs with
     |(b,s)::bs=>bif kn f.E c&&(!s||(u==b)) then
        some {x with fs:={f with todo:=.code (bif b then y else z)::k,E:=match c with|.tmp d=>(d,.bool b)::f.E|_=>f.E}::l,bs:=bs,dB:=bif s then x.dB else(u,b)::x.dB}
      else none
     |[]=>none
    |_=>none
   |.inRegion ops (i::r)::k=>Lv P B f l x ops i (.inRegion ops r::k)
   |.code .ret::_=>yG P f l x
   |[]=>yG P f l x
   |_=>none
def nS(P:Program)(B:Nat):Nat→cT→Option cT
 |0,x=>some x
 |n+1,x=>match nT P B x with
  |some x=>nS P B n x
  |none=>none
structure aO(E:Env)(N:Nat)(a:Act):Prop where
 sz:a.tmps.size=N
 val:∀n v,look E n=some v→a.tmps[n]? =some v
theorem aO.put{E:Env}{N d:Nat}{a:Act}{v:Value}(h:aO E N a)(hd:d<N):aO ((d,v)::E) N (a.put (some d) v):=by
 refine⟨by simp[Act.put,h.sz],fun n u hn=>?_⟩;simp only[look] at hn
 by_cases e:d=n
 ·subst e;simp at hn;subst hn
  simp only[Act.put];rw[Array.getElem?_setIfInBounds_self];rw[if_pos (by rw[h.sz];exact hd)]
 ·have e':(d==n)=false:=by simpa using e
  rw[e'] at hn;simp only[Act.put];rw[Array.getElem?_setIfInBounds_ne e];exact h.val n u hn
theorem aO.more{E:Env}{N d:Nat}{a:Act}{v:Value}(h:aO E N a)(hd:look E d=some v):aO ((d,v)::E) N a:=by
 refine⟨h.sz,fun n u hn=>?_⟩;simp only[look] at hn
 by_cases e:d=n
 ·subst e;simp at hn;subst hn;exact h.val _ _ hd
 ·have e':(d==n)=false:=by simpa using e
  rw[e'] at hn;exact h.val n u hn
theorem aO.eval{E:Env}{N:Nat}{a:Act}(h:aO E N a){x:Operand}(hx:kn E x=true):a.eval x=ev E x:=by
 cases x with
 |tmp t=>
  cases hl:look E t with
  |none=>simp[kn,hl] at hx
  |some v=>simp[Act.eval,ev,hl,Array.getD_eq_getD_getElem?,h.val t v hl]
 |_=>rfl
theorem execOp_congr{ρ ρ':Operand→Value}{o:Oper}(AA:mo o=false)(h:∀x∈o.op.operands,ρ x=ρ' x):execOp ρ o=execOp ρ' o:=by
 obtain⟨dst,op,ty,pos,after,guard⟩:=o;have N9:∀(l:Array Operand),(∀x∈l,ρ x=ρ' x)→l.map ρ=l.map ρ':=fun l hl=>Array.map_congr_left hl
 have LO:∀(l:Array (Nat×Operand)),(∀p∈l,ρ p.2=ρ' p.2)→(l.map fun(i,x)=>(i,ρ x))=(l.map fun(i,x)=>(i,ρ' x)):=fun l hl=>Array.map_congr_left fun p hp=>by
  obtain⟨i,x⟩:=p
  show(i,ρ x)=(i,ρ' x)
  rw[hl (i,x) hp]
 have J5:∀(l:Option Operand),(∀x∈l.toArray,ρ x=ρ' x)→l.map ρ=l.map ρ':=fun l hl=>by cases l<;>simp_all
 have Ht:∀(c:Call)(t:TypeId),(∀x∈c.operands,ρ x=ρ' x)→resolve ρ c t=resolve ρ' c t:=fun c t hc=>by
  obtain⟨cl,args,ats⟩:=c;have ha:args.map ρ=args.map ρ':=N9 _ fun x hx=>hc x (by simp[Call.operands,hx])
  cases cl with
  |builtin b=>simp only[resolve];rw[ha]
  |invoke r n=>simp only[resolve];rw[ha,hc r (by simp[Call.operands])]
  |value f=>simp only[resolve];rw[ha,hc f (by simp[Call.operands])]
 cases op
 case build t ps=>simp only[execOp];rw[LO ps fun p hp=>h p.2 (by simp[Op.operands];exact⟨p.1,hp⟩)]
 case buildSlice t n ps=>simp only[execOp];rw[LO ps fun p hp=>h p.2 (by simp[Op.operands];exact⟨p.1,hp⟩)]
 case makeFunc fn a b=>simp only[execOp];rw[N9 a fun x hx=>h x (by simp[Op.operands,hx]),N9 b fun x hx=>h x (by simp[Op.operands,hx])]
 case slice t x l hh m=>simp only[execOp];rw[h x (by simp[Op.operands]),J5 l fun x hx=>h x (by simp[Op.operands] at*;simp[hx]),J5 hh fun x hx=>h x (by simp[Op.operands] at*;simp[hx]),J5 m fun x hx=>h x (by simp[Op.operands] at*;simp[hx])]
 case makeMap t r=>simp only[execOp];rw[J5 r fun x hx=>h x (by simpa [Op.operands] using hx)]
 case call c=>simp only[execOp];rw[Ht c _ h]
 case go c=>simp only[execOp];rw[Ht c _ h]
 case defer c=>simp only[execOp];rw[Ht c _ h]
 case select cs b=>cases AA
 all_goals simp_all [execOp,Op.operands]
theorem qg{α:Type}{P:Program}:∀(s:Sem α)(m m':mJ)(x:α),sU P s m=some (x,m')→(∀p∈m.eqs,p∈m'.eqs)∧(∀p∈m.aZ,p∈m'.aZ)∧m'.M=m.M∧m'.c=m.c:=by
 intro s
 induction s with
 |pure a=>intro m m' x h;simp[sU] at h;obtain⟨rfl,rfl⟩:=h;exact⟨fun _ h=>h,fun _ h=>h,rfl,rfl⟩
 |load md a k ih=>
  intro m m' x h;simp only[sU] at h
  split at h
  ·rename_i i j l hs _
   split at h
   ·obtain⟨_,h⟩:=az h
    have h2:=ih _ _ _ _ h;exact⟨fun p hp=>h2.1 p (List.mem_cons_of_mem _ hp),fun p hp=>h2.2.1 p (by cases l<;>simp[mJ.zE,hp]),h2.2.2.1,h2.2.2.2⟩
   ·cases h
  ·cases h
 |program k ih=>intro m m' x h;exact ih _ _ _ _ h
 |_=>intros;simp_all [sU]
theorem Jr{α:Type}{P:Program}{Ok:Addr→Bool→Prop}{w:World}:∀(s:Sem α)(m m':mJ)(x:α),sU P s m=some (x,m')→(∀p∈m'.eqs,p.1=p.2)→(∀p∈m'.aZ,p.1<p.2)→Sat Ok w m.M→
 ∀(es:Array Event),∃iJ,(∀d,s.runT P (w.at d) es=(.ok x (w.at d),es++iJ))∧∀d,∀e∈iJ,Fg Ok (w.at d) e:=by
 intro s
 induction s with
 |pure a=>
  intro m m' x h he hb hS es;simp[sU] at h;obtain⟨rfl,rfl⟩:=h;exact⟨#[],fun d=>by simp[Sem.runT],by simp⟩
 |load md a k ih=>
  intro m m' x h he hb hS es;simp only[sU] at h
  split at h
  ·rename_i i j l hs ZT
   split at h
   ·rename_i r hr
    obtain⟨hc,h⟩:=az h;have hm:=qg _ _ _ _ h;have ea:a=r.ad j:=he (a,r.ad j) (hm.1 (a,r.ad j) (by simp[mJ.zE]));simp only[Bool.and_eq_true] at hc
    have hj:r.has j:=by
     refine⟨?_,by simpa using hc.1⟩;cases l with
     |true=>simpa using hc.2
     |false=>exact hb (j.1,r.n) (hm.2.1 (j.1,r.n) (by simp[mJ.zE]))
    subst ea;have hv:=hS.val i r hr j hj;obtain⟨iJ,h2,h3⟩:=ih _ _ _ _ h he hb hS (es.push ⟨.cell (r.ad j),false,md==.atomic⟩);refine⟨#[⟨.cell (r.ad j),false,md==.atomic⟩]++iJ,fun d=>?_,fun d e hm=>?_⟩
    ·have PF:(w.at d).cell? (r.ad j)=some (r.get j):=hv
     simp only[Sem.runT,PF];rw[h2 d];simp[←Array.append_assoc]
    ·rcases Array.mem_append.1 hm with z|z
     ·simp at z;subst z;exact ff hv (hS.ok i r hr j hj).1
     ·exact h3 d e z
   ·cases h
  ·cases h
 |program k ih=>
  intro m m' x h he hb hS es;obtain⟨iJ,h2,h3⟩:=ih _ _ _ _ h he hb hS es;exact⟨iJ,fun d=>by simp only[Sem.runT];exact h2 d,h3⟩
 |_=>intros;simp_all [sU]
theorem mapM_congr{f g:ResultVar→Sem Value}:∀(l:List ResultVar),(∀x∈l,f x=g x)→l.mapM f=l.mapM g
 |[],_=>rfl
 |x::l,h=>by rw[List.mapM_cons,List.mapM_cons,h x (List.mem_cons_self ..),mapM_congr l fun y hy=>h y (List.mem_cons_of_mem _ hy)]
theorem uI{fn:Func}{t t':Array Value}(h:∀r∈fn.results.toList,(∀x,r=.tmp x→t.getD x undef=t'.getD x undef)∧(∀x y,r=.cell x y→t.getD x undef=t'.getD x undef)):results fn t=results fn t':=by
 unfold results;obtain⟨l,hl⟩:∃l:List ResultVar,fn.results=l.toArray:=⟨fn.results.toList,by simp⟩;rw[hl] at h ⊢;rw[List.mapM_toArray,List.mapM_toArray,mapM_congr l (fun x hx=>?_)];have:=h x (by simpa using hx);cases x with
 |tmp a=>simp only;rw[this.1 a rfl]
 |cell a b=>simp only;rw[this.2 a b rfl]
theorem KC{P:Program}{main:Bool}{b:Frame}{a:Act}{cs:List Frame}{w:World}{t t':List Item}(h:KE t=some t'):stepG P main (G (b.at a t) cs) w=.go (G (b.at a t') cs) w:=by
 unfold KE at h
 split at h
 ·cases h;exact stepG_skip
 ·cases h;exact stepG_seq
 ·cases h;exact stepG_block
 ·cases h;exact stepG_loop
 ·exact stepG_exit h
 ·cases h;exact stepG_label
 ·cases h;exact stepG_region
 ·cases h;exact stepG_inBlock
 ·cases h;exact stepG_inLoop
 ·cases h;exact stepG_region_end
 ·cases h
def KY(b0:Frame)(nU:List Deferred)(cs0:List Frame):List XF→Nat→Frame→List Deferred→List Frame→Prop
 |[],_,b,ds,cs=>b=b0∧ds=nU∧cs=cs0
 |y::l,f,b,ds,cs=>b.kind=.normal∧b.fn=f∧ds=[]∧∃b' a' dY,cs=Frame.at b' a' y.todo::dY∧aO y.E y.N a'∧KY b0 nU cs0 l y.f b' a'.defers dY
def TR(b0:Frame)(nU:List Deferred)(cs0:List Frame):List XF→Goroutine→Prop
 |[],_=>False
 |x::l,g=>∃b a cs,g=G (Frame.at b a x.todo) cs∧aO x.E x.N a∧KY b0 nU cs0 l x.f b a.defers cs
structure oS(x:cT):Prop where
 eqs:∀p∈x.m.eqs,p.1=p.2
 aZ:∀p∈x.m.aZ,p.1<p.2
 dB:∀p∈x.dB,p.1=p.2
 fI:∀p∈x.fI,0≤p.1∧p.1<(p.2:Int)
section
variable{P:Program}{main:Bool}{B:Nat}{Ok:Addr→Bool→Prop}{Ψ:Goroutine→World→Prop}{b0:Frame}{nU:List Deferred}{cs0:List Frame}
theorem KY.late(hk:b0.kind≠.early){l:List XF}{f:Nat}{b:Frame}{ds:List Deferred}{cs:List Frame}(h:KY b0 nU cs0 l f b ds cs):b.kind≠.early:=by
 cases l with
 |nil=>rw[h.1];exact hk
 |cons y l=>rw[h.1];decide
theorem pe{f g:XF}{t:List Item}{E:Env}{d:Option Nat}{v:Value}{a:Act}(h:nv f t E d v=some g)(hA:aO E f.N a):g.f=f.f∧g.todo=t∧aO g.E g.N (a.put d v):=by
 cases d with
 |none=>simp[nv] at h;subst h;exact⟨rfl,rfl,hA⟩
 |some d=>
  obtain⟨hd,h⟩:=az h;cases h;exact⟨rfl,rfl,hA.put (by simpa using hd)⟩
theorem put_defers(a:Act)(d:Option Nat)(v:Value):(a.put d v).defers=a.defers:=by cases d<;>rfl
def xK(Ok:Addr→Bool→Prop)(B:Nat)(Ψ:Goroutine→World→Prop)(b0:Frame)(nU:List Deferred)(cs0:List Frame)(m0:mJ)(w:World)(x':cT):Prop:=
 ∀g' w',TR b0 nU cs0 x'.fs g'→Inv Ok B w' x'.m→Fr (Wr m0.M) w w'→(∀a,Wr x'.m.M a→Wr m0.M a∨w.heap.size≤a.block)→Ψ g' w'
theorem mL:∀(l:List Value)(n k:Nat)(v:Value),look (sG l n) k=some v→n≤k∧l[k-n]? =some v
 |[],n,k,v=>by simp[sG,look]
 |x::l,n,k,v=>fun h=>by
  simp only[sG,look] at h
  by_cases e:n=k
  ·subst e;simp at h;subst h;simp
  ·have e':(n==k)=false:=by simpa using e
   rw[e'] at h;obtain⟨h1,h2⟩:=mL l (n+1) k v h;refine⟨by omega,?_⟩;have:k-n=(k-(n+1))+1:=by omega
   rw[this];simpa using h2
theorem jE{h:Nat}{args:Array Value}{fn:Func}{c:Code}(hf:P.funcs[h]? =some fn)(hb:fn.body=some c):
 ∃a:Act,Frame.enter P h args .normal=(Frame.enter P h args .normal).at a [.code c]∧aO (sG args.toList 0) (args.size+(fn.ntmps-args.size)) a∧a.defers=[]:=by
 refine⟨⟨args++Array.replicate (fn.ntmps-args.size) undef,[]⟩,by simp[Frame.enter,Frame.at,hf,hb],⟨by simp,fun n v hn=>?_⟩,rfl⟩;obtain⟨_,h2⟩:=mL _ _ _ _ hn
 simp at h2
 have aT:n<args.size:=by
  rcases Nat.lt_or_ge n args.size with z|z
  ·exact z
  ·rw[Array.getElem?_eq_none z] at h2;cases h2
 rw[Array.getElem?_append_left aT];exact h2
theorem BH(F:aC P main (DX Ok) Ψ)(hB:∀(a:Addr)(wr:Bool),B≤a.block→Ok a wr)(hk:b0.kind≠.early){f:XF}{l:List XF}{x x':cT}{o:Oper}{E:Env}{ops:Array Oper}{i:Nat}{r:List Nat}{k:List Item}(h:Af P B f l x (.inRegion ops r::k) o E=some x')(ht:f.todo=.inRegion ops (i::r)::k)(ho:ops[i]? =some o)(hm:oS x'){b:Frame}{a:Act}{cs:List Frame}{w:World}(hA:aO E f.N a)(hw:Region.wanted o (yielded ops a.tmps)=true)(hR:KY b0 nU cs0 l f.f b a.defers cs)(hI:Inv Ok B w x.m)(K:xK Ok B Ψ b0 nU cs0 x.m w x'):Ψ (G (b.at a f.todo) cs) w:=by
 obtain⟨nC,h⟩:=az h;simp only[Bool.and_eq_true,Bool.not_eq_true'] at nC;obtain⟨AA,nC⟩:=nC;have cw:execOp a.eval o=execOp (ev E) o:=execOp_congr AA fun y hy=>hA.eval (Array.all_eq_true_iff_forall_mem.1 nC y hy)
 rw[ht]
 have fin:∀(v:Value)(m:mJ)(g:XF)(nx:Next),dK P B (execOp (ev E) o) x.m=some (nx,m)→(∀K':Act→World→Prop,∀W,uponK o a K' (.ok nx W)=K' (a.put o.dst v) W)→nv f (.inRegion ops r::k) E o.dst v=some g→x'={x with fs:=g::l,m:=m}→Ψ (G (b.at a (.inRegion ops (i::r)::k)) cs) w:=by
  intro v m g nx hs hu hp hx;have R9:(∀p∈m.eqs,p.1=p.2):=by have:=hm.eqs;rw[hx] at this;exact this
  have WN:(∀p∈m.aZ,p.1<p.2):=by have:=hm.aZ;rw[hx] at this;exact this
  obtain⟨w',iJ,S,h1,h2,h3,h4,h5⟩:=BB hB _ _ _ _ hs R9 WN w #[] hI;refine F.Zk ho hw (hR.late hk) fun d K' hK=>?_
  have e1:=h2 d;have e2:(execOp a.eval o).run P (w.at d)=.ok nx (w'.at d):=by rw[cw,←Sem.runT_fst (es:=#[]),e1]
  have e3:raw P a o (w.at d)=iJ:=by unfold raw Sem.events;rw[cw,e1];simp
  rw[e2,hu];obtain⟨p1,p2,p3⟩:=pe hp hA;refine hK _ _ S (by rw[e3];exact h3.1) ⟨h3.2 d,K _ _ ?_ (by rw[hx];exact h1) h4 (by rw[hx];exact h5)⟩;rw[hx];exact⟨b,_,cs,by rw[p2],p3,by rw[p1,put_defers];exact hR⟩
 split at h
 ·rename_i v m hs
  cases hp:nv f (.inRegion ops r::k) E o.dst v with
  |none=>rw[hp] at h;cases h
  |some g=>rw[hp] at h;exact fin v m g _ hs (fun _ _=>rfl) hp (Option.some.inj h).symm
 ·rename_i m hs
  cases hp:nv f (.inRegion ops r::k) E o.dst undef with
  |none=>rw[hp] at h;cases h
  |some g=>rw[hp] at h;exact fin undef m g _ hs (fun _ _=>rfl) hp (Option.some.inj h).symm
 ·split at h
  ·rename_i hh args hq
   split at h
   ·rename_i fn oO
    split at h
    ·rename_i c hc
     cases h
     have dQ:=fG _ _ hq;refine F.enter (f:=hh) (args:=args) ho hw (hR.late hk) (fun d=>?_) (fun d=>?_) ?_
     ·rw[cw,←Sem.runT_fst (es:=#[]),dQ]
     ·unfold Sem.events;rw[cw,dQ]
     ·obtain⟨aa,e1,e2,e3⟩:=jE (args:=args) oO hc
      refine K _ _ ?_ hI (Fr.refl _ _) (fun _ h=>.inl h);refine⟨_,aa,_,by rw[←e1],e2,?_⟩;exact⟨rfl,rfl,e3,b,a,cs,by rw[ht],hA,hR⟩
    ·cases h
   ·cases h
  ·cases h
 ·cases h
end
end Go.Proofs.YtobagnjnbmgidaaGreatDoor
