import Derived.Test.YtobagnjnbmgidabGreatDoorQ0
set_option linter.all false
set_option maxHeartbeats 0
set_option maxRecDepth 100000
namespace Go.Proofs.YtobagnjnbmgidabGreatDoor
open Go.Conc Go.RowKit
variable{a:Act}{E:Env}{fn:Func}{N fuel i n:Nat}{o:Oper}{O:Option (Nat×aH)}{R:aH}{α β:Type}{b:aC}{v:ay}{r X:aN}{l:oI}{J:cO}{k t:eC}
variable{P:aG}{T:Bool}{B B' L q:Nat}{H:dh}{U:gi}{b0:aC}{uF:wN}{cs0:cO}{A:g8}{w Q:aj}{M V:aW}{I:Array Nat}{Z:Env}
structure XF where
 f:Nat
 N:Nat
 todo:List Item
 E:Env
structure cS where
 fs:List XF
 m:lW
 bs:List (Bool×Bool)
 cY:List (Bool×Bool)
 eK:List (Int×Nat)
def Jt:List Item->Option (List Item)
 |.code .skip::k=>some k
 |.code (.seq y z)::k=>some (.code y::.code z::k)
 |.code (.block id c)::k=>some (.code c::.inBlock id::k)
 |.code (.loop c)::k=>some (.code c::.inLoop c::k)
 |.code (.exit id)::k=>exitTo id k
 |.code (.label _)::k=>some k
 |.code (.region _ A false)::k=>some (.inRegion A (List.range A.size)::k)
 |.inBlock _::k=>some k
 |.inLoop c::k=>some (.code c::.inLoop c::k)
 |.inRegion _ []::k=>some k
 |_=>none
def ru:List Value->Nat->Env
 |[],_=>[]
 |v::l,n=>(n,v)::ru l (n+1)
def mD(f:XF)(t:eC)(E:Env)(d:oQ)(v:ay):Option XF:=match d with
 |some d=>bif Nat.blt d f.N then some ⟨f.f,f.N,t,(d,v)::E⟩else none
 |none=>some ⟨f.f,f.N,t,E⟩
def Tj(P:aG)(E:Env)(o:Oper):Option (Value×Int×Nat):=match o.op with
 |.indexAddr t x i=>match ev E x,ev E i with
  |.slice (some a) len _,.int _ i=>match P.underlying t with
   |some (.slice el)=>match cV P (sizeOf el)with
    |some sz=>some (.pointer (some (a.add (i.toNat*sz))),i,len)
    |none=>none
   |_=>none
  |_,_=>none
 |.slice t x (some i) none none=>match ev E x,ev E i with
  |.slice (some a) len cap,.int _ i=>match P.underlying t with
   |some (.slice el)=>match cV P (sizeOf el)with
    |some sz=>some (.slice (some (a.add (i.toNat*sz))) (len-i.toNat) (cap-i.toNat),i,if len<=cap then len else 0)
    |none=>none
   |_=>none
  |_,_=>none
 |_=>none
def lN(o:Oper):Bool:=match o.op with
 |.select ..=>true
 |_=>false
def zy(P:aG)(B:Nat)(f:XF)(l:List XF)(x:cS)(t:eC)(o:Oper)(E:Env):Option cS:=
 bif !lN o&&o.op.operands.all (kn E)then
  match dw P B (execOp (ev E) o) x.m with
  |some (.value v,m)=>(mD f t E o.dst v).map λg=>{x with fs:=g::l,m:=m}
  |some (.skip,m)=>(mD f t E o.dst undef).map λg=>{x with fs:=g::l,m:=m}
  |some (.enter _ _,_)=>match cV P (execOp (ev E) o)with
   |some (.enter h args)=>match P.funcs[h]? with
    |some fn=>match fn.body with
     |some c=>some {x with fs:=⟨h,args.size+(fn.ntmps-args.size),[.code c],ru args.toList 0⟩::{f with E:=E}::l}
     |none=>none
    |none=>none
   |_=>none
  |_=>none
 else none
def tL(o:Oper):Bool:=match o.op with
 |.indexAddr ..=>true
 |.slice _ _ (some (.tmp _)) none none=>true
 |_=>false
def tD(P:aG)(B:Nat)(f:XF)(l:List XF)(x:cS)(t:eC)(o:Oper)(E:Env):Option cS:=
 bif tL o then match x.bs with
  |(_,true)::bs=>zy P B f l {x with bs:=bs} t o E
  |(_,false)::bs=>bif o.op.operands.all (kn E)then match Tj P E o with
   |some (v,i,n)=>(mD f t E o.dst v).map λg=>{x with fs:=g::l,bs:=bs,eK:=(i,n)::x.eK}
   |none=>none
   else none
  |[]=>none
 else zy P B f l x t o E
def Ks(P:aG)(B:Nat)(f:XF)(l:List XF)(x:cS)(A:g8)(i:Nat)(t:eC):Option cS:=match A[i]? with
 |none=>none
 |some o=>match o.guard with
  |none=>tD P B f l x t o f.E
  |some (j,want)=>match (A[j]?).bind (·.dst)with
   |none=>none
   |some d=>match look f.E d with
    |some (.bool u)=>match x.bs with
     |(b,s)::bs=>bif !s||(u==b)then
        let x':cS:={x with bs:=bs,cY:=bif s then x.cY else(u,b)::x.cY}
        bif b==want then tD P B {f with E:=(d,.bool b)::f.E} l x' t o ((d,.bool b)::f.E)else(mD f t ((d,.bool b)::f.E) o.dst undef).map λg=>{x' with fs:=g::l}
      else none
     |[]=>none
    |some (.tuple _)=>(mD f t f.E o.dst undef).map λg=>{x with fs:=g::l}
    |_=>none
def rF{α:Type}(P:aG):Sem α->lW->Option (α×lW)
 |.pure a,s=>some (a,s)
 |.load _ a k,s=>match s.hs with
  |(i,j,l)::hs=>match nth s.M i with
   |some r=>bif Nat.blt j.2 r.k&&(!l||Nat.blt j.1 r.n)then rF P (k (r.get j)) (s.yK hs s.M a (r.ad j) l j.1 r.n)else none
   |none=>none
  |[]=>none
 |.program k,s=>rF P (k P) s
 |_,_=>none
def Ew(E:Env):ResultVar->Bool
 |.tmp t=>(look E t).isSome
 |.cell a _=>(look E a).isSome
def Az(N:Nat)(E:Env):Array Value:=((List.range N).map λt=>(look E t).getD undef).toArray
def iV(P:aG)(f:XF)(m:lW):Option (Value×lW):=match P.funcs[f.f]? with
 |some fn=>bif fn.results.toList.all (Ew f.E)then rF P (results fn (Az f.N f.E)) m else none
 |none=>none
def xI(P:aG)(f:XF)(l:List XF)(x:cS):Option cS:=match l with
 |g::l=>match g.todo with
  |.inRegion A (i::r)::k=>match iV P f x.m with
   |some (v,m)=>(mD g (.inRegion A r::k) g.E ((A[i]?).bind (·.dst)) v).map λh=>{x with fs:=h::l,m:=m}
   |none=>none
  |_=>none
 |[]=>none
def mU(P:aG)(B:Nat)(x:cS):Option cS:=match x.fs with
 |[]=>none
 |f::l=>match Jt f.todo with
  |some t=>some {x with fs:={f with todo:=t}::l}
  |none=>match f.todo with
   |.code (.cond c y z)::k=>match ev f.E c with
    |.bool u=>match x.bs with
     |(b,s)::bs=>bif kn f.E c&&(!s||(u==b))then
        some {x with fs:={f with todo:=.code (bif b then y else z)::k,E:=match c with|.tmp d=>(d,.bool b)::f.E|_=>f.E}::l,bs:=bs,cY:=bif s then x.cY else(u,b)::x.cY}
      else none
     |[]=>none
    |_=>none
   |.inRegion A (i::r)::k=>Ks P B f l x A i (.inRegion A r::k)
   |.code .ret::_=>xI P f l x
   |[]=>xI P f l x
   |_=>none
def nL(P:aG)(B:Nat):Nat->cS->Option cS
 |0,x=>some x
 |n+1,x=>match mU P B x with
  |some x=>nL P B n x
  |none=>none
structure aR(E:Env)(N:Nat)(a:Act):Prop where
 sz:a.tmps.size=N
 val:∀n v,look E n=some v->a.tmps[n]? =some v
def aR.put{E:Env}{N d:Nat}{a:Act}{v:ay}(h:aR E N a)(c:d<N):aR ((d,v)::E) N (a.put (some d) v):=by
 refine⟨by simp[Act.put,h.sz],λn u b=>?_⟩;simp only[look]at b;by_cases e:d=n
 .subst e;simp at b;subst b;simp only[Act.put];rw[LN];rw[sJ (by rw[h.sz];exact c)]
 .have a:(d==n)=false:=by simpa using e
  rw[a]at b;simp only[Act.put];rw[ku e];exact h.val n u b
def aR.more{d:Nat}(h:aR E N a)(c:look E d=some v):aR ((d,v)::E) N a:=by
 refine⟨h.sz,λn u b=>?_⟩;simp only[look]at b;by_cases e:d=n
 .subst e;simp at b;subst b;exact h.val _ _ c
 .have a:(d==n)=false:=by simpa using e
  rw[a]at b;exact h.val n u b
def aR.eval{E:Env}{N:Nat}{a:Act}(h:aR E N a){x:Operand}(c:kn E x=true):a.eval x=ev E x:=by
 cases x with
 |tmp t=>
  cases b:look E t with
  |none=>simp[kn,b]at c
  |some v=>simp[Act.eval,ev,b,oK,h.val t v b]
 |_=>rfl
def execOp_congr{k d:Operand->Value}(u:lN o=false)(h:∀x∈o.op.operands,k x=d x):execOp k o=execOp d o:=by
 let⟨dst,op,_,z,after,guard⟩:=o;have s:∀(l:Array Operand),(∀x∈l,k x=d x)->l.map k=l.map d:=λl o=>Array.map_congr_left o;have q:∀(l:Array (Nat×Operand)),(∀p∈l,k p.2=d p.2)->(l.map fun(i,x)=>(i,k x))=(l.map fun(i,x)=>(i,d x)):=λl o=>Array.map_congr_left λp v=>by
  let⟨i,x⟩:=p;show(i,k x)=(i,d x)
  rw[o (i,x) v]
 have g:∀(l:Option Operand),(∀x∈l.toArray,k x=d x)->l.map k=l.map d:=λl o=>by cases l<;>simp_all
 have e:∀(c:Call)(t:TypeId),(∀x∈c.operands,k x=d x)->resolve k c t=resolve d c t:=λc t w=>by
  let⟨A,args,i⟩:=c;have y:args.map k=args.map d:=s _ λx j=>w x (by simp[Call.operands,j]);cases A with
  |builtin b=>simp only[resolve];rw[y]
  |invoke r n=>simp only[resolve];rw[y,w r (by simp[Call.operands])]
  |value f=>simp only[resolve];rw[y,w f (by simp[Call.operands])]
 cases op
 case build t d=>simp only[execOp];rw[q d λp v=>h p.2 (by simp[Op.operands];exact⟨p.1,v⟩)]
 case buildSlice t n d=>simp only[execOp];rw[q d λp v=>h p.2 (by simp[Op.operands];exact⟨p.1,v⟩)]
 case makeFunc fn a b=>simp only[execOp];rw[s a λx j=>h x (by simp[Op.operands,j]),s b λx j=>h x (by simp[Op.operands,j])]
 case slice t x l a m=>simp only[execOp];rw[h x (by simp[Op.operands]),g l λx j=>h x (by simp[Op.operands]at*;simp[j]),g a λx j=>h x (by simp[Op.operands]at*;simp[j]),g m λx j=>h x (by simp[Op.operands]at*;simp[j])]
 case makeMap t r=>simp only[execOp];rw[g r λx j=>h x (by simpa [Op.operands]using j)]
 case call c=>simp only[execOp];rw[e c _ h]
 case go c=>simp only[execOp];rw[e c _ h]
 case defer c=>simp only[execOp];rw[e c _ h]
 case select J b=>cases u
 all_goals simp_all [execOp,Op.operands]
def oP:∀(s:Sem α)(m b:lW)(x:α),rF P s m=some (x,b)->(∀p∈m.eqs,p∈b.eqs)/\(∀p∈m.cW,p∈b.cW)/\b.M=m.M/\b.c=m.c:=by
 intro s;induction s with
 |pure a=>intro m b x h;simp[rF]at h;obtain⟨rfl,rfl⟩:=h;exact⟨λ_ h=>h,λ_ h=>h,rfl,rfl⟩
 |load md a k d=>
  intro m b x h;simp only[rF]at h;split at h
  .rename_i i j l f _;split at h
   .let⟨_,h⟩:=aE h;have c:=d _ _ _ _ h;exact⟨λp e=>c.1 p (aP _ e),λp e=>c.2.1 p (by cases l<;>simp[lW.yK,e]),c.2.2.1,c.2.2.2⟩
   .cases h
  .cases h
 |program k d=>intro m b x h;exact d _ _ _ _ h
 |_=>intros;simp_all [rF]
def Ia:∀(s:Sem α)(m c:lW)(x:α),rF P s m=some (x,c)->(∀p∈c.eqs,p.1=p.2)->(∀p∈c.cW,p.1<p.2)->Sat H w m.M->
 ∀(es:dS),∃b,(∀d,s.runT P (w.at d) es=(.ok x (w.at d),es++b))/\∀d,∀e∈b,G4 H (w.at d) e:=by
 intro s;induction s with
 |pure a=>
  intro m c x h g n f es;simp[rF]at h;obtain⟨rfl,rfl⟩:=h;exact⟨#[],λd=>by simp[Sem.runT],ψ⟩
 |load md a k q=>
  intro m c x h g n f es;simp only[rF]at h;split at h
  .rename_i i j l F D;split at h
   .rename_i r B;let⟨u,h⟩:=aE h;have o:=oP _ _ _ _ h;have E:a=r.ad j:=g (a,r.ad j) (o.1 (a,r.ad j) (by simp[lW.yK]));simp only[bZ]at u;have C:r.has j:=by
     refine⟨?_,by simpa using u.1⟩;cases l with
     |true=>simpa using u.2
     |false=>exact n (j.1,r.n) (o.2.1 (j.1,r.n) (by simp[lW.yK]))
    subst E;have A:=f.val i r B j C;let⟨b,y,v⟩:=q _ _ _ _ h g n f (es.push ⟨.cell (r.ad j),false,md==.atomic⟩);refine⟨#[⟨.cell (r.ad j),false,md==.atomic⟩]++b,λd=>?_,λd e o=>?_⟩
    .have t:(w.at d).cell? (r.ad j)=some (r.get j):=A;simp only[Sem.runT,t];rw[y d];simp[<-Yz]
    .rcases nQ.1 o with z|z
     .simp at z;subst z;exact Rt A (f.ok i r B j C).1
     .exact v d e z
   .cases h
  .cases h
 |program k q=>
  intro m c x h g n f es;let⟨b,y,v⟩:=q _ _ _ _ h g n f es;exact⟨b,λd=>by simp only[Sem.runT];exact y d,v⟩
 |_=>intros;simp_all [rF]
def mapM_congr{f g:ResultVar->Sem Value}:∀(l:List ResultVar),(∀x∈l,f x=g x)->l.mapM f=l.mapM g
 |[],_=>rfl
 |x::l,h=>by rw[List.mapM_cons,List.mapM_cons,h x (bI ..),mapM_congr l λy a=>h y (aP _ a)]
def tE{t c:gd}(h:∀r∈fn.results.toList,(∀x,r=.tmp x->t.getD x undef=c.getD x undef)/\(∀x y,r=.cell x y->t.getD x undef=c.getD x undef)):results fn t=results fn c:=by
 unfold results;obtain⟨l,c⟩:∃l:List ResultVar,fn.results=l.toArray:=⟨fn.results.toList,ψ⟩;rw[c]at h ⊢;rw[List.mapM_toArray,List.mapM_toArray,mapM_congr l (λx c=>?_)];have:=h x (by simpa using c);cases x with
 |tmp a=>simp only;rw[this.1 a rfl]
 |cell a b=>simp only;rw[this.2 a b rfl]
def Js{c:eC}(h:Jt t=some c):stepG P T (G (b.at a t) J) w=.go (G (b.at a c) J) w:=by
 unfold Jt at h;split at h
 .cases h;exact stepG_skip
 .cases h;exact stepG_seq
 .cases h;exact stepG_block
 .cases h;exact stepG_loop
 .exact stepG_exit h
 .cases h;exact stepG_label
 .cases h;exact stepG_region
 .cases h;exact stepG_inBlock
 .cases h;exact stepG_inLoop
 .cases h;exact stepG_region_end
 .cases h
def Of(b0:aC)(uF:wN)(cs0:cO):List XF->Nat->Frame->List Deferred->List Frame->Prop
 |[],_,b,ds,J=>b=b0/\ds=uF/\J=cs0
 |y::l,f,b,ds,J=>b.kind=.normal/\b.fn=f/\ds=[]/\∃b' a' yR,J=Frame.at b' a' y.todo::yR/\aR y.E y.N a'/\Of b0 uF cs0 l y.f b' a'.defers yR
def R8(b0:aC)(uF:wN)(cs0:cO):List XF->Goroutine->Prop
 |[],_=>False
 |x::l,g=>∃b a J,g=G (Frame.at b a x.todo) J/\aR x.E x.N a/\Of b0 uF cs0 l x.f b a.defers J
structure oE(x:cS):Prop where
 eqs:∀p∈x.m.eqs,p.1=p.2
 cW:∀p∈x.m.cW,p.1<p.2
 cY:∀p∈x.cY,p.1=p.2
 eK:∀p∈x.eK,0<=p.1/\p.1<(p.2:Int)
def Of.late(a:b0.kind≠.early){l:List XF}{f:Nat}{ds:wN}(h:Of b0 uF cs0 l f b ds J):b.kind≠.early:=by
 cases l with
 |nil=>rw[h.1];exact a
 |cons y l=>rw[h.1];decide
def nY{f g:XF}{d:oQ}(h:mD f t E d v=some g)(b:aR E f.N a):g.f=f.f/\g.todo=t/\aR g.E g.N (a.put d v):=by
 cases d with
 |none=>simp[mD]at h;subst h;exact⟨rfl,rfl,b⟩
 |some d=>
  let⟨c,h⟩:=aE h;cases h;exact⟨rfl,rfl,b.put (by simpa using c)⟩
def put_defers(a:Act)(d:oQ)(v:ay):(a.put d v).defers=a.defers:=by cases d<;>rfl
def wC(H:dh)(B:Nat)(U:gi)(b0:aC)(uF:wN)(cs0:cO)(m0:lW)(w:aj)(x':cS):Prop:=
 ∀g' Q,R8 b0 uF cs0 x'.fs g'->Inv H B Q x'.m->Fr (Wr m0.M) w Q->(∀a,Wr x'.m.M a->Wr m0.M a\/w.heap.size<=a.block)->U g' Q
def lY:∀(l:iO)(n k:Nat)(v:ay),look (ru l n) k=some v->n<=k/\l[k-n]? =some v
 |[],n,k,v=>by simp[ru,look]
 |x::l,n,k,v=>λh=>by
  simp only[ru,look]at h;by_cases e:n=k
  .subst e;simp at h;subst h;simp
  .have a:(n==k)=false:=by simpa using e
   rw[a]at h;let⟨_,a⟩:=lY l (n+1) k v h;refine⟨ω,?_⟩;have:k-n=(k-(n+1))+1:=ω
   rw[this];simpa using a
def jy{h:Nat}{args:gd}{c:Code}(e:P.funcs[h]? =some fn)(f:fn.body=some c):
 ∃a:Act,Frame.enter P h args .normal=(Frame.enter P h args .normal).at a [.code c]/\aR (ru args.toList 0) (args.size+(fn.ntmps-args.size)) a/\a.defers=[]:=by
 refine⟨⟨args++Array.replicate (fn.ntmps-args.size) undef,[]⟩,by simp[Frame.enter,Frame.at,e,f],⟨ψ,λn v a=>?_⟩,rfl⟩;let⟨_,b⟩:=lY _ _ _ _ a;simp at b;have d:n<args.size:=by
  rcases zR n args.size with z|z
  .exact z
  .rw[LD z]at b;cases b
 rw[ve d];exact b
def AN(F:aB P T (DX H) U)(hB:∀(a:Addr)(wr:Bool),B<=a.block->H a wr)(hk:b0.kind≠.early){f:XF}{l:List XF}{x z:cS}(h:zy P B f l x (.inRegion A r::k) o E=some z)(ht:f.todo=.inRegion A (i::r)::k)(ho:A[i]? =some o)(hm:oE z)(O:aR E f.N a)(Z:Region.wanted o (yielded A a.tmps)=true)(D:Of b0 uF cs0 l f.f b a.defers J)(hI:Inv H B w x.m)(K:wC H B U b0 uF cs0 x.m w z):U (G (b.at a f.todo) J) w:=by
 let⟨n,h⟩:=aE h;simp only[bZ,mA]at n;let⟨s,n⟩:=n;have e:execOp a.eval o=execOp (ev E) o:=execOp_congr s λy hy=>O.eval (yJ.1 n y hy);rw[ht];have fin:∀(v:ay)(m:lW)(g:XF)(C:Next),dw P B (execOp (ev E) o) x.m=some (C,m)->(∀Y:Act->World->Prop,∀W,uponK o a Y (.ok C W)=Y (a.put o.dst v) W)->mD f (.inRegion A r::k) E o.dst v=some g->z={x with fs:=g::l,m:=m}->U (G (b.at a (.inRegion A (i::r)::k)) J) w:=by
  intro v m g C t hu j q;have M:(∀p∈m.eqs,p.1=p.2):=by have:=hm.eqs;rw[q]at this;exact this
  have L:(∀p∈m.cW,p.1<p.2):=by have:=hm.cW;rw[q]at this;exact this
  let⟨Q,R,S,h1,h2,h3,h4,h5⟩:=AH hB _ _ _ _ t M L w #[] hI;refine F.opx ho Z (D.late hk) λd Y hK=>?_;have I:=h2 d;have X:(execOp a.eval o).run P (w.at d)=.ok C (Q.at d):=by rw[e,<-fH (es:=#[]),I]
  have V:raw P a o (w.at d)=R:=by unfold raw Sem.events;rw[e,I];simp
  rw[X,hu];let⟨p1,p2,p3⟩:=nY j O;refine hK _ _ S (by rw[V];exact h3.1) ⟨h3.2 d,K _ _ ?_ (by rw[q];exact h1) h4 (by rw[q];exact h5)⟩;rw[q];exact⟨b,_,J,by rw[p2],p3,by rw[p1,put_defers];exact D⟩
 split at h
 .rename_i v m t;cases j:mD f (.inRegion A r::k) E o.dst v with
  |none=>rw[j]at h;cases h
  |some g=>rw[j]at h;exact fin v m g _ t (λ_ _=>rfl) j (Option.some.inj h).symm
 .rename_i m t;cases j:mD f (.inRegion A r::k) E o.dst undef with
  |none=>rw[j]at h;cases h
  |some g=>rw[j]at h;exact fin undef m g _ t (λ_ _=>rfl) j (Option.some.inj h).symm
 .split at h
  .rename_i hh args hq;split at h
   .rename_i fn N;split at h
    .rename_i c hc;cases h;have u:=fV _ _ hq;refine F.enter (f:=hh) (args:=args) ho Z (D.late hk) (λd=>?_) (λd=>?_) ?_
     .rw[e,<-fH (es:=#[]),u]
     .unfold Sem.events;rw[e,u]
     .let⟨aa,I,X,V⟩:=jy (args:=args) N hc;refine K _ _ ?_ hI (Fr.refl _ _) (λ_ h=>.inl h);refine⟨_,aa,_,by rw[<-I],X,?_⟩;exact⟨rfl,rfl,V,b,a,J,by rw[ht],O,D⟩
    .cases h
   .cases h
  .cases h
 .cases h
def Cq:∀(s:Sem α)(f:α->Sem β),cV P (s.bind f)=(cV P s).bind λa=>cV P (f a):=by
 intro s;induction s with
 |pure a=>intro f;rfl
 |program k b=>intro f;exact b _ f
 |_=>intro f;rfl
def cr(s:Sem α)(f:α->Sem β):cV P (s>>=f)=(cV P s).bind λa=>cV P (f a):=Cq s f
def gJ(a:α):cV P (pure a:Sem α)=some a:=rfl
def nk(t:TypeId)(d:TypeDesc)(h:P.underlying t=some d):cV P (underlying t)=some d:=by
 unfold underlying;simp[cr,program,cV,h,gJ]
def Zb{i:Int}(h:Tj P E o=some (v,i,n))(u:0<=i)(k:i<(n:Int)):cV P (execOp (ev E) o)=some (.value v):=by
 let⟨dst,op,w,p,after,guard⟩:=o;unfold Tj at h;split at h
 .rename_i t x q b;simp only at b;subst b;split at h
  .rename_i a len cap kd c e j;split at h
   .rename_i el g;split at h
    .rename_i m d;simp at h;obtain⟨rfl,rfl,rfl⟩:=h;simp only[execOp,cr,Instr.indexAt,e,j,asIntOf,gJ,fJ,nk t _ g,u,k,and_self,if_true,d]
    .cases h
   .cases h
  .cases h
 .rename_i t x q b;simp only at b;subst b;split at h
  .rename_i a len cap kd c e j;split at h
   .rename_i el g;split at h
    .rename_i m d;simp at h;obtain⟨rfl,rfl,rfl⟩:=h;have A:len<=cap/\c<(len:Int):=by split at k<;>omega
     have z:¬cap=c.toNat:=ω
     obtain⟨l,rfl⟩:∃l:Nat,c=l:=⟨c.toNat,ω⟩;simp[execOp,cr,Instr.sliceAt,Instr.slice,Instr.sliceBounds,Instr.sliceBound,asInt,e,j,asIntOf,gJ,fJ,nk t _ g,d];have s:¬cap=l:=ω
     have r:∀f:Nat->Next,cV P (f<$>sizeOf el)=(cV P (sizeOf el)).map f:=λf=>by
      show cV P (sizeOf el>>=λy=>pure (f y))=_;rw[cr,d];rfl
     rw[sJ (show l<=len by omega)];simp only[gJ,fJ,r,d];simp[s]
    .cases h
   .cases h
  .cases h
 .cases h
def AO(F:aB P T (DX H) U)(N:∀(a:Addr)(wr:Bool),B<=a.block->H a wr)(I:b0.kind≠.early){f:XF}{l:List XF}{x q:cS}(h:tD P B f l x (.inRegion A r::k) o E=some q)(t:f.todo=.inRegion A (i::r)::k)(z:A[i]? =some o)(C:oE q)(p:aR E f.N a)(s:Region.wanted o (yielded A a.tmps)=true)(m:Of b0 uF cs0 l f.f b a.defers J)(L:Inv H B w x.m)(K:wC H B U b0 uF cs0 x.m w q):U (G (b.at a f.todo) J) w:=by
 unfold tD at h;cases c:tL o with
 |false=>rw[c]at h;exact AN F N I h t z C p s m L K
 |true=>
  rw[c]at h;simp only[cond_true]at h;split at h
  .exact AN F N I h t z C p s m (x:={x with bs:=_}) L K
  .rename_i bs Y;let⟨D,h⟩:=aE h;split at h
   .rename_i v S n W;cases u:mD f (.inRegion A r::k) E o.dst v with
    |none=>rw[u]at h;cases h
    |some g=>
     rw[u]at h;cases h;have M:=C.eK (S,n) ψ;have X:=fV _ _ (Zb W M.1 M.2);have j:lN o=false:=by
      unfold tL at c;unfold lN;grind
     have e:execOp a.eval o=execOp (ev E) o:=execOp_congr j λy V=>p.eval (yJ.1 D y V);let⟨R,Q,O⟩:=nY u p;rw[t];refine F.op z s (m.late I) λd K' Z=>?_;have e2:(execOp a.eval o).run P (w.at d)=.ok (.value v) (w.at d):=by rw[e,<-fH (es:=#[]),X]
     have e3:raw P a o (w.at d)=#[]:=by unfold raw Sem.events;simp_all
     rw[e2];refine Z _ w ⟨by rw[e3];exact DX.still d ψ,K _ _ ?_ L (Fr.refl _ _) (λ_ h=>.inl h)⟩;exact⟨b,_,J,by rw[Q],O,by rw[R,put_defers];exact m⟩
   .cases h
  .cases h
def Ai{u b s:Bool}(h:(!s||(u==b))=true)(a:s=false->u=b):u=b:=by
 grind
def ME(F:aB P T (DX H) U)(Z:∀(a:Addr)(wr:Bool),B<=a.block->H a wr)(X:b0.kind≠.early){f:XF}{l:List XF}{x n:cS}(h:Ks P B f l x A i (.inRegion A r::k)=some n)(D:f.todo=.inRegion A (i::r)::k)(W:oE n)(KN:∀p∈n.cY,p.1=p.2)(v:aR f.E f.N a)(I:Of b0 uF cs0 l f.f b a.defers J)(L:Inv H B w x.m)(K:wC H B U b0 uF cs0 x.m w n)(m:∀y V:cS,∀f' E' o,tD P B f' l y (.inRegion A r::k) o E'=some V->∀p∈y.cY,p∈V.cY):U (G (b.at a f.todo) J) w:=by
 unfold Ks at h;split at h
 .cases h
 .rename_i o E;split at h
  .rename_i q;exact AO F Z X h D E W v (by simp[Region.wanted,q]) I L K
  .rename_i j want q;split at h
   .cases h
   .rename_i d Y;split at h
    .rename_i u C;split at h
     .rename_i M s bs hbs;let⟨hc,h⟩:=aE h;have S:u=M:=Ai hc λhs=>by
       subst hs;have Hg:(u,M)∈n.cY:=by
        cases c:(M==want)with
        |true=>simp only[c,cond_true]at h;exact m _ _ _ _ _ h _ ψ
        |false=>
         simp only[c,cond_false]at h;cases e:mD f (.inRegion A r::k) ((d,.bool M)::f.E) o.dst undef with
         |none=>simp_all
         |some g=>grind
       grind
      subst S;have t:aR ((d,.bool u)::f.E) f.N a:=v.more C;have z:yielded A a.tmps j=some u:=by
       unfold yielded;rw[Y];simp only[fJ];rw[v.val d _ C]
      cases c:(u==want)with
      |true=>
       simp only[c,cond_true]at h;have R:u=want:=ξ
       refine AO F Z X (f:={f with E:=(d,.bool u)::f.E}) (x:={x with bs:=bs,cY:=_}) h D E W t (by simp[Region.wanted,q,z,R]) I L K
      |false=>
       simp only[c,cond_false]at h;cases e:mD f (.inRegion A r::k) ((d,.bool u)::f.E) o.dst undef with
       |none=>rw[e]at h;cases h
       |some g=>
        rw[e]at h;cases h;let⟨Q,O,N⟩:=nY e t;rw[D];refine F.unwanted E (by simp[Region.wanted,q,z];simp_all) (K _ _ ?_ L (Fr.refl _ _) (λ_ h=>.inl h));exact⟨b,_,J,by rw[O],N,by rw[Q,put_defers];exact I⟩
     .cases h
    .rename_i arr C;cases e:mD f (.inRegion A r::k) f.E o.dst undef with
     |none=>rw[e]at h;cases h
     |some g=>
      rw[e]at h;cases h;let⟨Q,O,N⟩:=nY e v;have z:yielded A a.tmps j=none:=by
       unfold yielded;rw[Y];simp only[fJ];rw[v.val d _ C]
      rw[D];refine F.unwanted E (by simp[Region.wanted,q,z]) (K _ _ ?_ L (Fr.refl _ _) (λ_ h=>.inl h));exact⟨b,_,J,by rw[O],N,by rw[Q,put_defers];exact I⟩
    .cases h
def aB.vS{D:yW}(F:aB P T D U){f:eC}{c:aC}(j:b.kind=.normal)(l:a.defers=[])(k:P.funcs[b.fn]? =some fn)(g:∀d,(results fn a.tmps).run P (w.at d)=.ok v (w.at d))(i:∀d es,(∀e∈es,e∈(results fn a.tmps).events P (w.at d) #[])->D (w.at d) (w.at d) es)(h:U (G (c.finish v) J) w):U (G {b.at a f with mode:=.returning} (c::J)) w:=
 F.step _ _ rfl λd=>by
  have this:∀W,(results fn a.tmps).run P W=.ok v W->stepG P T (G {b.at a f with mode:=.returning} (c::J)) W=.go (G (c.finish v) J) W (seen P b.fn ((results fn a.tmps).events P W #[])):=λW g=>by
   simp[G,stepG,unwind,doReturn,Frame.at,j,l,k,g,GStep.after]
  refine⟨_,_,_,this _ (g d),i d _ λe b=>mem_seen b,F.at' _ _ _ h,λz x c j=>?_⟩;have h:=run_set x (results fn a.tmps) (w.at d) #[] j (by rw[fH,g d];trivial) (c _ _ _ (i d _ λe b=>b));have b:(results fn a.tmps).run P ((w.at d).setCell z x)=.ok v ((w.at d).setCell z x):=by rw[<-fH (es:=#[]),h,fH,g d];rfl
  simp_all
def qD{f:XF}{m b:lW}(h:iV P f m=some (v,b))(B:∀p∈b.eqs,p.1=p.2)(C:∀p∈b.cW,p.1<p.2)(o:aR f.E f.N a)(D:Sat H w m.M):
 ∃fn,P.funcs[f.f]? =some fn/\(∀d,(results fn a.tmps).run P (w.at d)=.ok v (w.at d))/\(∀d es,(∀e∈es,e∈(results fn a.tmps).events P (w.at d) #[])->DX H (w.at d) (w.at d) es)/\b.M=m.M/\b.c=m.c:=by
 unfold iV at h;split at h
 .rename_i fn n;let⟨s,h⟩:=aE h;have i:∀t u,look f.E t=some u->a.tmps.getD t undef=(Az f.N f.E).getD t undef:=λt u e=>by
   have g:=o.val t u e;have k:t<f.N:=by
    rcases zR t f.N with z|z
    .exact z
    .rw[LD (by rw[o.sz];exact z)]at g;cases g
   rw[oK,g,oK];simp[Az,k,e]
  have F:results fn a.tmps=results fn (Az f.N f.E):=tE λr q=>by
   have c:=eZ.1 s r q;refine⟨λx e=>?_,λx y e=>?_⟩
   .subst e;cases l:look f.E x with
    |none=>simp[Ew,l]at c
    |some u=>simp_all
   .subst e;cases l:look f.E x with
    |none=>simp[Ew,l]at c
    |some u=>simp_all
  let⟨E,g,G⟩:=Ia _ _ _ _ h B C D #[];have j:=oP _ _ _ _ h;refine⟨fn,n,λd=>ξ,λd es A=>DX.still d λe j=>?_,j.2.2.1,j.2.2.2⟩;simp_all
 .cases h
def lF{f:XF}{m a:lW}(h:iV P f m=some (v,a)):(∀p∈m.eqs,p∈a.eqs)/\(∀p∈m.cW,p∈a.cW)/\a.M=m.M/\a.c=m.c:=by
 unfold iV at h;split at h
 .let⟨_,h⟩:=aE h;exact oP _ _ _ _ h
 .cases h
def Inv.same{m a:lW}(h:Inv H B w m)(c:a.M=m.M)(b:a.c=m.c):Inv H B w a:=⟨by rw[c];exact h.sat,by rw[b];exact h.sz⟩
def AQ(F:aB P T (DX H) U){f:XF}{l:List XF}{x d:cS}(h:xI P f l x=some d)(s:oE d)(Q:aR f.E f.N a)(O:Of b0 uF cs0 l f.f b a.defers J)(t:Inv H B w x.m)(K:wC H B U b0 uF cs0 x.m w d)(c:eC):U (G {b.at a c with mode:=.returning} J) w:=by
 unfold xI at h;split at h
 .rename_i g l;split at h
  .rename_i A i r k M;split at h
   .rename_i v m L;cases p:mD g (.inRegion A r::k) g.E ((A[i]?).bind (·.dst)) v with
    |none=>rw[p]at h;cases h
    |some V=>
     rw[p]at h;cases h;obtain⟨C,S,z,R,W,q,rfl,y,u⟩:=O;let⟨fn,N,o,n,j,e⟩:=qD L s.eqs s.cW Q t.sat;let⟨I,E,D⟩:=nY p y;refine F.vS C z ξ o n ?_;rw[M,bQ];refine K _ _ ?_ (t.same j e) (Fr.refl _ _) (λ_ h=>.inl ξ);exact⟨R,_,q,by rw[E],D,by rw[I,put_defers];exact u⟩
   .cases h
  .cases h
 .cases h
structure Sub(x y:cS):Prop where
 eqs:∀p∈x.m.eqs,p∈y.m.eqs
 cW:∀p∈x.m.cW,p∈y.m.cW
 cY:∀p∈x.cY,p∈y.cY
 eK:∀p∈x.eK,p∈y.eK
def Sub.refl(x:cS):Sub x x:=⟨λ_ h=>h,λ_ h=>h,λ_ h=>h,λ_ h=>h⟩
def Sub.trans{x y z:cS}(h:Sub x y)(b:Sub y z):Sub x z:=⟨λp a=>b.eqs p (h.eqs p a),λp a=>b.cW p (h.cW p a),λp a=>b.cY p (h.cY p a),λp a=>b.eK p (h.eK p a)⟩
def Sub.met{x y:cS}(h:Sub x y)(b:oE y):oE x:=⟨λp a=>b.eqs p (h.eqs p a),λp a=>b.cW p (h.cW p a),λp a=>b.cY p (h.cY p a),λp a=>b.eK p (h.eK p a)⟩
def map_some{o:Option α}{f:α->β}{y:β}(h:o.map f=some y):∃a,o=some a/\f a=y:=by cases o with|none=>cases h|some a=>exact⟨a,rfl,Option.some.inj h⟩
def xC{f:XF}{l:List XF}{x b:cS}(h:zy P B f l x t o E=some b):Sub x b:=by
 let⟨_,h⟩:=aE h;split at h
 .rename_i v m a;obtain⟨g,_,rfl⟩:=map_some h;have:=gI _ _ _ _ a;exact⟨this.1,this.2,λ_ h=>h,λ_ h=>h⟩
 .rename_i m a;obtain⟨g,_,rfl⟩:=map_some h;have:=gI _ _ _ _ a;exact⟨this.1,this.2,λ_ h=>h,λ_ h=>h⟩
 .split at h
  .split at h
   .split at h
    .cases h;exact⟨λ_ h=>h,λ_ h=>h,λ_ h=>h,λ_ h=>h⟩
    .cases h
   .cases h
  .cases h
 .cases h
def rJ{f:XF}{l:List XF}{x b:cS}(h:tD P B f l x t o E=some b):Sub x b:=by
 unfold tD at h;cases a:tL o with
 |false=>rw[a]at h;exact xC h
 |true=>
  rw[a]at h;simp only[cond_true]at h;split at h
  .have:=xC h;exact⟨this.eqs,this.cW,this.cY,this.eK⟩
  .let⟨_,h⟩:=aE h;split at h
   .obtain⟨g,_,rfl⟩:=map_some h;exact⟨λ_ h=>h,λ_ h=>h,λ_ h=>h,λ_ h=>aP _ h⟩
   .cases h
  .cases h
def Ip{f:XF}{l:List XF}{x c:cS}(h:Ks P B f l x A i t=some c):Sub x c:=by
 unfold Ks at h;split at h
 .cases h
 .split at h
  .exact rJ h
  .rename_i want _;split at h
   .cases h
   .split at h
    .rename_i u _;split at h
     .rename_i e s j _;let⟨_,h⟩:=aE h;have d:∀p∈x.cY,p∈(bif s then x.cY else(u,e)::x.cY):=λp b=>by cases s<;>simp[b]
      cases a:(e==want)with
      |true=>simp only[a,cond_true]at h;have:=rJ h;exact⟨this.eqs,this.cW,λp b=>this.cY p (d p b),this.eK⟩
      |false=>simp only[a,cond_false]at h;obtain⟨g,_,rfl⟩:=map_some h;exact⟨λ_ h=>h,λ_ h=>h,d,λ_ h=>h⟩
     .cases h
    .obtain⟨g,_,rfl⟩:=map_some h;exact⟨λ_ h=>h,λ_ h=>h,λ_ h=>h,λ_ h=>h⟩
    .cases h
def xH{f:XF}{l:List XF}{x a:cS}(h:xI P f l x=some a):Sub x a:=by
 unfold xI at h;split at h
 .split at h
  .split at h
   .rename_i b;obtain⟨g,_,rfl⟩:=map_some h;have:=lF b;exact⟨this.1,this.2.1,λ_ h=>h,λ_ h=>h⟩
   .cases h
  .cases h
 .cases h
def uM{x a:cS}(h:mU P B x=some a):Sub x a:=by
 unfold mU at h;split at h
 .cases h
 .split at h
  .cases h;exact⟨λ_ h=>h,λ_ h=>h,λ_ h=>h,λ_ h=>h⟩
  .split at h
   .split at h
    .split at h
     .rename_i d s c _;let⟨_,h⟩:=aE h;cases h;exact⟨λ_ h=>h,λ_ h=>h,λp b=>by cases s<;>simp[b],λ_ h=>h⟩
     .cases h
    .cases h
   .exact Ip h
   .exact xH h
   .exact xH h
   .cases h
def qG:∀(n:Nat)(x a:cS),nL P B n x=some a->Sub x a
 |0,x,a,h=>by cases h;exact Sub.refl _
 |n+1,x,a,h=>by
  simp only[nL]at h;split at h
  .rename_i y b;exact(uM b).trans (qG n y a h)
  .cases h
def yq(F:aB P T (DX H) U)(X:∀(a:Addr)(wr:Bool),B<=a.block->H a wr)(V:b0.kind≠.early){x D:cS}(h:mU P B x=some D)(m:oE D){g:aV}(M:R8 b0 uF cs0 x.fs g)(q:Inv H B w x.m)(K:wC H B U b0 uF cs0 x.m w D):U g w:=by
 unfold mU at h;split at h
 .cases h
 .rename_i f l I;rw[I]at M;obtain⟨b,a,J,rfl,j,n⟩:=M;split at h
  .rename_i t e;cases h;exact F.ctl (λ_=>Js e) (K _ _ ⟨b,a,J,rfl,j,n⟩ q (Fr.refl _ _) (λ_ h=>.inl h))
  .split at h
   .rename_i c y z k e;split at h
    .rename_i u G;split at h
     .rename_i O s bs W;let⟨C,h⟩:=aE h;cases h;simp only[bZ]at C;have E:u=O:=Ai C.2 λQ=>by subst Q;exact m.cY (u,O) ψ
      subst E;have N:=j.eval C.1;rw[G]at N;rw[e];refine F.ctl (λ_=>stepG_cond (t:=u) N) (K _ _ ⟨b,a,J,?_,?_,n⟩ q (Fr.refl _ _) (λ_ h=>.inl h))
      .cases u<;>rfl
      .cases c with
       |tmp d=>
        refine j.more ?_;have Y:=C.1;cases L:look f.E d with
        |none=>simp[kn,L]at Y
        |some v=>simp[ev,L]at G;rw[G]
       |_=>exact j
     .cases h
    .cases h
   .rename_i A i r k e;exact ME F X V h e m m.cY j n q K (λy Z f' E' o R p S=>(rJ R).cY p S)
   .rename_i k e;rw[e];exact F.ctl (λ_=>stepG_ret') (AQ F h m j n q K _)
   .rename_i e;rw[e];exact F.ctl (λ_=>stepG_end) (AQ F h m j n q K _)
   .cases h
def ym(F:aB P T (DX H) U)(r:∀(a:Addr)(wr:Bool),B<=a.block->H a wr)(q:b0.kind≠.early):∀(n:Nat){x b:cS}(h:nL P B n x=some b)(e:oE b){g:aV}{w:aj}(f:R8 b0 uF cs0 x.fs g)(i:Inv H B w x.m)(K:wC H B U b0 uF cs0 x.m w b),U g w
 |0,x,b,h,e,g,w,f,i,K=>by cases h;exact K _ _ f i (Fr.refl _ _) (λ_ h=>.inl h)
 |n+1,x,b,h,e,g,w,f,i,K=>by
  simp only[nL]at h;split at h
  .rename_i y s;refine yq F r q s ((qG n y b h).met e) f i λA Q k o d c=>ym F r q n h e k o λv u j m p l=>K _ _ j m (d.trans p c) (λa t=>(l a t).elim (c a) (λz=>.inr (aT d.size z)))
  .cases h
def zq:∀(s:Sem α)(m c:lW)(x:α),dw P B s m=some (x,c)->m.c<=c.c:=by
 intro s;induction s with
 |pure a=>intro m c x h;simp[dw]at h;obtain⟨rfl,rfl⟩:=h;exact az _
 |load md a k b=>
  intro m c x h;simp only[dw]at h;split at h
  .split at h
   .let⟨_,h⟩:=aE h;have:=b _ _ _ _ h;exact this
   .cases h
  .cases h
 |store md a v k b=>
  intro m c x h;simp only[dw]at h;split at h
  .split at h
   .let⟨_,h⟩:=aE h;have:=b _ _ _ h;exact this
   .cases h
  .cases h
 |new o k b=>
  intro m c x h;simp only[dw]at h;split at h
  .have:=b _ _ _ _ h;simp at this;omega
  .cases h
 |program k b=>intro m c x h;exact b _ _ _ _ h
 |mark mk k b=>
  intro m c x h;cases mk<;>simp only[dw]at h<;>first|exact b _ _ _ h|cases h
 |_=>intros;simp_all [dw]
def rE:∀(s:Sem α)(m b:lW)(x:α),dw P B s m=some (x,b)->b.c=m.c->dw P B' s m=some (x,b):=by
 intro s;induction s with
 |pure a=>intro m b x h _;exact h
 |load md a k c=>
  intro m b x h d;simp only[dw]at h ⊢;split at h
  .split at h
   .let⟨e,h⟩:=aE h;rw[e];exact c _ _ _ _ h d
   .cases h
  .cases h
 |store md a v k c=>
  intro m b x h d;simp only[dw]at h ⊢;split at h
  .split at h
   .let⟨e,h⟩:=aE h;rw[e];exact c _ _ _ h d
   .cases h
  .cases h
 |new o k c=>
  intro m b x h d;simp only[dw]at h;split at h
  .have:=zq _ _ _ _ h;simp at this;omega
  .cases h
 |program k c=>intro m b x h d;exact c _ _ _ _ h d
 |mark mk k c=>
  intro m b x h;cases mk<;>simp only[dw]at h<;>first|exact c _ _ _ h|cases h
 |_=>intros;simp_all [dw]
def EL{f:XF}{l:List XF}{x d:cS}(h:zy P B f l x t o E=some d):x.m.c<=d.m.c/\(d.m.c=x.m.c->zy P B' f l x t o E=some d):=by
 let⟨u,h⟩:=aE h;unfold zy;rw[u];simp only[cond_true];split at h
 .rename_i v m b;obtain⟨g,j,rfl⟩:=map_some h;exact⟨zq _ _ _ _ b,λe=>by rw[rE (B':=B') _ _ _ _ b e];simp only;rw[j];rfl⟩
 .rename_i m b;obtain⟨g,j,rfl⟩:=map_some h;exact⟨zq _ _ _ _ b,λe=>by rw[rE (B':=B') _ _ _ _ b e];simp only;rw[j];rfl⟩
 .rename_i f1 z w b;split at h
  .rename_i q args p;have i:dw P B' (execOp (ev E) o) x.m=some (.enter q args,x.m):=by
    have key:∀(s:Sem Next)(y:Next)(m:lW),cV P s=some y->dw P B' s m=some (y,m):=by
     intro s;induction s with
     |pure a=>intro y m h;simp[cV]at h;subst h;rfl
     |program k n=>intro y m h;exact n _ _ _ h
     |_=>intros;simp_all [cV]
    exact key _ _ _ p
   split at h
   .rename_i fn r;split at h
    .rename_i c e;cases h;exact⟨az _,λ_=>by rw[i]⟩
    .cases h
   .cases h
  .cases h
 .cases h
def EM{f:XF}{l:List XF}{x b:cS}(h:tD P B f l x t o E=some b):x.m.c<=b.m.c/\(b.m.c=x.m.c->tD P B' f l x t o E=some b):=by
 unfold tD at h ⊢;cases a:tL o with
 |false=>rw[a]at h;simp only[cond_false]at h ⊢;exact EL h
 |true=>
  rw[a]at h;simp only[cond_true]at h ⊢;split at h
  .have:=EL (B':=B') h;exact this
  .have b:=h;let⟨d,h⟩:=aE h;split at h
   .obtain⟨g,c,rfl⟩:=map_some h;exact⟨az _,λ_=>by rw[d,c];rfl⟩
   .cases h
  .cases h
def PC{f:XF}{l:List XF}{x b:cS}(h:Ks P B f l x A i t=some b):x.m.c<=b.m.c/\(b.m.c=x.m.c->Ks P B' f l x A i t=some b):=by
 unfold Ks at h ⊢;split at h
 .cases h
 .split at h
  .exact EM h
  .rename_i want _;split at h
   .cases h
   .split at h
    .split at h
     .rename_i j s k _;have e:=h;let⟨d,h⟩:=aE h;cases a:(j==want)with
      |true=>simp only[a,cond_true]at h ⊢;rw[d];simp only[cond_true];exact EM h
      |false=>simp only[a,cond_false]at h ⊢;obtain⟨g,c,rfl⟩:=map_some h;exact⟨az _,λ_=>by rw[d,c];rfl⟩
     .cases h
    .have e:=h;obtain⟨g,c,rfl⟩:=map_some h;exact⟨az _,λ_=>e⟩
    .cases h
def EP{f:XF}{l:List XF}{x a:cS}(h:xI P f l x=some a):a.m.c=x.m.c:=by
 unfold xI at h;split at h
 .split at h
  .split at h
   .rename_i b;obtain⟨g,_,rfl⟩:=map_some h;exact(lF b).2.2.2
   .cases h
  .cases h
 .cases h
def Bw{x a:cS}(h:mU P B x=some a):x.m.c<=a.m.c/\(a.m.c=x.m.c->mU P B' x=some a):=by
 unfold mU at h ⊢;split at h
 .cases h
 .split at h
  .cases h;exact⟨az _,λ_=>rfl⟩
  .split at h
   .split at h
    .split at h
     .have b:=h;let⟨a,h⟩:=aE h;cases h;exact⟨az _,λ_=>b⟩
     .cases h
    .cases h
   .exact PC h
   .exact⟨pK (EP h).symm,λ_=>h⟩
   .exact⟨pK (EP h).symm,λ_=>h⟩
   .cases h
def Bv:∀(n:Nat){x a:cS},nL P B n x=some a->x.m.c<=a.m.c/\(a.m.c=x.m.c->nL P B' n x=some a)
 |0,x,a,h=>by cases h;exact⟨az _,λ_=>rfl⟩
 |n+1,x,a,h=>by
  simp only[nL]at h ⊢;split at h
  .rename_i y d;have c:=Bw (B':=B') d;have b:=Bv n h;refine⟨aT c.1 b.1,λe=>?_⟩;rw[c.2 ω];simp only;exact b.2 ω
  .cases h
def yD(x:cS):Bool:=match x.fs with
 |[f]=>match f.todo with
  |[]=>true
  |.code .ret::_=>true
  |_=>false
 |_=>false
def pV(P:aG)(B:Nat):Nat->cS->Option cS
 |0,_=>none
 |n+1,x=>bif yD x then some x else match mU P B x with
  |some y=>pV P B n y
  |none=>none
def qP{P:aG}{B:Nat}:∀(n:Nat){x y:cS},pV P B n x=some y->yD y=true/\∃k,nL P B k x=some y
 |0,x,y,h=>by cases h
 |n+1,x,y,h=>by
  simp only[pV]at h;cases a:yD x with
  |true=>rw[a]at h;simp at h;subst h;exact⟨a,0,rfl⟩
  |false=>
   rw[a]at h;simp only[cond_false]at h;split at h
   .rename_i z b;let⟨d,k,c⟩:=qP n h;exact⟨d,k+1,by simp only[nL,b];exact c⟩
   .cases h
def MF(P:aG)(B:Nat)(E:Env)(o:Oper)(x:cS):Option (Value×cS):=
 bif !lN o&&o.op.operands.all (kn E)then
  bif tL o then match x.bs with
   |(_,true)::bs=>match dw P B (execOp (ev E) o) x.m with
    |some (.value v,m)=>some (v,{x with m:=m,bs:=bs})
    |_=>none
   |(_,false)::bs=>match Tj P E o with
    |some (v,i,n)=>some (v,{x with bs:=bs,eK:=(i,n)::x.eK})
    |none=>none
   |[]=>none
  else match dw P B (execOp (ev E) o) x.m with
   |some (.value v,m)=>some (v,{x with m:=m})
   |some (.skip,m)=>some (undef,{x with m:=m})
   |some (.enter _ _,_)=>match cV P (execOp (ev E) o)with
    |some (.enter h args)=>match P.funcs[h]? with
     |some fn=>match fn.body with
      |some c=>match pV P B 2000 {x with fs:=[⟨h,args.size+(fn.ntmps-args.size),[.code c],ru args.toList 0⟩]} with
       |some y=>match y.fs with
        |[f]=>bif f.f==h then(iV P f y.m).map λp=>(p.1,{y with m:=p.2})else none
        |_=>none
       |none=>none
      |none=>none
     |none=>none
    |_=>none
   |_=>none
 else none
def wH(P:aG)(B:Nat)(A:g8)(E:Env)(o:Oper)(x:cS):Option (Value×cS):=match o.guard with
 |none=>MF P B E o x
 |some (j,want)=>match (A[j]?).bind (·.dst)with
  |none=>none
  |some d=>match look E d with
   |some (.bool u)=>match x.bs with
    |(b,s)::bs=>bif !s||(u==b)then
       (bif b==want then MF P B ((d,.bool b)::E) o {x with bs:=bs,cY:=bif s then x.cY else(u,b)::x.cY} else some (undef,{x with bs:=bs,cY:=bif s then x.cY else(u,b)::x.cY}))
     else none
    |[]=>none
   |some (.tuple _)=>some (undef,x)
   |_=>none
def YI{x y:cS}(h:MF P B E o x=some (v,y)):Sub x y:=by
 let⟨_,h⟩:=aE h;cases b:tL o with
 |true=>
  rw[b]at h;simp only[cond_true]at h;split at h
  .split at h
   .rename_i a;cases h;have:=gI _ _ _ _ a;exact⟨this.1,this.2,λ_ h=>h,λ_ h=>h⟩
   .cases h
  .split at h
   .cases h;exact⟨λ_ h=>h,λ_ h=>h,λ_ h=>h,λ_ h=>aP _ h⟩
   .cases h
  .cases h
 |false=>
  rw[b]at h;simp only[cond_false]at h;split at h
  .rename_i a;cases h;have:=gI _ _ _ _ a;exact⟨this.1,this.2,λ_ h=>h,λ_ h=>h⟩
  .rename_i a;cases h;have:=gI _ _ _ _ a;exact⟨this.1,this.2,λ_ h=>h,λ_ h=>h⟩
  .split at h
   .split at h
    .split at h
     .split at h
      .rename_i z f;split at h
       .let⟨_,h⟩:=aE h;let⟨j,g,e⟩:=map_some h;cases e;let⟨_,k,i⟩:=qP _ f;have:=qG _ _ _ i;have d:=lF g;exact⟨λp c=>d.1 p (this.eqs p c),λp c=>d.2.1 p (this.cW p c),this.cY,this.eK⟩
       .cases h
      .cases h
     .cases h
    .cases h
   .cases h
  .cases h
def Fe(F:aB P T (DX H) U)(hB:∀(a:Addr)(wr:Bool),B<=a.block->H a wr)(hk:b.kind≠.early){x y:cS}(Z:A[i]? =some o)(hw:Region.wanted o (yielded A a.tmps)=true)(h:MF P B E o x=some (v,y))(g:oE y)(hA:aR E N a)(hI:Inv H B w x.m)(K:∀Q,Inv H B Q y.m->Fr (Wr x.m.M) w Q->(∀a,Wr y.m.M a->Wr x.m.M a\/w.heap.size<=a.block)->U (G (b.at (a.put o.dst v) (.inRegion A X::k)) J) Q):U (G (b.at a (.inRegion A (i::X)::k)) J) w:=by
 let⟨q,h⟩:=aE h;simp only[bZ,mA]at q;let⟨C,q⟩:=q;have j:execOp a.eval o=execOp (ev E) o:=execOp_congr C λy hy=>hA.eval (yJ.1 q y hy)
 have fin:∀(v:ay)(m:lW)(Y:Next),dw P B (execOp (ev E) o) x.m=some (Y,m)->(∀K':Act->World->Prop,∀W,uponK o a K' (.ok Y W)=K' (a.put o.dst v) W)->(∀p∈m.eqs,p.1=p.2)->(∀p∈m.cW,p.1<p.2)->
  (∀Q,Inv H B Q m->Fr (Wr x.m.M) w Q->(∀a,Wr m.M a->Wr x.m.M a\/w.heap.size<=a.block)->U (G (b.at (a.put o.dst v) (.inRegion A X::k)) J) Q)->U (G (b.at a (.inRegion A (i::X)::k)) J) w:=by
  intro v m Y t hu Ve hm2 K;let⟨Q,TK,S,h1,h2,h3,h4,h5⟩:=AH hB _ _ _ _ t Ve hm2 w #[] hI;refine F.opx Z hw hk λd K' hK=>?_;have e2:(execOp a.eval o).run P (w.at d)=.ok Y (Q.at d):=ξ
  have e3:raw P a o (w.at d)=TK:=by unfold raw Sem.events;simp_all
  grind
 cases L:tL o with
 |true=>
  rw[L]at h;simp only[cond_true]at h;split at h
  .split at h
   .rename_i t;cases h;exact fin _ _ _ t (λ_ _=>rfl) g.eqs g.cW K
   .cases h
  .split at h
   .rename_i v' ii n hx;cases h;have hi:=g.eK (ii,n) ψ;have hq:=fV _ _ (Zb hx hi.1 hi.2);refine F.op Z hw hk λd K' hK=>?_;have e2:(execOp a.eval o).run P (w.at d)=.ok (.value v) (w.at d):=by rw[j,<-fH (es:=#[]),hq]
    have e3:raw P a o (w.at d)=#[]:=by unfold raw Sem.events;simp_all
    rw[e2];exact hK _ w ⟨by rw[e3];exact DX.still d ψ,K _ hI (Fr.refl _ _) (λ_ h=>.inl h)⟩
   .cases h
  .cases h
 |false=>
  rw[L]at h;simp only[cond_false]at h;split at h
  .rename_i t;cases h;exact fin _ _ _ t (λ_ _=>rfl) g.eqs g.cW K
  .rename_i t;cases h;exact fin _ _ _ t (λ_ _=>rfl) g.eqs g.cW K
  .split at h
   .rename_i hh args hq;split at h
    .rename_i fn hfn;split at h
     .rename_i c hc;split at h
      .rename_i z hz;split at h
       .rename_i f hf;let⟨hff,h⟩:=aE h;let⟨v',hv,e⟩:=map_some h;cases e;let⟨I,n,hn⟩:=qP _ hz;have Na:=fV _ _ hq;refine F.enter (f:=hh) (args:=args) Z hw hk (λd=>?_) (λd=>?_) ?_
        .rw[j,<-fH (es:=#[]),Na]
        .simp_all
        .let⟨aa,e1,e2,e3⟩:=jy (args:=args) hfn hc;have D:=lF hv;refine ym (b0:=Frame.enter P hh args .normal) (uF:=[]) (cs0:=b.at a (.inRegion A (i::X)::k)::J) F hB (by show CallKind.normal≠_;decide) n hn ⟨λp hp=>g.eqs p (D.1 p hp),λp hp=>g.cW p (D.2.1 p hp),g.cY,g.eK⟩ ⟨_,aa,_,by rw[<-e1],e2,rfl,e3,rfl⟩ hI ?_;intro g' Q M V hF' hW';rw[hf]at M;obtain⟨b1,a1,cs1,rfl,TG,r1,r2,r3⟩:=M;subst r1;subst r3;let⟨fn',O,UP,OH,hr3,hr4⟩:=qD hv g.eqs g.cW TG V.sat;have R:f.f=hh:=ξ
         have s:∀r,U (G {(Frame.enter P hh args .normal).at a1 r with mode:=.returning} (b.at a (.inRegion A (i::X)::k)::J)) Q:=λr=>by
          refine F.vS rfl r2 (fn:=fn') (by rw[<-R];exact O) UP OH ?_;rw[bQ,Z];exact K _ (V.same hr3 hr4) hF' (λad NC=>hW' ad ξ)
         have u:f.todo=[]\/∃l,f.todo=.code .ret::l:=by
          unfold yD at I;grind
         rcases u with u|⟨l,u⟩
         .rw[u];exact F.ctl (λ_=>stepG_end) (s _)
         .rw[u];exact F.ctl (λ_=>stepG_ret') (s _)
       .cases h
      .cases h
     .cases h
    .cases h
   .cases h
  .cases h
def Jl{B':Nat}(n:Nat){x y:cS}(h:pV P B n x=some y):x.m.c<=y.m.c:=by
 let⟨_,k,a⟩:=qP n h;exact(Bv (B':=B) k a).1
def Qz{B':Nat}:∀(n:Nat){x y:cS},pV P B n x=some y->y.m.c=x.m.c->pV P B' n x=some y
 |0,x,y,h,_=>by cases h
 |n+1,x,y,h,d=>by
  simp only[pV]at h ⊢;cases b:yD x with
  |true=>simp_all
  |false=>
   rw[b]at h;simp only[cond_false]at h ⊢;split at h
   .rename_i z a;have c:=Bw (B':=B') a;have e:=Jl (B':=B) n h;rw[c.2 ω];simp only;exact Qz n h ω
   .cases h
def Kt{x y:cS}(h:MF P B E o x=some (v,y))(j:y.m.c=x.m.c)(B':Nat):MF P B' E o x=some (v,y):=by
 let⟨g,h⟩:=aE h;unfold MF;rw[g];simp only[cond_true];cases d:tL o with
 |true=>
  rw[d]at h;simp only[cond_true]at h ⊢;split at h
  .split at h
   .rename_i b;cases h;rw[rE (B':=B') _ _ _ _ b j]
   .cases h
  .exact h
  .cases h
 |false=>
  rw[d]at h;simp only[cond_false]at h ⊢;split at h
  .rename_i b;cases h;rw[rE (B':=B') _ _ _ _ b j]
  .rename_i b;cases h;rw[rE (B':=B') _ _ _ _ b j]
  .have key:∀(s:Sem Next)(y:Next)(m:lW),cV P s=some y->dw P B' s m=some (y,m):=by
    intro s;induction s with
    |pure a=>intro y m h;simp[cV]at h;subst h;rfl
    |program k l=>intro y m h;exact l _ _ _ h
    |_=>intros;simp_all [cV]
   split at h
   .rename_i A args q;rw[key _ _ x.m q];simp only;split at h
    .rename_i fn r;split at h
     .rename_i c u;split at h
      .rename_i z n;split at h
       .rename_i f C;let⟨t,h⟩:=aE h;let⟨w,p,e⟩:=map_some h;cases e;have i:z.m.c=x.m.c:=by have:=(lF p).2.2.2;simp_all
        rw[Qz (B':=B') _ n i];simp_all
       .cases h
      .cases h
     .cases h
    .cases h
   .cases h
  .cases h
def Iq{x y:cS}(h:wH P B A E o x=some (v,y)):Sub x y:=by
 unfold wH at h;split at h
 .exact YI h
 .rename_i want _;split at h
  .cases h
  .split at h
   .rename_i u _;split at h
    .rename_i d s e _;let⟨_,h⟩:=aE h;have c:∀p∈x.cY,p∈(bif s then x.cY else(u,d)::x.cY):=λp b=>χ
     cases a:(d==want)with
     |true=>rw[a]at h;simp only[cond_true]at h;have:=YI h;exact⟨this.eqs,this.cW,λp b=>this.cY p (c p b),this.eK⟩
     |false=>rw[a]at h;simp only[cond_false]at h;cases h;exact⟨λ_ h=>h,λ_ h=>h,c,λ_ h=>h⟩
    .cases h
   .cases h;exact Sub.refl _
   .cases h
def Ff{x y:cS}(h:wH P B A E o x=some (v,y))(e:y.m.c=x.m.c)(B':Nat):wH P B' A E o x=some (v,y):=by
 cases c:o.guard with
 |none=>simp only[wH,c]at h ⊢;exact Kt h e B'
 |some p=>
  let⟨j,want⟩:=p;simp only[wH,c]at h ⊢;cases g:(A[j]?).bind (·.dst)with
  |none=>simp_all
  |some d=>
   simp only[g]at h ⊢;cases f:look E d with
   |none=>simp_all
   |some z=>
    cases z with
    |bool u=>
     simp only[f]at h ⊢;cases i:x.bs with
     |nil=>simp_all
     |cons q b=>
      let⟨k,s⟩:=q;simp only[i]at h ⊢;let⟨b,h⟩:=aE h;rw[b,cond_true];cases a:(k==want)with
      |true=>rw[a,cond_true]at h;rw[cond_true];exact Kt h e B'
      |false=>simp_all
    |tuple z=>simp_all
    |_=>simp_all
def vL(F:aB P T (DX H) U)(L:∀(a:Addr)(wr:Bool),B<=a.block->H a wr)(D:b.kind≠.early){x y:cS}(l:A[i]? =some o)(h:wH P B A E o x=some (v,y))(r:oE y)(n:aR E N a)(m:Inv H B w x.m)(K:∀Q,Inv H B Q y.m->Fr (Wr x.m.M) w Q->(∀a,Wr y.m.M a->Wr x.m.M a\/w.heap.size<=a.block)->U (G (b.at (a.put o.dst v) (.inRegion A X::k)) J) Q):U (G (b.at a (.inRegion A (i::X)::k)) J) w:=by
 unfold wH at h;split at h
 .rename_i e;exact Fe F L D l (by simp[Region.wanted,e]) h r n m K
 .rename_i j want e;split at h
  .cases h
  .rename_i d I;split at h
   .rename_i u g;split at h
    .rename_i C s S R;let⟨O,h⟩:=aE h;have q:u=C:=Ai O λM=>by
      subst M;have t:(u,C)∈y.cY:=by
       cases c:(C==want)with
       |true=>rw[c]at h;simp only[cond_true]at h;exact(YI h).cY _ ψ
       |false=>grind
      exact r.cY _ t
     subst q;have z:aR ((d,.bool u)::E) N a:=n.more g;have f:yielded A a.tmps j=some u:=by
      unfold yielded;rw[I];simp only[fJ];rw[n.val d _ g]
     cases c:(u==want)with
     |true=>
      rw[c]at h;simp only[cond_true]at h;have p:u=want:=ξ
      exact Fe F L D l (by simp[Region.wanted,e,f,p]) h r z (x:={x with bs:=S,cY:=_}) m K
     |false=>
      rw[c]at h;simp only[cond_false]at h;cases h;exact F.unwanted l (by simp[Region.wanted,e,f];simp_all) (K _ m (Fr.refl _ _) (λ_ h=>.inl h))
    .cases h
   .rename_i arr g;cases h;have f:yielded A a.tmps j=none:=by
     unfold yielded;rw[I];simp only[fJ];rw[n.val d _ g]
    exact F.unwanted l (by simp[Region.wanted,e,f]) (K _ m (Fr.refl _ _) (λ_ h=>.inl h))
   .cases h
def ro(M:aW):List aH:=M.map λr=>{r with wr:=false}
def Fq:∀(M:aW)(i:Nat),nth (ro M) i=(nth M i).map λr=>{r with wr:=false}
 |[],i=>rfl
 |x::l,0=>rfl
 |x::l,i+1=>Fq l i
def xF{r:aH}(h:nth (ro M) i=some r):∃s,nth M i=some s/\r={s with wr:=false}:=by
 rw[Fq]at h;let⟨s,b,a⟩:=map_some h;exact⟨s,b,a.symm⟩
def Sat.ro(h:Sat H w M):Sat H w (ro M):=by
 refine⟨λi r a j c=>?_,λi r a j c=>?_,λi r e e a e d=>?_,λi r a=>?_⟩
 .obtain⟨s,b,rfl⟩:=xF a;exact h.val i s b j c
 .obtain⟨s,b,rfl⟩:=xF a;exact⟨(h.ok i s b j c).1,λz=>by cases z⟩
 .obtain⟨s,b,rfl⟩:=xF a;cases d
 .obtain⟨s,b,rfl⟩:=xF a;exact h.row i s b
def uV{a:Addr}(h:Wr (ro M) a):False:=by
 let⟨i,r,j,a,b,_⟩:=h;obtain⟨s,_,rfl⟩:=xF a;cases b
def Fr.Cc{W b:Addr->Prop}(h:Fr W w Q)(c:∀a,W a->b a):Fr b w Q:=
 ⟨h.size,λa d b=>h.cell a d λz=>b (c a z),λk d b=>h.blk k d λa e z=>b a e (c a z),h.obj,h.row⟩
def Sat.keep(h:Sat H w M)(c:Fr (λ_=>False) w Q):Sat H Q M:=by
 refine⟨λi r a j b=>?_,λi r a j b=>?_,h.sep,λi r a g e n k=>?_⟩
 .rw[(c.cell _ (h.lt a b) id).1];exact h.val i r a j b
 .rw[(c.cell _ (h.lt a b) id).2];exact h.ok i r a j b
 .let⟨f,d,b⟩:=h.row i r a g e n k;exact⟨f,d,c.row _ _ _ b⟩
def Sat.grow(h:Sat H w M)(D:Fr (λ_=>False) w Q){Y:aW}{p:Nat}(r:Sat H Q Y)(m:nth Y p=some R)(C:R.wr=true)(z:∀j,R.has j->w.heap.size<=(R.ad j).block):Sat H Q (R::M):=by
 have t:=h.keep D;refine⟨λk s f l a=>?_,λk s f l a=>?_,λk s j B f o v l u a b q=>?_,λk s f g e n y=>?_⟩
 .rcases iB f with ⟨d,_,c⟩|⟨_,rfl⟩
  .exact t.val d s c l a
  .exact r.val p s m l a
 .rcases iB f with ⟨d,_,c⟩|⟨_,rfl⟩
  .exact t.ok d s c l a
  .exact r.ok p s m l a
 .rcases iB f with ⟨d,j,c⟩|⟨F,rfl⟩
  .rcases iB o with ⟨x,E,i⟩|⟨A,rfl⟩
   .have:=t.sep d s x B c i v l u a b q;exact⟨ω,this.2⟩
   .have:=h.lt c a;have:=z u b;rw[<-q]at this;omega
  .rcases iB o with ⟨x,E,i⟩|⟨A,rfl⟩
   .have:=h.lt i b;have:=z l a;rw[q]at this;omega
   .exact⟨F.trans A.symm,(r.sep p _ p _ m m C l u a b q).2⟩
 .rcases iB f with ⟨d,_,c⟩|⟨_,rfl⟩
  .exact t.row d s c g e n y
  .exact r.row p s m g e n y
def iJ(I:Array Nat)(i j:Nat):Bool:=(I.getD i 0).testBit j
structure Rec where
 i:Nat
 o:Oper
 E:Env
 x:cS
 v:Value
 y:cS
def iH(I:Array Nat)(i:Nat):List Rec->Env
 |[]=>[]
 |r::l=>bif iJ I i r.i then(match r.o.dst with|some d=>(d,r.v)::iH I i l|none=>iH I i l)else iH I i l
def kO:List Rec->Env->Env
 |[],E=>E
 |r::l,E=>match r.o.dst with
  |some d=>(d,r.v)::kO l E
  |none=>kO l E
def lp(x:cS)(M:aW)(c:Nat):cS:={x with m:={x.m with M:=M,c:=c}}
def iZ(P:aG)(B:Nat)(A:g8)(I:Array Nat)(Z:Env)(V:aW)(L:Nat):List Nat->List Rec->Option (Nat×aH)->cS->Option (List Rec×Option (Nat×aH)×cS)
 |[],acc,O,x=>some (acc,O,x)
 |i::is,acc,O,x=>match A[i]? with
  |none=>none
  |some o=>
   let E:=iH I i acc++Z;match O with
   |some (p,R)=>
    bif iJ I i p then
     (match wH P B A E o (lp x (ro (R::V)) (L+1))with
     |some (v,y)=>bif y.m.c==L+1 then iZ P B A I Z V L is (⟨i,o,E,lp x (ro (R::V)) (L+1),v,y⟩::acc) O y else none
     |none=>none)
    else
     (match wH P B A E o (lp x (ro V) L)with
     |some (v,y)=>bif y.m.c==L then iZ P B A I Z V L is (⟨i,o,E,lp x (ro V) L,v,y⟩::acc) O y else none
     |none=>none)
   |none=>match wH P B A E o (lp x (ro V) L)with
    |some (v,y)=>bif y.m.c==L then iZ P B A I Z V L is (⟨i,o,E,lp x (ro V) L,v,y⟩::acc) none y
     else bif y.m.c==L+1 then(match nth y.m.M 0 with
      |some R=>bif R.wr then iZ P B A I Z V L is (⟨i,o,E,lp x (ro V) L,v,y⟩::acc) (some (i,R)) y else none
      |none=>none)else none
    |none=>none
def cq(E:Env)(ds:aN):Env:=E.filter λp=>!ds.contains p.1
def dstsOf(A:g8)(q:Nat):List Nat:=(List.range q).filterMap λi=>(A[i]?).bind (·.dst)
def jE(A:g8)(q:Nat):Bool:=(List.range q).all λi=>(List.range q).all λj=>i==j||(match (A[i]?).bind (·.dst),(A[j]?).bind (·.dst)with
 |some d,some e=>!(d==e)
 |_,_=>true)
def oV(A:g8)(I:Array Nat)(q:Nat):Bool:=
 Nat.ble q A.size&&jE A q&&
 (List.range A.size).all λi=>match A[i]? with
   |some o=>o.after.all (λe=>!Region.binds .any e||Nat.blt e.on i)&&
    ((List.range A.size).all λj=>!iJ I i j||(Nat.blt j i&&o.after.any λe=>Region.binds .any e&&(e.on==j||iJ I e.on j)))&&
    (Nat.blt i q||(List.range i).all λj=>iJ I i j)
   |none=>false
def bP:Nat->Nat->List Nat
 |_,0=>[]
 |q,n+1=>q::bP (q+1) n
def yu(P:aG)(B:Nat)(f:XF)(l:List XF)(x:cS)(A:g8)(q:Nat)(k:eC):Option cS:=
 let I:=Region.before A
 bif oV A I q&&(dstsOf A q).all (λd=>Nat.blt d f.N)then
  match iZ P B A I (cq f.E (dstsOf A q)) x.m.M x.m.c (List.range q) [] none x with
  |some (gL,O,y)=>some {y with
   fs:=⟨f.f,f.N,.inRegion A (bP q (A.size-q))::k,kO gL (cq f.E (dstsOf A q))⟩::l,
   m:={y.m with M:=(match O with|some (_,R)=>R::x.m.M|none=>x.m.M),c:=(match O with|some _=>x.m.c+1|none=>x.m.c)}}
  |none=>none
 else none
structure Spec(P:aG)(B:Nat)(A:g8)(I:Array Nat)(Z:Env)(V:aW)(L:Nat)(gL:List Rec)(O:Option (Nat×aH))(xf:cS)(r:Rec):Prop where
 op:A[r.i]? =some r.o
 run:wH P B A r.E r.o r.x=some (r.v,r.y)
 sub:Sub r.y xf
 env:∀d v,look r.E d=some v->(∃s∈gL,iJ I r.i s.i=true/\s.o.dst=some d/\s.v=v)\/look Z d=some v
 mem:(r.y.m.c=r.x.m.c/\(∀p R,O=some (p,R)->r.i≠p)/\((r.x.m.M=ro V/\r.x.m.c=L)\/∃p R,O=some (p,R)/\iJ I r.i p=true/\r.x.m.M=ro (R::V)/\r.x.m.c=L+1))\/
  (r.x.m.M=ro V/\r.x.m.c=L/\r.y.m.c=L+1/\∃R,O=some (r.i,R)/\nth r.y.m.M 0=some R/\R.wr=true)
def lK:∀(E a:Env)(d:Nat)(v:ay),look (E++a) d=some v->look E d=some v\/look a d=some v
 |[],a,d,v,h=>.inr h
 |(k,u)::E,a,d,v,h=>by
  simp only[um,look]at h ⊢;cases b:(k==d)with
  |true=>rw[b]at h;exact .inl h
  |false=>rw[b]at h;exact lK E a d v h
def jP(I:Array Nat)(i:Nat):∀(l:List Rec)(d:Nat)(v:ay),look (iH I i l) d=some v->∃s∈l,iJ I i s.i=true/\s.o.dst=some d/\s.v=v
 |[],d,v,h=>by cases h
 |r::l,d,v,h=>by
  have f:=jP I i l d v;simp only[iH]at h;cases j:iJ I i r.i with
  |false=>rw[j]at h;let⟨s,b,a⟩:=f h;exact⟨s,aP _ b,a⟩
  |true=>
   rw[j]at h;simp only[cond_true]at h;cases g:r.o.dst with
   |none=>rw[g]at h;let⟨s,b,a⟩:=f h;exact⟨s,aP _ b,a⟩
   |some e=>
    rw[g]at h;simp only[look]at h;cases c:(e==d)with
    |false=>rw[c]at h;let⟨s,b,a⟩:=f h;exact⟨s,aP _ b,a⟩
    |true=>rw[c]at h;simp at h c;subst c;subst h;exact⟨r,bI ..,j,g,rfl⟩
def lZ(x:cS)(M:aW)(c:Nat):Sub x (lp x M c):=⟨λ_ h=>h,λ_ h=>h,λ_ h=>h,λ_ h=>h⟩
def iY:∀(is:aN)(acc:List Rec)(O:Option (Nat×aH))(x:cS)(a:List Rec)(b:Option (Nat×aH))(n:cS),iZ P B A I Z V L is acc O x=some (a,b,n)->
 is.Nodup->(∀r∈acc,r.i∉is)->(∀p R,O=some (p,R)->p∉is)->(∀r∈acc,∀s∈acc,r.i=s.i->r=s)->
 (∀r∈a,∀s∈a,r.i=s.i->r=s)/\(∀r∈acc,r∈a)/\Sub x n/\(∀p R,O=some (p,R)->b=some (p,R))/\(∀p R,b=some (p,R)->O=some (p,R)\/p∈is)/\(∀i∈is,∃r∈a,r.i=i)/\(∀r∈a,r∈acc\/(r.i∈is/\Spec P B A I Z V L a b n r))
 |[],acc,O,x,a,b,n,h,_,_,_,Q=>by
  simp[iZ]at h;obtain⟨rfl,rfl,rfl⟩:=h;exact⟨Q,λ_ h=>h,Sub.refl _,λ_ _ h=>h,λ_ _ h=>.inl h,λi hi=>by simp at hi,λr g=>.inl g⟩
 |i::is,acc,O,x,a,b,n,h,K,m,M,Q=>by
  have l:i∉is:=(List.nodup_cons.1 K).1;have J:=(List.nodup_cons.1 K).2;simp only[iZ]at h;split at h
  .cases h
  .rename_i o ho
   have step:∀(c:Rec)(f:Option (Nat×aH)),c.i=i->c.o=o->c.E=iH I i acc++Z->wH P B A c.E c.o c.x=some (c.v,c.y)->Sub x c.x->iZ P B A I Z V L is (c::acc) f c.y=some (a,b,n)->
    (∀p R,O=some (p,R)->f=some (p,R))->(∀p R,f=some (p,R)->O=some (p,R)\/p=i)->
    (∀(E:∀p R,f=some (p,R)->b=some (p,R))(u:∀p R,b=some (p,R)->f=some (p,R)\/p∈is),(c.y.m.c=c.x.m.c/\(∀p R,b=some (p,R)->c.i≠p)/\((c.x.m.M=ro V/\c.x.m.c=L)\/∃p R,b=some (p,R)/\iJ I c.i p=true/\c.x.m.M=ro (R::V)/\c.x.m.c=L+1))\/
      (c.x.m.M=ro V/\c.x.m.c=L/\c.y.m.c=L+1/\∃R,b=some (c.i,R)/\nth c.y.m.M 0=some R/\R.wr=true))->
    (∀r∈a,∀s∈a,r.i=s.i->r=s)/\(∀r∈acc,r∈a)/\Sub x n/\(∀p R,O=some (p,R)->b=some (p,R))/\(∀p R,b=some (p,R)->O=some (p,R)\/p∈i::is)/\(∀j∈i::is,∃r∈a,r.i=j)/\(∀r∈a,r∈acc\/(r.i∈i::is/\Spec P B A I Z V L a b n r)):=by
    intro c f C e2 e3 e4 e5 e6 e7 e8 e9;let⟨g0,X,g2,g3,g4,g5,g6⟩:=iY is (c::acc) f c.y a b n e6 J (λr g=>by
     rcases ak.1 g with rfl|g
     .rw[C];exact l
     .exact λz=>m r g (aP _ z)) (λp R H=>by
     rcases e8 p R H with z|z
     .exact λy=>M p R z (aP _ y)
     .rw[z];exact l) (λr g s Y e=>by
     rcases ak.1 g with N|N
     .rcases ak.1 Y with w|w
      .rw[N,w]
      .exact absurd (by rw[<-e,N,C];exact bI ..) (m s w)
     .rcases ak.1 Y with w|w
      .exact absurd (by rw[e,w,C];exact bI ..) (m r N)
      .exact Q r N s w e)
    have S:Spec P B A I Z V L a b n c:=by
     refine⟨by rw[C,e2];exact ho,e4,g2,λd v hl=>?_,e9 g3 g4⟩;rw[e3]at hl;rcases lK _ _ _ _ hl with z|z
     .let⟨s,s1,s2,s3,s4⟩:=jP I i acc d v z;exact .inl ⟨s,X s (aP _ s1),by rw[C];exact s2,s3,s4⟩
     .exact .inr z
    refine⟨g0,λr g=>X r (aP _ g),(e5.trans (Iq e4)).trans g2,λp R H=>g3 p R (e7 p R H),λp R H=>?_,λj T=>?_,λr g=>?_⟩
    .rcases g4 p R H with z|z
     .rcases e8 p R z with y|y
      .exact .inl y
      .exact .inr (by rw[y];exact bI ..)
     .exact .inr (aP _ z)
    .rcases ak.1 T with rfl|T
     .exact⟨c,X c (bI ..),C⟩
     .exact g5 j T
    .rcases g6 r g with z|⟨z1,z2⟩
     .rcases ak.1 z with rfl|z
      .exact .inr ⟨by rw[C];exact bI ..,S⟩
      .exact .inl z
     .exact .inr ⟨aP _ z1,z2⟩
   split at h
   .rename_i p R;have G:i≠p:=λz=>M p R rfl (by rw[z];exact bI ..);cases W:iJ I i p with
    |true=>
     rw[W]at h;simp only[cond_true]at h;split at h
     .rename_i v y D;let⟨t,h⟩:=aE h;refine step ⟨i,o,_,_,v,y⟩ (some (p,R)) rfl rfl rfl D (lZ _ _ _) h (λ_ _ h=>h) (λ_ _ h=>.inl h) λE u=>.inl ⟨by simpa [lp]using t,λq F k=>?_,.inr ⟨p,R,E p R rfl,W,rfl,rfl⟩⟩;rcases u q F k with z|z
      .cases z;exact G
      .exact fun(e:i=q)=>l (by rw[e];exact z)
     .cases h
    |false=>
     rw[W]at h;simp only[cond_false]at h;split at h
     .rename_i v y D;let⟨t,h⟩:=aE h;refine step ⟨i,o,_,_,v,y⟩ (some (p,R)) rfl rfl rfl D (lZ _ _ _) h (λ_ _ h=>h) (λ_ _ h=>.inl h) λE u=>.inl ⟨by simpa [lp]using t,λq F k=>?_,.inl ⟨rfl,rfl⟩⟩;rcases u q F k with z|z
      .cases z;exact G
      .exact fun(e:i=q)=>l (by rw[e];exact z)
     .cases h
   .split at h
    .rename_i v y D;cases t:(y.m.c==L)with
     |true=>
      rw[t]at h;simp only[cond_true]at h;refine step ⟨i,o,_,_,v,y⟩ none rfl rfl rfl D (lZ _ _ _) h (λ_ _ h=>h) (λ_ _ h=>.inl h) λE u=>.inl ⟨by simpa [lp]using t,λq F k=>?_,.inl ⟨rfl,rfl⟩⟩;rcases u q F k with z|z
      .cases z
      .exact fun(e:i=q)=>l (by rw[e];exact z)
     |false=>
      rw[t]at h;simp only[cond_false]at h;let⟨U,h⟩:=aE h;split at h
      .rename_i R hR;let⟨hw,h⟩:=aE h;refine step ⟨i,o,_,_,v,y⟩ (some (i,R)) rfl rfl rfl D (lZ _ _ _) h (λ_ _ h=>by cases h) (λq F h=>by cases h;exact .inr rfl) λE u=>.inr ⟨rfl,rfl,by simpa using U,R,E i R rfl,hR,hw⟩
      .cases h
    .cases h
structure qn(A:g8)(I:Array Nat)(q:Nat):Prop where
 le:q<=A.size
 low:∀(i:Nat)(o:Oper),A[i]? =some o->∀e∈o.after,Region.binds .any e=true->e.on<i
 Li:∀(i:Nat)(o:Oper)(j:Nat),A[i]? =some o->j<A.size->iJ I i j=true->j<i/\∃e∈o.after,Region.binds .any e=true/\(e.on=j\/iJ I e.on j=true)
 chain:∀i,q<=i->i<A.size->∀j,j<i->iJ I i j=true
def oU(h:oV A I q=true):qn A I q/\jE A q=true:=by
 unfold oV at h;simp only[bZ,eZ,aZ]at h;let⟨⟨g,l⟩,f⟩:=h;have key:∀(i:Nat)(o:Oper),A[i]? =some o->(o.after.all (λe=>!Region.binds .any e||Nat.blt e.on i)=true/\(∀j,j<A.size->(!iJ I i j||(Nat.blt j i&&o.after.any λe=>Region.binds .any e&&(e.on==j||iJ I e.on j)))=true))/\(Nat.blt i q||(List.range i).all λj=>iJ I i j)=true:=by
  intro i o a;have d:i<A.size:=by
   rcases zR i A.size with z|z
   .exact z
   .rw[LD z]at a;cases a
  have:=f i d;rw[a]at this;simpa only[bZ,eZ,aZ]using this
 refine⟨⟨by simpa using g,λi o a e g f=>?_,λi o j a c f=>?_,λi h d j c=>?_⟩,l⟩
 .have:=yJ.1 (key i o a).1.1 e g;simpa [f]using this
 .have:=(key i o a).1.2 j c;rw[f]at this;simp only[Bool.not_true,uh,bZ,Array.any_eq_true]at this;let⟨g,n,h,f,e⟩:=this;exact⟨by simpa using g,_,Array.getElem_mem h,f,by simpa using e⟩
 .have:=(key i _ (iz d)).2;have b:Nat.blt i q=false:=by
   cases k:Nat.blt i q with
   |false=>rfl
   |true=>have:i<q:=by simpa using k
          omega
  rw[b]at this;simp only[uh,eZ,aZ]at this;exact this j c
def filter_none(n:Nat):∀m,m<=n->(List.range m).filter (·==n)=[]
 |0,_=>rfl
 |m+1,h=>by
  rw[rj,List.filter_append,filter_none n m ω];have:(m==n)=false:=θ
  simp[this]
def yj(k:Nat):∀n,k<n->(List.range n).filter (·==k)=[k]
 |0,h=>ω
 |n+1,h=>by
  rw[rj,List.filter_append];by_cases e:n=k
  .subst e;rw[filter_none n n (az _)];simp
  .rw[yj k n ω];have:(n==k)=false:=by simpa using e
   simp[this]
def filter_one{p:qS}{k:Nat}(b:k<n)(h:∀i,i<n->(p i=true↔i=k)):(List.range n).filter p=[k]:=by
 have e:(List.range n).filter p=(List.range n).filter (·==k):=List.filter_congr λi c=>by
  have:=h i (aZ.1 c);cases a:p i with
  |true=>simp[this.1 a]
  |false=>cases d:(i==k)with
   |false=>rfl
   |true=>rw[this.2 (by simpa using d)]at a;cases a
 rw[e];exact yj k n b
def ready(A:g8)(l:oI)(i:Nat):Bool:=!l.getD i true&&((A[i]?).map (·.after.all λe=>!Region.binds .any e||l.getD e.on false)).getD false
def oS(f:i<A.size):ready A l i=true↔l.getD i true=false/\∀e∈A[i].after,Region.binds .any e=true->l.getD e.on false=true:=by
 unfold ready;rw[iz f];simp only[fI,cQ,bZ,mA,yJ,Ar];constructor
 .rintro ⟨d,c⟩;exact⟨d,λe a b=>(c e a).elim (λz=>by rw[b]at z;cases z) id⟩
 .rintro ⟨d,c⟩;exact⟨d,λe a=>by
   cases b:Region.binds .any e with
   |false=>exact .inl rfl
   |true=>exact .inr (c e a b)⟩
def cH(a:i<l.size)(d b:Bool):l.getD i d=l.getD i b:=by simp[Array.getD,a]
def uE(f:qn A I q):∀(n a t fuel:Nat)(l:oI),q<=a->a+n=A.size->n<=fuel->l.size=A.size->(∀j,j<a->l.getD j true=true)->(∀j,a<=j->j<A.size->l.getD j true=false)->
 Region.linearise.go .any A fuel t l []=bP a n
 |0,a,t,fuel,l,F,E,D,v,h,p=>Bb .any l (λj B=>h j ω) fuel t
 |n+1,a,t,fuel,l,F,E,D,v,h,p=>by
  obtain⟨fuel,rfl⟩:∃k,fuel=k+1:=⟨fuel-1,ω⟩;have c:a<A.size:=ω
  have r:((List.range A.size).filter (ready A l))=[a]:=filter_one c λi g=>by
   rw[oS g];constructor
   .rintro ⟨w,C⟩;rcases Hu i a with y|y|y
    .rw[h i y]at w;cases w
    .exact y
    .exfalso;let⟨_,e,m,o,u⟩:=f.Li i _ a (iz g) c (f.chain i ω g a y);have d:=f.low i _ (iz g) e m o;have b:=C e m o;rw[cH ω false true]at b;have k:e.on<a:=by
      rcases zR e.on a with x|x
      .exact x
      .rw[p e.on x ω]at b;cases b
     rcases u with rfl|u
     .omega
     .have:=(f.Li e.on _ a (iz ω) c u).1;omega
   .rintro rfl;refine⟨p i (az _) g,λe m o=>?_⟩;have d:=f.low i _ (iz g) e m o;rw[cH ω false true];exact h _ d
  have d:((List.range A.size).filter λi=>!l.getD i true&&((A[i]?).map (·.after.all λe=>!Region.binds .any e||l.getD e.on false)).getD false)=[a]:=r;simp only[Region.linearise.go,d,gB,iT,bK,Nat.mod_one,List.getElem?_cons_zero,Nat.div_one];rw[linearise_go_acc,LH,LC,bP];congr 1;have d:(l.setIfInBounds a true).size=A.size:=by simp[v]
  refine uE f n (a+1) t fuel _ ω ω ω d (λj B=>?_) (λj B s=>?_)
  .by_cases e:j=a
   .subst e;simp[Array.getD,v,c]
   .rw[oK,ku (λz=>e z.symm),<-oK];exact h j ω
  .rw[oK,ku ω,<-oK];exact p j ω s
def gZ:∀(E:Env)(ds:aN)(d:Nat)(v:ay),look (cq E ds) d=some v->look E d=some v/\d∉ds
 |[],ds,d,v,h=>by cases h
 |(k,u)::E,ds,d,v,h=>by
  have c:=gZ E ds d v;simp only[cq,List.filter_cons]at h c;split at h
  .rename_i b;simp only[look]at h ⊢;cases a:(k==d)with
   |true=>rw[a]at h;simp at a b;subst a;exact⟨h,b⟩
   |false=>rw[a]at h;exact c h
  .rename_i b;let⟨f,e⟩:=c h;refine⟨?_,e⟩;simp only[look];cases a:(k==d)with
   |false=>exact f
   |true=>simp at a b;subst a;exact absurd b e
def lM:∀(l:List Rec)(E:Env)(d:Nat)(v:ay),look (kO l E) d=some v->(∃s∈l,s.o.dst=some d/\s.v=v)\/look E d=some v
 |[],E,d,v,h=>.inr h
 |r::l,E,d,v,h=>by
  have g:=lM l E d v;simp only[kO]at h;cases b:r.o.dst with
  |none=>rw[b]at h;exact(g h).imp (fun⟨s,f,c⟩=>⟨s,aP _ f,c⟩) id
  |some e=>
   rw[b]at h;simp only[look]at h;cases a:(e==d)with
   |false=>rw[a]at h;exact(g h).imp (fun⟨s,f,c⟩=>⟨s,aP _ f,c⟩) id
   |true=>rw[a]at h;simp at h a;subst a;subst h;exact .inl ⟨r,bI ..,b,rfl⟩
def Sat.pre{R:aW}(h:Sat H w (M++R)):Sat H w M:=by
 have key:∀(M R:aW)(i:Nat)(r:aH),nth M i=some r->nth (M++R) i=some r:=by
  intro M;induction M with
  |nil=>intro R i r h;cases h
  |cons x l a=>intro R i r h;cases i with
   |zero=>exact h
   |succ i=>exact a R i r h
 exact⟨λi r a=>h.val i r (key M R i r a),λi r a=>h.ok i r (key M R i r a),λi r d c a b=>h.sep i r d c (key M R i r a) (key M R d c b),λi r a=>h.row i r (key M R i r a)⟩
def Sat.tail(h:Sat H w (R::M)):Sat H w M:=
 ⟨λi r a=>h.val (i+1) r a,λi r a=>h.ok (i+1) r a,λi r e c a b f j d l k g=>by have:=h.sep (i+1) r (e+1) c a b f j d l k g;exact⟨ω,this.2⟩,λi r a=>h.row (i+1) r a⟩
structure Lp(H:dh)(B:Nat)(A:g8)(I:Array Nat)(q N:Nat)(ds:wN)(Z:Env)(V:aW)(L:Nat)(gL:List Rec)(O:Option (Nat×aH))(w:aj)(l:oI)(a':Act)(Q:aj):Prop where
 size:l.size=A.size
 late:∀j,q<=j->j<A.size->l.getD j true=false
 down:∀i j,l.getD i false=true->i<A.size->j<A.size->iJ I i j=true->l.getD j false=true
 sz:a'.tmps.size=N
 DL:a'.defers=ds
 val:∀r∈gL,l.getD r.i false=true->∀d,r.o.dst=some d->a'.tmps[d]? =some r.v
 old:∀d v,look Z d=some v->a'.tmps[d]? =some v
 fr:Fr (Wr V) w Q
 mem:(∃p R,O=some (p,R)/\l.getD p false=true/\Sat H Q (R::V)/\Q.heap.size=B+L+1/\∀j,R.has j->B+L<=(R.ad j).block)\/((∀p R,O=some (p,R)->l.getD p false=false)/\Sat H Q V/\Q.heap.size=B+L)
def bp{j:Nat}(d:Bool)(a:i<l.size):(l.setIfInBounds i true).getD j d=if j=i then true else l.getD j d:=by
 by_cases e:j=i
 .subst e;simp[Array.getD,a]
 .rw[af e,oK,ku (λz=>e z.symm),<-oK]
def uN(F:aB P T (DX H) U)(hB:∀(a:Addr)(wr:Bool),B<=a.block->H a wr)(hk:b.kind≠.early){ds:wN}{c:List Rec}{xf:cS}(hp:qn A I q)(CK:jE A q=true)(hN:∀d∈dstsOf A q,d<N)(CO:∀d v,look Z d=some v->d∉dstsOf A q)(hM:oE xf)(hu:∀r∈c,∀s∈c,r.i=s.i->r=s)(S:∀r∈c,r.i<q/\Spec P B A I Z V L c O xf r)(Jb:∀p R,O=some (p,R)->p<q){C:aj}(g:Lp H B A I q N ds Z V L c O w l a C){r:Rec}(hr:r∈c)(Va:l.getD r.i true=false)(P:∀e∈r.o.after,Region.binds .any e=true->l.getD e.on false=true)(X:aN)(K:∀a' Q,Lp H B A I q N ds Z V L c O w (l.setIfInBounds r.i true) a' Q->U (G (b.at a' (.inRegion A X::k)) J) Q):U (G (b.at a (.inRegion A (r.i::X)::k)) J) C:=by
 let⟨b,D⟩:=S r hr;have k:r.i<A.size:=ga b hp.le;have t:r.i<l.size:=by rw[g.size];exact k
 have U9:l.getD r.i false=false:=by rw[cH t false true];exact Va
 have Nl:∀s∈c,∀d,s.o.dst=some d->d∈dstsOf A q:=λs o d E=>by
  let⟨h,n⟩:=S s o;exact u6.2 ⟨s.i,aZ.2 h,by rw[n.op];exact E⟩
 have ZD:∀s∈c,∀d,s.o.dst=some d->r.o.dst=some d->s.i=r.i:=λs o d E k=>by
  let⟨h,n⟩:=S s o;have:=eZ.1 (eZ.1 CK s.i (aZ.2 h)) r.i (aZ.2 b);rw[n.op,D.op]at this;simp only[fJ,E,k]at this;simpa using this
 have f:∀j,j<A.size->iJ I r.i j=true->l.getD j false=true:=λj hj b=>by
  let⟨_,e,he,h,n⟩:=hp.Li r.i r.o j D.op hj b;have E:=P e he h;rcases n with rfl|n
  .exact E
  .have b:=hp.low r.i r.o D.op e he h;exact g.down e.on j E ω hj n
 have hA:aR r.E N a:=⟨g.sz,λd v hl=>by
  rcases D.env d v hl with ⟨s,b,P,G,k⟩|z
  .rw[<-k];exact g.val s b (f s.i (ga (S s b).1 hp.le) P) d G
  .exact g.old d v z⟩
 have ZA:oE r.y:=D.sub.met hM
 have core:∀u,Fr (λ_=>False) C u->((∃p R,O=some (p,R)/\(l.setIfInBounds r.i true).getD p false=true/\Sat H u (R::V)/\u.heap.size=B+L+1/\∀j,R.has j->B+L<=(R.ad j).block)\/((∀p R,O=some (p,R)->(l.setIfInBounds r.i true).getD p false=false)/\Sat H u V/\u.heap.size=B+L))->
  Lp H B A I q N ds Z V L c O w (l.setIfInBounds r.i true) (a.put r.o.dst r.v) u:=by
  intro u hf a;refine⟨by simp[g.size],λj hj b=>?_,λi j h n h3 h4=>?_,?_,by rw[put_defers];exact g.DL,λs o E d W=>?_,λd v hl=>?_,g.fr.trans hf (λ_ z=>z.elim),a⟩
  .rw[bp _ t,af ω];exact g.late j hj b
  .rw[bp _ t]at h ⊢;by_cases e:j=r.i
   .rw[sJ e]
   .rw[af e];by_cases e':i=r.i
    .subst e';exact f j h3 h4
    .rw[af e']at h;exact g.down i j h n h3 h4
  .cases E:r.o.dst with
   |none=>simp[Act.put];exact g.sz
   |some d=>simp[Act.put];exact g.sz
  .by_cases e:s.i=r.i
   .have:=hu s o r hr e;subst this;rw[W];simp only[Act.put];rw[LN,sJ (by rw[g.sz];exact hN d (Nl _ hr d W))]
   .rw[bp _ t,af e]at E;have h0:=g.val s o E d W;cases M7:r.o.dst with
    |none=>exact h0
    |some d'=>
     have x:d'≠d:=λz=>e (ZD s o d W (by rw[M7,z]));simp only[Act.put];rw[ku x];exact h0
  .have h0:=g.old d v hl;cases M7:r.o.dst with
   |none=>exact h0
   |some d'=>
    have x:d'≠d:=λz=>CO d v hl (by rw[<-z];exact Nl _ hr d' M7);simp only[Act.put];rw[ku x];exact h0
 rcases D.mem with ⟨hc,x,m⟩|⟨m,hc0,I8,R,rZ,hR,XN⟩
 .have a:B+r.x.m.c<=C.heap.size:=by
   rcases m with ⟨_,z⟩|⟨p,R,h,n,_,z⟩
   .rw[z];rcases g.mem with ⟨_,_,_,_,_,y,_⟩|⟨_,_,y⟩<;>omega
   .rw[z];have Xq:l.getD p false=true:=f p (ga (Jb p R h) hp.le) n;rcases g.mem with ⟨_,_,_,_,_,y,_⟩|⟨y,_⟩
    .omega
    .rw[y p R h]at Xq;cases Xq
  have UI:Sat H C r.x.m.M:=by
   rcases m with ⟨z,_⟩|⟨p,R,h,n,z,a⟩
   .rw[z];rcases g.mem with ⟨_,_,_,_,y,_⟩|⟨_,y,_⟩
    .exact y.tail.ro
    .exact y.ro
   .rw[z];rcases g.mem with ⟨a,R',M,_,y,_⟩|⟨y,_,a⟩
    .rw[h]at M;cases M;exact y.ro
    .omega
  refine vL (B:=C.heap.size-r.x.m.c) F (λad wr z=>hB ad wr ω) hk D.op (Ff D.run hc _) ZA hA ⟨UI,ω⟩ λu h n h3=>K _ _ (core u (n.Cc λad z=>?_) ?_)
  .rcases m with ⟨e,_⟩|⟨p,R,_,_,e,_⟩<;>(rw[e]at z;exact uV z)
  .have hf:Fr (λ_=>False) C u:=n.Cc λad z=>by rcases m with ⟨e,_⟩|⟨p,R,_,_,e,_⟩<;>(rw[e]at z;exact uV z)
   have a:u.heap.size=C.heap.size:=by have:=h.sz;omega
   rcases g.mem with ⟨p,R,M,Y,e3,c,b⟩|⟨M,Y,e3⟩
   .exact .inl ⟨p,R,M,by rw[bp _ t];split;rfl;exact Y,e3.keep hf,a.trans c,b⟩
   .exact .inr ⟨λp R z=>by rw[bp _ t,af (λy=>x p R z y.symm)];exact M p R z,Y.keep hf,a.trans e3⟩
 .rcases g.mem with ⟨p,R',M,Y,_⟩|⟨M,Y,e3⟩
  .rw[rZ]at M;cases M;rw[U9]at Y;cases Y
  .refine vL F hB hk D.op D.run ZA hA ⟨by rw[m];exact Y.ro,by rw[hc0];exact e3⟩ λu h n h3=>?_;have hf:Fr (λ_=>False) C u:=n.Cc λad z=>by rw[m]at z;exact uV z
   have VF:∀j,R.has j->C.heap.size<=(R.ad j).block:=λj hj=>by
    rcases h3 (R.ad j) ⟨_,R,j,hR,XN,hj,rfl⟩with z|z
    .rw[m]at z;exact(uV z).elim
    .exact z
   exact K _ _ (core u hf (.inl ⟨r.i,R,rZ,by rw[bp _ t,sJ rfl],Y.grow hf h.sat hR XN VF,by rw[h.sz,I8];omega,λj hj=>by rw[<-e3];exact VF j hj⟩))
def count_le:∀(l:iy)(q:Nat),(∀j,q<=j->l.getD j true=false\/l.length<=j)->(l.filter id).length<=q
 |[],q,_=>ψ
 |x::l,0,h=>by
  have b:x=false:=by
   rcases h 0 (az _)with z|z
   .simp_all
   .simp at z
  have:=count_le l 0 (λj a=>by
   rcases h (j+1) ω with z|z
   .simp_all
   simp_all)
  simp_all
 |x::l,q+1,h=>by
  have:=count_le l q (λj a=>by
   rcases h (j+1) ω with z|z
   .simp_all
   simp_all)
  grind
def om(a:l.size=n)(a:(l.toList.filter id).length=n)(i:Nat)(a:i<n):l.getD i true=true:=by
 have:=TS.1 (show(l.toList.filter id).length=l.toList.length by simp_all);have a:i<l.size:=ω
 have a:=this l[i] ψ;simp_all
def mj(e:qn A I q)(b:l.size=A.size)(a:∀j,q<=j->j<A.size->l.getD j true=false)(c:∀i,i<q->l.getD i false=true){t:Nat}(c:∃m,m+fuel=A.size/\(l.toList.filter id).length=m):
 Region.linearise.go .any A fuel t l []=bP q (A.size-q):=by
 let⟨m,d,c⟩:=c;have d:=e.le;have d:m<=q:=by
  rw[<-c];refine count_le _ q λj c=>?_;rcases zR j A.size with z|z
  .simp_all
  simp_all
 exact uE e (A.size-q) q t fuel l (az _) ω ω b (λj c=>χ) a
def Yi(n:qn A I q)(w:l.size=A.size)(k:∀i j,l.getD i false=true->i<A.size->j<A.size->iJ I i j=true->l.getD j false=true)(h:¬∀i,i<q->l.getD i false=true){t:Nat}:
 ∃i,i<q/\∃b:i<A.size,l.getD i true=false/\(∀e∈A[i].after,Region.binds .any e=true->l.getD e.on false=true)/\∃F,Region.linearise.go .any A (fuel+1) t l []=i::Region.linearise.go .any A fuel F (l.setIfInBounds i true) []:=by
 simp only[Region.linearise.go];generalize y:((List.range A.size).filter λi=>!l.getD i true&&((A[i]?).map (·.after.all λe=>!Region.binds .any e||l.getD e.on false)).getD false)=m;have c:(List.range A.size).filter (ready A l)=m:=y;cases C:m[t % m.length]? with
 |none=>
  exfalso;have p:m=[]:=by
   cases m with
   |nil=>rfl
   |cons x E=>
    have b:t % (x::E).length<(x::E).length:=Nat.mod_lt _ ψ;rw[mZ b]at C;cases C
  rw[p]at c;apply h;intro i;have o:=n.le;induction i using Nat.strongRecOn with
  |_ i v=>
   intro r;have f:i<A.size:=ω
   have B:i<l.size:=by rw[w];exact f
   cases G:l.getD i false with
   |true=>rfl
   |false=>
    exfalso;have:ready A l i=true:=(oS f).2 ⟨by rw[cH B true false];exact G,λe s u=>by
     have g:=n.low i _ (iz f) e s u;exact v e.on g ω⟩
    have a:i∈(List.range A.size).filter (ready A l):=mK.2 ⟨aZ.2 f,this⟩;rw[c]at a;cases a
 |some i=>
  have a:i∈m:=sQ C;rw[<-c]at a;let⟨f,l⟩:=mK.1 a;have b:i<A.size:=aZ.1 f;let⟨f1,f2⟩:=(oS b).1 l;have o:=n.le;have r:i<q:=by
   rcases zR i q with z|z
   .exact z
   .exfalso;apply h;intro j f;let⟨_,e,s,u,D⟩:=n.Li i _ j (iz b) ω (n.chain i z b j ω);have d:=f2 e s u;rcases D with rfl|D
    .exact d
    .have g:=n.low i _ (iz b) e s u;exact k e.on j d ω ω D
  refine⟨i,r,b,f1,f2,?_⟩;simp only;rw[linearise_go_acc,LH,LC];exact⟨_,rfl⟩
def De(F:aB P T (DX H) U)(hB:∀(a:Addr)(wr:Bool),B<=a.block->H a wr)(hk:b.kind≠.early){ds:wN}{c:List Rec}{W:cS}(o:qn A I q)(E:jE A q=true)(hN:∀d∈dstsOf A q,d<N)(M:∀d v,look Z d=some v->d∉dstsOf A q)(hM:oE W)(Y:∀r∈c,∀s∈c,r.i=s.i->r=s)(j:∀r∈c,r.i<q/\Spec P B A I Z V L c O W r)(z:∀p R,O=some (p,R)->p<q)(y:∀i,i<q->∃r∈c,r.i=i)(K:∀l S Q,Lp H B A I q N ds Z V L c O w l S Q->(∀i,i<q->l.getD i false=true)->U (G (b.at S (.inRegion A (bP q (A.size-q))::k)) J) Q):
 ∀(fuel t:Nat)(l:oI)(a:Act)(h:aj),Lp H B A I q N ds Z V L c O w l a h->(∃m,m+fuel=A.size/\(l.toList.filter id).length=m)->U (G (b.at a (.inRegion A (Region.linearise.go .any A fuel t l [])::k)) J) h:=by
 intro fuel;induction fuel with
 |zero=>
  intro t l a h g ⟨m,D,C⟩;have f:∀i,i<q->l.getD i false=true:=λi b=>by have:=o.le;rw[cH (by rw[g.size];omega) false true];exact om g.size ω i ω
  rw[mj o g.size g.late f ⟨m,D,C⟩];exact K l a h g f
 |succ fuel X=>
  intro t l a h g ⟨m,D,C⟩;by_cases f:∀i,i<q->l.getD i false=true
  .rw[mj o g.size g.late f ⟨m,D,C⟩];exact K l a h g f
  .let⟨i,a,u,f1,f2,_,b⟩:=Yi o g.size g.down f (fuel:=fuel) (t:=t);rw[b];have x:i<l.size:=by rw[g.size];exact u
   obtain⟨r,n,rfl⟩:=y i a;have b:=(j r n).2.op;have a:A[r.i]=r.o:=Option.some.inj ((iz u).symm.trans b);refine uN F hB hk o E hN M hM Y j z g n f1 (λe b c=>f2 e (by rw[a];exact b) c) _ λS Q a=>X _ _ _ _ a ⟨m+1,ω,?_⟩;have a:l[r.i]=false:=by have:=f1;simpa [Array.getD,x]using this
   rw[zd];exact C▸gG l.toList r.i x a
def Gz(F:aB P T (DX H) U)(Z:P.follows .mixedOrders=true)(hB:∀(a:Addr)(wr:Bool),B<=a.block->H a wr)(hk:b0.kind≠.early){f:XF}{l:List XF}{x W:cS}{id:Nat}(h:yu P B f l x A q k=some W)(S:oE W)(hA:aR f.E f.N a)(hR:Of b0 uF cs0 l f.f b a.defers J)(hI:Inv H B w x.m)(K:wC H B U b0 uF cs0 x.m w W):U (G (b.at a (.code (.region id A true)::k)) J) w:=by
 unfold yu at h;simp only at h;let⟨hc,h⟩:=aE h;simp only[bZ,eZ]at hc;let⟨Y,hN⟩:=hc;let⟨hp,CK⟩:=oU Y;split at h
 .rename_i m O y C;cases h;let⟨hu,_,UC,_,rZ,M,u⟩:=iY (List.range q) [] none x m O y C uo ψ ψ ψ;have hM:oE y:=⟨S.eqs,S.cW,S.cY,S.eK⟩
  have I:∀r∈m,r.i<q/\Spec P B A (Region.before A) (cq f.E (dstsOf A q)) x.m.M x.m.c m O y r:=λr hr=>by
   rcases u r hr with z|⟨z1,z2⟩
   .cases z
   .exact⟨aZ.1 z1,z2⟩
  have n:∀p R,O=some (p,R)->p<q:=λp R z=>by
   rcases rZ p R z with y|y
   .cases y
   .exact aZ.1 y
  have Ra:Lp H B A (Region.before A) q f.N a.defers (cq f.E (dstsOf A q)) x.m.M x.m.c m O w (Array.replicate A.size false) a w:=by
   refine⟨ψ,λj _ hj=>by simp[Array.getD,hj],λi j D h2 _ _=>?_,hA.sz,rfl,λr _ D=>?_,λd v L=>hA.val d v (gZ _ _ _ _ L).1,Fr.refl _ _,.inr ⟨λp R _=>?_,hI.sat,hI.sz⟩⟩
   .simp[Array.getD,h2]at D
   .exfalso;simp only[Array.getD]at D;split at D<;>simp at D
   .simp only[Array.getD];split<;>simp
  refine F.step _ _ rfl λd=>⟨_,_,_,stepG_region_draw,F.idle _ _,?_,λz v _ _=>stepG_region_draw⟩
  show U _ (w.at (d+1));refine F.at' _ _ _ ?_;simp only[Region.schedule,Z,ue,if_true,Region.linearise];refine De F hB (hR.late hk) hp CK (λe he=>by simpa using hN e he) (λe v L=>(gZ _ _ _ _ L).2) hM hu I n (λi hi=>M i (aZ.2 hi)) ?_ _ _ _ _ _ Ra ⟨0,ψ,ψ⟩;intro l' a' Q g o;refine K _ _ ⟨b,a',J,rfl,⟨g.sz,λe v L=>?_⟩,by rw[g.DL];exact hR⟩ ?_ g.fr ?_
  .rcases lM _ _ _ _ L with ⟨s,s1,s2,s3⟩|z
   .rw[<-s3];exact g.val s s1 (o s.i (I s s1).1) e s2
   .exact g.old e v z
  .rcases g.mem with ⟨p,R,E,V,N,e4,e5⟩|⟨E,V,N⟩
   .rw[E];exact⟨N,by rw[e4];simp only;omega⟩
   .cases c:O with
    |none=>exact⟨V,N⟩
    |some X=>
     let⟨p,R⟩:=X;have:=E p R c;rw[o p (n p R c)]at this;cases this
  .intro ad t;rcases g.mem with ⟨p,R,E,V,N,e4,e5⟩|⟨E,V,N⟩
   .rw[E]at t;let⟨i,r,j,D,h2,h3,h4⟩:=t;rcases iB D with ⟨k0,_,h0⟩|⟨_,rfl⟩
    .exact .inl ⟨k0,r,j,h0,h2,h3,h4⟩
    .right;subst h4;rw[hI.sz];exact e5 j h3
   .cases c:O with
    |none=>rw[c]at t;exact .inl t
    |some X=>
     let⟨p,R⟩:=X;have:=E p R c;rw[o p (n p R c)]at this;cases this
 .cases h
end Go.Proofs.YtobagnjnbmgidabGreatDoor
