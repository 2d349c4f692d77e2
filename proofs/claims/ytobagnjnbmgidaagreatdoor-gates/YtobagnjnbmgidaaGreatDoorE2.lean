import Derived.Test.YtobagnjnbmgidaaGreatDoorE1
set_option linter.all false
set_option maxHeartbeats 0
set_option maxRecDepth 100000
namespace Go.Proofs.YtobagnjnbmgidaaGreatDoor
open Go.Conc Go.RowKit
variable{a:Act}{E:Env}{fn:Func}{N fuel i n:Nat}{o:Oper}{al:Option (Nat×aJ)}{R:aJ}{α β:Type}{b:aE}{v:ay}{r rest:aP}{l:oW}{cs:cW}{k t:eF}
variable{P:aI}{main:Bool}{B B' c0 q:Nat}{Ok:dw}{Ψ:gi}{b0:aE}{oH:xh}{cs0:cW}{A:b9}{w w':aj}{M H:aX}{C:Array Nat}{I:Env}
structure XF where
 f:Nat
 N:Nat
 todo:List Item
 E:Env
structure cL where
 fs:List XF
 m:l6
 bs:List (Bool×Bool)
 dm:List (Bool×Bool)
 eU:List (Int×Nat)
def Ko:List Item->Option (List Item)
 |.code .skip::k=>some k
 |.code (.seq y z)::k=>some (.code y::.code z::k)
 |.code (.block id c)::k=>some (.code c::.inBlock id::k)
 |.code (.loop c)::k=>some (.code c::.inLoop c::k)
 |.code (.exit id)::k=>exitTo id k
 |.code (.label _)::k=>some k
 |.code (.region _ A false)::k=>some (.inRegion A (List.range A.size)::k)
 |.inBlock _::k=>some k
 |.inLoop c::k=>some (.code c::.inLoop c::k)
 |.inRegion _ []::k=>some k
 |_=>none
def rL:List Value->Nat->Env
 |[],_=>[]
 |v::l,n=>(n,v)::rL l (n+1)
def mI(f:XF)(t:eF)(E:Env)(d:vm)(v:ay):Option XF:=match d with
 |some d=>bif Nat.blt d f.N then some ⟨f.f,f.N,t,(d,v)::E⟩else none
 |none=>some ⟨f.f,f.N,t,E⟩
def U9(P:aI)(E:Env)(o:Oper):Option (Value×Int×Nat):=match o.op with
 |.indexAddr t x i=>match ev E x,ev E i with
  |.slice (some a) len _,.int _ i=>match P.underlying t with
   |some (.slice el)=>match cS P (sizeOf el)with
    |some sz=>some (.pointer (some (a.add (i.toNat*sz))),i,len)
    |none=>none
   |_=>none
  |_,_=>none
 |_=>none
def lU(o:Oper):Bool:=match o.op with
 |.select ..=>true
 |_=>false
def zV(P:aI)(B:Nat)(f:XF)(l:List XF)(x:cL)(t:eF)(o:Oper)(E:Env):Option cL:=
 bif !lU o&&o.op.operands.all (kn E)then
  match dy P B (execOp (ev E) o) x.m with
  |some (.value v,m)=>(mI f t E o.dst v).map λg=>{x with fs:=g::l,m:=m}
  |some (.skip,m)=>(mI f t E o.dst undef).map λg=>{x with fs:=g::l,m:=m}
  |some (.enter _ _,_)=>match cS P (execOp (ev E) o)with
   |some (.enter h args)=>match P.funcs[h]? with
    |some fn=>match fn.body with
     |some c=>some {x with fs:=⟨h,args.size+(fn.ntmps-args.size),[.code c],rL args.toList 0⟩::{f with E:=E}::l}
     |none=>none
    |none=>none
   |_=>none
  |_=>none
 else none
def tX(o:Oper):Bool:=match o.op with
 |.indexAddr ..=>true
 |_=>false
def tO(P:aI)(B:Nat)(f:XF)(l:List XF)(x:cL)(t:eF)(o:Oper)(E:Env):Option cL:=
 bif tX o then match x.bs with
  |(_,true)::bs=>zV P B f l {x with bs:=bs} t o E
  |(_,false)::bs=>bif o.op.operands.all (kn E)then match U9 P E o with
   |some (v,i,n)=>(mI f t E o.dst v).map λg=>{x with fs:=g::l,bs:=bs,eU:=(i,n)::x.eU}
   |none=>none
   else none
  |[]=>none
 else zV P B f l x t o E
def Lv(P:aI)(B:Nat)(f:XF)(l:List XF)(x:cL)(A:b9)(i:Nat)(t:eF):Option cL:=match A[i]? with
 |none=>none
 |some o=>match o.guard with
  |none=>tO P B f l x t o f.E
  |some (j,want)=>match (A[j]?).bind (·.dst)with
   |none=>none
   |some d=>match look f.E d with
    |some (.bool u)=>match x.bs with
     |(b,s)::bs=>bif !s||(u==b)then
        let x':cL:={x with bs:=bs,dm:=bif s then x.dm else(u,b)::x.dm}
        bif b==want then tO P B {f with E:=(d,.bool b)::f.E} l x' t o ((d,.bool b)::f.E)else(mI f t ((d,.bool b)::f.E) o.dst undef).map λg=>{x' with fs:=g::l}
      else none
     |[]=>none
    |some (.tuple _)=>(mI f t f.E o.dst undef).map λg=>{x with fs:=g::l}
    |_=>none
def rU{α:Type}(P:aI):Sem α->l6->Option (α×l6)
 |.pure a,s=>some (a,s)
 |.load _ a k,s=>match s.hs with
  |(i,j,l)::hs=>match nth s.M i with
   |some r=>bif Nat.blt j.2 r.k&&(!l||Nat.blt j.1 r.n)then rU P (k (r.get j)) (s.zl hs s.M a (r.ad j) l j.1 r.n)else none
   |none=>none
  |[]=>none
 |.program k,s=>rU P (k P) s
 |_,_=>none
def Fj(E:Env):ResultVar->Bool
 |.tmp t=>(look E t).isSome
 |.cell a _=>(look E a).isSome
def Br(N:Nat)(E:Env):Array Value:=((List.range N).map λt=>(look E t).getD undef).toArray
def iS(P:aI)(f:XF)(m:l6):Option (Value×l6):=match P.funcs[f.f]? with
 |some fn=>bif fn.results.toList.all (Fj f.E)then rU P (results fn (Br f.N f.E)) m else none
 |none=>none
def xW(P:aI)(f:XF)(l:List XF)(x:cL):Option cL:=match l with
 |g::l=>match g.todo with
  |.inRegion A (i::r)::k=>match iS P f x.m with
   |some (v,m)=>(mI g (.inRegion A r::k) g.E ((A[i]?).bind (·.dst)) v).map λh=>{x with fs:=h::l,m:=m}
   |none=>none
  |_=>none
 |[]=>none
def mW(P:aI)(B:Nat)(x:cL):Option cL:=match x.fs with
 |[]=>none
 |f::l=>match Ko f.todo with
  |some t=>some {x with fs:={f with todo:=t}::l}
  |none=>match f.todo with
   |.code (.cond c y z)::k=>match ev f.E c with
    |.bool u=>match x.bs with
     |(b,s)::bs=>bif kn f.E c&&(!s||(u==b))then
        some {x with fs:={f with todo:=.code (bif b then y else z)::k,E:=match c with|.tmp d=>(d,.bool b)::f.E|_=>f.E}::l,bs:=bs,dm:=bif s then x.dm else(u,b)::x.dm}
      else none
     |[]=>none
    |_=>none
   |.inRegion A (i::r)::k=>Lv P B f l x A i (.inRegion A r::k)
   |.code .ret::_=>xW P f l x
   |[]=>xW P f l x
   |_=>none
def mV(P:aI)(B:Nat):Nat->cL->Option cL
 |0,x=>some x
 |n+1,x=>match mW P B x with
  |some x=>mV P B n x
  |none=>none
structure aN(E:Env)(N:Nat)(a:Act):Prop where
 sz:a.tmps.size=N
 val:∀n v,look E n=some v->a.tmps[n]? =some v
theorem aN.put{E:Env}{N d:Nat}{a:Act}{v:ay}(h:aN E N a)(f:d<N):aN ((d,v)::E) N (a.put (some d) v):=by
 refine⟨by simp[Act.put,h.sz],λn u c=>?_⟩;simp only[look]at c
 by_cases e:d=n
 .subst e;simp at c;subst c
  simp only[Act.put];rw[MS];rw[ah (by rw[h.sz];exact f)]
 .have g:(d==n)=false:=by simpa using e
  rw[g]at c;simp only[Act.put];rw[ku e];exact h.val n u c
theorem aN.more{d:Nat}(h:aN E N a)(f:look E d=some v):aN ((d,v)::E) N a:=by
 refine⟨h.sz,λn u c=>?_⟩;simp only[look]at c
 by_cases e:d=n
 .subst e;simp at c;subst c;exact h.val _ _ f
 .have g:(d==n)=false:=by simpa using e
  rw[g]at c;exact h.val n u c
theorem aN.eval{E:Env}{N:Nat}{a:Act}(h:aN E N a){x:Operand}(c:kn E x=true):a.eval x=ev E x:=by
 cases x with
 |tmp t=>
  cases hl:look E t with
  |none=>simp[kn,hl]at c
  |some v=>simp[Act.eval,ev,hl,o9,h.val t v hl]
 |_=>rfl
theorem execOp_congr{s d:Operand->Value}(z:lU o=false)(h:∀x∈o.op.operands,s x=d x):execOp s o=execOp d o:=by
 obtain⟨dst,op,ty,pos,after,guard⟩:=o;have y:∀(l:Array Operand),(∀x∈l,s x=d x)->l.map s=l.map d:=λl hl=>Array.map_congr_left hl
 have u:∀(l:Array (Nat×Operand)),(∀p∈l,s p.2=d p.2)->(l.map fun(i,x)=>(i,s x))=(l.map fun(i,x)=>(i,d x)):=λl hl=>Array.map_congr_left λp D=>by
  obtain⟨i,x⟩:=p
  show(i,s x)=(i,d x)
  rw[hl (i,x) D]
 have g:∀(l:Option Operand),(∀x∈l.toArray,s x=d x)->l.map s=l.map d:=λl hl=>by cases l<;>simp_all
 have e:∀(c:Call)(t:TypeId),(∀x∈c.operands,s x=d x)->resolve s c t=resolve d c t:=λc t hc=>by
  obtain⟨cl,args,ats⟩:=c;have G:args.map s=args.map d:=y _ λx j=>hc x (by simp[Call.operands,j])
  cases cl with
  |builtin b=>simp only[resolve];rw[G]
  |invoke r n=>simp only[resolve];rw[G,hc r (by simp[Call.operands])]
  |value f=>simp only[resolve];rw[G,hc f (by simp[Call.operands])]
 cases op
 case build t F=>simp only[execOp];rw[u F λp D=>h p.2 (by simp[Op.operands];exact⟨p.1,D⟩)]
 case buildSlice t n F=>simp only[execOp];rw[u F λp D=>h p.2 (by simp[Op.operands];exact⟨p.1,D⟩)]
 case makeFunc fn a b=>simp only[execOp];rw[y a λx j=>h x (by simp[Op.operands,j]),y b λx j=>h x (by simp[Op.operands,j])]
 case slice t x l J m=>simp only[execOp];rw[h x (by simp[Op.operands]),g l λx j=>h x (by simp[Op.operands]at*;simp[j]),g J λx j=>h x (by simp[Op.operands]at*;simp[j]),g m λx j=>h x (by simp[Op.operands]at*;simp[j])]
 case makeMap t r=>simp only[execOp];rw[g r λx j=>h x (by simpa [Op.operands]using j)]
 case call c=>simp only[execOp];rw[e c _ h]
 case go c=>simp only[execOp];rw[e c _ h]
 case defer c=>simp only[execOp];rw[e c _ h]
 case select cs b=>cases z
 all_goals simp_all [execOp,Op.operands]
theorem py:∀(s:Sem α)(m c:l6)(x:α),rU P s m=some (x,c)->(∀p∈m.eqs,p∈c.eqs)/\(∀p∈m.cT,p∈c.cT)/\c.M=m.M/\c.c=m.c:=by
 intro s
 induction s with
 |pure a=>intro m c x h;simp[rU]at h;obtain⟨rfl,rfl⟩:=h;exact⟨λ_ h=>h,λ_ h=>h,rfl,rfl⟩
 |load md a k e=>
  intro m c x h;simp only[rU]at h
  split at h
  .rename_i i j l g _
   split at h
   .obtain⟨_,h⟩:=aD h
    have d:=e _ _ _ _ h;exact⟨λp f=>d.1 p (aO _ f),λp f=>d.2.1 p (by cases l<;>simp[l6.zl,f]),d.2.2.1,d.2.2.2⟩
   .cases h
  .cases h
 |program k e=>intro m c x h;exact e _ _ _ _ h
 |_=>intros;simp_all [rU]
theorem I9:∀(s:Sem α)(m f:l6)(x:α),rU P s m=some (x,f)->(∀p∈f.eqs,p.1=p.2)->(∀p∈f.cT,p.1<p.2)->Sat Ok w m.M->
 ∀(es:dL),∃c,(∀d,s.runT P (w.at d) es=(.ok x (w.at d),es++c))/\∀d,∀e∈c,Ir Ok (w.at d) e:=by
 intro s
 induction s with
 |pure a=>
  intro m f x h u y g es;simp[rU]at h;obtain⟨rfl,rfl⟩:=h;exact⟨#[],λd=>by simp[Sem.runT],by simp⟩
 |load md a k F=>
  intro m f x h u y g es;simp only[rU]at h
  split at h
  .rename_i i j l S Q
   split at h
   .rename_i r O
    obtain⟨hc,h⟩:=aD h;have D:=py _ _ _ _ h;have ea:a=r.ad j:=u (a,r.ad j) (D.1 (a,r.ad j) (by simp[l6.zl]));simp only[cq]at hc
    have hj:r.has j:=by
     refine⟨?_,by simpa using hc.1⟩;cases l with
     |true=>simpa using hc.2
     |false=>exact y (j.1,r.n) (D.2.1 (j.1,r.n) (by simp[l6.zl]))
    subst ea;have L:=g.val i r O j hj;obtain⟨c,K,J⟩:=F _ _ _ _ h u y g (es.push ⟨.cell (r.ad j),false,md==.atomic⟩);refine⟨#[⟨.cell (r.ad j),false,md==.atomic⟩]++c,λd=>?_,λd e D=>?_⟩
    .have G:(w.at d).cell? (r.ad j)=some (r.get j):=L
     simp only[Sem.runT,G];rw[K d];simp[<-ry]
    .rcases nU.1 D with z|z
     .simp at z;subst z;exact jB L (g.ok i r O j hj).1
     .exact J d e z
   .cases h
  .cases h
 |program k F=>
  intro m f x h u y g es;obtain⟨c,K,J⟩:=F _ _ _ _ h u y g es;exact⟨c,λd=>by simp only[Sem.runT];exact K d,J⟩
 |_=>intros;simp_all [rU]
theorem mapM_congr{f g:ResultVar->Sem Value}:∀(l:List ResultVar),(∀x∈l,f x=g x)->l.mapM f=l.mapM g
 |[],_=>rfl
 |x::l,h=>by rw[List.mapM_cons,List.mapM_cons,h x (bS ..),mapM_congr l λy c=>h y (aO _ c)]
theorem tP{t c:fW}(h:∀r∈fn.results.toList,(∀x,r=.tmp x->t.getD x undef=c.getD x undef)/\(∀x y,r=.cell x y->t.getD x undef=c.getD x undef)):results fn t=results fn c:=by
 unfold results;obtain⟨l,hl⟩:∃l:List ResultVar,fn.results=l.toArray:=⟨fn.results.toList,by simp⟩;rw[hl]at h ⊢;rw[List.mapM_toArray,List.mapM_toArray,mapM_congr l (λx d=>?_)];have:=h x (by simpa using d);cases x with
 |tmp a=>simp only;rw[this.1 a rfl]
 |cell a b=>simp only;rw[this.2 a b rfl]
theorem Kn{c:eF}(h:Ko t=some c):stepG P main (G (b.at a t) cs) w=.go (G (b.at a c) cs) w:=by
 unfold Ko at h
 split at h
 .cases h;exact stepG_skip
 .cases h;exact stepG_seq
 .cases h;exact stepG_block
 .cases h;exact stepG_loop
 .exact stepG_exit h
 .cases h;exact stepG_label
 .cases h;exact stepG_region
 .cases h;exact stepG_inBlock
 .cases h;exact stepG_inLoop
 .cases h;exact stepG_region_end
 .cases h
def KU(b0:aE)(oH:xh)(cs0:cW):List XF->Nat->Frame->List Deferred->List Frame->Prop
 |[],_,b,ds,cs=>b=b0/\ds=oH/\cs=cs0
 |y::l,f,b,ds,cs=>b.kind=.normal/\b.fn=f/\ds=[]/\∃b' a' sP,cs=Frame.at b' a' y.todo::sP/\aN y.E y.N a'/\KU b0 oH cs0 l y.f b' a'.defers sP
def Ux(b0:aE)(oH:xh)(cs0:cW):List XF->Goroutine->Prop
 |[],_=>False
 |x::l,g=>∃b a cs,g=G (Frame.at b a x.todo) cs/\aN x.E x.N a/\KU b0 oH cs0 l x.f b a.defers cs
structure oN(x:cL):Prop where
 eqs:∀p∈x.m.eqs,p.1=p.2
 cT:∀p∈x.m.cT,p.1<p.2
 dm:∀p∈x.dm,p.1=p.2
 eU:∀p∈x.eU,0<=p.1/\p.1<(p.2:Int)
theorem KU.late(hk:b0.kind≠.early){l:List XF}{f:Nat}{ds:xh}(h:KU b0 oH cs0 l f b ds cs):b.kind≠.early:=by
 cases l with
 |nil=>rw[h.1];exact hk
 |cons y l=>rw[h.1];decide
theorem ot{f g:XF}{d:vm}(h:mI f t E d v=some g)(c:aN E f.N a):g.f=f.f/\g.todo=t/\aN g.E g.N (a.put d v):=by
 cases d with
 |none=>simp[mI]at h;subst h;exact⟨rfl,rfl,c⟩
 |some d=>
  obtain⟨e,h⟩:=aD h;cases h;exact⟨rfl,rfl,c.put (by simpa using e)⟩
theorem put_defers(a:Act)(d:vm)(v:ay):(a.put d v).defers=a.defers:=by cases d<;>rfl
def wN(Ok:dw)(B:Nat)(Ψ:gi)(b0:aE)(oH:xh)(cs0:cW)(m0:l6)(w:aj)(x':cL):Prop:=
 ∀g' w',Ux b0 oH cs0 x'.fs g'->Inv Ok B w' x'.m->Fr (Wr m0.M) w w'->(∀a,Wr x'.m.M a->Wr m0.M a\/w.heap.size<=a.block)->Ψ g' w'
theorem l8:∀(l:iG)(n k:Nat)(v:ay),look (rL l n) k=some v->n<=k/\l[k-n]? =some v
 |[],n,k,v=>by simp[rL,look]
 |x::l,n,k,v=>λh=>by
  simp only[rL,look]at h
  by_cases e:n=k
  .subst e;simp at h;subst h;simp
  .have d:(n==k)=false:=by simpa using e
   rw[d]at h;obtain⟨f,c⟩:=l8 l (n+1) k v h;refine⟨by omega,?_⟩;have:k-n=(k-(n+1))+1:=by omega
   rw[this];simpa using c
theorem jw{h:Nat}{args:fW}{c:Code}(g:P.funcs[h]? =some fn)(j:fn.body=some c):
 ∃a:Act,Frame.enter P h args .normal=(Frame.enter P h args .normal).at a [.code c]/\aN (rL args.toList 0) (args.size+(fn.ntmps-args.size)) a/\a.defers=[]:=by
 refine⟨⟨args++Array.replicate (fn.ntmps-args.size) undef,[]⟩,by simp[Frame.enter,Frame.at,g,j],⟨by simp,λn v f=>?_⟩,rfl⟩;obtain⟨_,d⟩:=l8 _ _ _ _ f
 simp at d
 have e:n<args.size:=by
  rcases kR n args.size with z|z
  .exact z
  .rw[MJ z]at d;cases d
 rw[tI e];exact d
theorem BG(F:aC P main (DX Ok) Ψ)(hB:∀(a:Addr)(wr:Bool),B<=a.block->Ok a wr)(hk:b0.kind≠.early){f:XF}{l:List XF}{x x':cL}(h:zV P B f l x (.inRegion A r::k) o E=some x')(Z:f.todo=.inRegion A (i::r)::k)(ho:A[i]? =some o)(hm:oN x')(U:aN E f.N a)(Y:Region.wanted o (yielded A a.tmps)=true)(L:KU b0 oH cs0 l f.f b a.defers cs)(hI:Inv Ok B w x.m)(K:wN Ok B Ψ b0 oH cs0 x.m w x'):Ψ (G (b.at a f.todo) cs) w:=by
 obtain⟨s,h⟩:=aD h;simp only[cq,mF]at s;obtain⟨z,s⟩:=s;have e:execOp a.eval o=execOp (ev E) o:=execOp_congr z λy hy=>U.eval (zC.1 s y hy)
 rw[Z]
 have fin:∀(v:ay)(m:l6)(g:XF)(nx:Next),dy P B (execOp (ev E) o) x.m=some (nx,m)->(∀K':Act->World->Prop,∀W,uponK o a K' (.ok nx W)=K' (a.put o.dst v) W)->mI f (.inRegion A r::k) E o.dst v=some g->x'={x with fs:=g::l,m:=m}->Ψ (G (b.at a (.inRegion A (i::r)::k)) cs) w:=by
  intro v m g nx D hu j u;have Q:(∀p∈m.eqs,p.1=p.2):=by have:=hm.eqs;rw[u]at this;exact this
  have O:(∀p∈m.cT,p.1<p.2):=by have:=hm.cT;rw[u]at this;exact this
  obtain⟨w',V,S,h1,h2,h3,h4,h5⟩:=BB hB _ _ _ _ D Q O w #[] hI;refine F.ZC ho Y (L.late hk) λd K' hK=>?_
  have e1:=h2 d;have e2:(execOp a.eval o).run P (w.at d)=.ok nx (w'.at d):=by rw[e,<-fu (es:=#[]),e1]
  have X:raw P a o (w.at d)=V:=by unfold raw Sem.events;rw[e,e1];simp
  rw[e2,hu];obtain⟨p1,p2,p3⟩:=ot j U;refine hK _ _ S (by rw[X];exact h3.1) ⟨h3.2 d,K _ _ ?_ (by rw[u];exact h1) h4 (by rw[u];exact h5)⟩;rw[u];exact⟨b,_,cs,by rw[p2],p3,by rw[p1,put_defers];exact L⟩
 split at h
 .rename_i v m D
  cases j:mI f (.inRegion A r::k) E o.dst v with
  |none=>rw[j]at h;cases h
  |some g=>rw[j]at h;exact fin v m g _ D (λ_ _=>rfl) j (Option.some.inj h).symm
 .rename_i m D
  cases j:mI f (.inRegion A r::k) E o.dst undef with
  |none=>rw[j]at h;cases h
  |some g=>rw[j]at h;exact fin undef m g _ D (λ_ _=>rfl) j (Option.some.inj h).symm
 .split at h
  .rename_i hh args hq
   split at h
   .rename_i fn T
    split at h
    .rename_i c hc
     cases h
     have J:=fP _ _ hq;refine F.enter (f:=hh) (args:=args) ho Y (L.late hk) (λd=>?_) (λd=>?_) ?_
     .rw[e,<-fu (es:=#[]),J]
     .unfold Sem.events;rw[e,J]
     .obtain⟨aa,e1,e2,X⟩:=jw (args:=args) T hc
      refine K _ _ ?_ hI (Fr.refl _ _) (λ_ h=>.inl h);refine⟨_,aa,_,by rw[<-e1],e2,?_⟩;exact⟨rfl,rfl,X,b,a,cs,by rw[Z],U,L⟩
    .cases h
   .cases h
  .cases h
 .cases h
theorem Dq:∀(s:Sem α)(f:α->Sem β),cS P (s.bind f)=(cS P s).bind λa=>cS P (f a):=by
 intro s
 induction s with
 |pure a=>intro f;rfl
 |program k c=>intro f;exact c _ f
 |_=>intro f;rfl
theorem cy(s:Sem α)(f:α->Sem β):cS P (s>>=f)=(cS P s).bind λa=>cS P (f a):=Dq s f
theorem gB(a:α):cS P (pure a:Sem α)=some a:=rfl
theorem ni(t:TypeId)(d:TypeDesc)(h:P.underlying t=some d):cS P (underlying t)=some d:=by
 unfold underlying;simp[cy,program,cS,h,gB]
theorem Al{i:Int}(h:U9 P E o=some (v,i,n))(m:0<=i)(j:i<(n:Int)):cS P (execOp (ev E) o)=some (.value v):=by
 obtain⟨dst,op,ty,pos,after,guard⟩:=o;unfold U9 at h
 split at h
 .rename_i t x s c
  simp only at c;subst c
  split at h
  .rename_i a len cap kd u d g
   split at h
   .rename_i el e
    split at h
    .rename_i p f
     simp at h;obtain⟨rfl,rfl,rfl⟩:=h
     simp only[execOp,cy,Instr.indexAt,d,g,asIntOf,gB,fA,ni t _ e,m,j,and_self,if_true,f]
    .cases h
   .cases h
  .cases h
 .cases h
theorem BH(F:aC P main (DX Ok) Ψ)(hB:∀(a:Addr)(wr:Bool),B<=a.block->Ok a wr)(hk:b0.kind≠.early){f:XF}{l:List XF}{x x':cL}(h:tO P B f l x (.inRegion A r::k) o E=some x')(z:f.todo=.inRegion A (i::r)::k)(ho:A[i]? =some o)(J:oN x')(s:aN E f.N a)(u:Region.wanted o (yielded A a.tmps)=true)(p:KU b0 oH cs0 l f.f b a.defers cs)(O:Inv Ok B w x.m)(K:wN Ok B Ψ b0 oH cs0 x.m w x'):Ψ (G (b.at a f.todo) cs) w:=by
 unfold tO at h;cases c:tX o with
 |false=>rw[c]at h;exact BG F hB hk h z ho J s u p O K
 |true=>
  rw[c]at h;simp only[cond_true]at h
  split at h
  .exact BG F hB hk h z ho J s u p (x:={x with bs:=_}) O K
  .rename_i bs Z
   obtain⟨L,h⟩:=aD h
   split at h
   .rename_i v W n Y
    cases D:mI f (.inRegion A r::k) E o.dst v with
    |none=>rw[D]at h;cases h
    |some g=>
     rw[D]at h;cases h;have S:=J.eU (W,n) (by simp);have Q:=fP _ _ (Al Y S.1 S.2)
     have m:lU o=false:=by
      unfold tX at c;unfold lU
      split at c
      .rename_i e;rw[e]
      .cases c
     have j:execOp a.eval o=execOp (ev E) o:=execOp_congr m λy X=>s.eval (zC.1 L y X)
     obtain⟨V,U,T⟩:=ot D s;rw[z];refine F.op ho u (p.late hk) λd K' hK=>?_
     have e2:(execOp a.eval o).run P (w.at d)=.ok (.value v) (w.at d):=by rw[j,<-fu (es:=#[]),Q]
     have e3:raw P a o (w.at d)=#[]:=by unfold raw Sem.events;rw[j,Q]
     rw[e2];refine hK _ w ⟨by rw[e3];exact DX.still d (by simp),K _ _ ?_ O (Fr.refl _ _) (λ_ h=>.inl h)⟩;exact⟨b,_,cs,by rw[U],T,by rw[V,put_defers];exact p⟩
   .cases h
  .cases h
theorem A0{u b s:Bool}(h:(!s||(u==b))=true)(c:s=false->u=b):u=b:=by
 cases s with
 |true=>simpa using h
 |false=>exact c rfl
theorem NP(F:aC P main (DX Ok) Ψ)(hB:∀(a:Addr)(wr:Bool),B<=a.block->Ok a wr)(hk:b0.kind≠.early){f:XF}{l:List XF}{x x':cL}(h:Lv P B f l x A i (.inRegion A r::k)=some x')(Q:f.todo=.inRegion A (i::r)::k)(hm:oN x')(Eu:∀p∈x'.dm,p.1=p.2)(J:aN f.E f.N a)(S:KU b0 oH cs0 l f.f b a.defers cs)(T:Inv Ok B w x.m)(K:wN Ok B Ψ b0 oH cs0 x.m w x')(m:∀y y':cL,∀f' E' o,tO P B f' l y (.inRegion A r::k) o E'=some y'->∀p∈y.dm,p∈y'.dm):Ψ (G (b.at a f.todo) cs) w:=by
 unfold Lv at h
 split at h
 .cases h
 .rename_i o ho
  split at h
  .rename_i z
   exact BH F hB hk h Q ho hm J (by simp[Region.wanted,z]) S T K
  .rename_i j want z
   split at h
   .cases h
   .rename_i d hd
    split at h
    .rename_i u O
     split at h
     .rename_i bb s bs hbs
      obtain⟨hc,h⟩:=aD h
      have Y:u=bb:=A0 hc λhs=>by
       subst hs
       have Z:(u,bb)∈x'.dm:=by
        cases c:(bb==want)with
        |true=>simp only[c,cond_true]at h;exact m _ _ _ _ _ h _ (by simp)
        |false=>
         simp only[c,cond_false]at h;cases e:mI f (.inRegion A r::k) ((d,.bool bb)::f.E) o.dst undef with
         |none=>rw[e]at h;cases h
         |some g=>rw[e]at h;cases h;simp
       exact Eu _ Z
      subst Y;have D:aN ((d,.bool u)::f.E) f.N a:=J.more O
      have L:yielded A a.tmps j=some u:=by
       unfold yielded;rw[hd];simp only[fA];rw[J.val d _ O]
      cases c:(u==want)with
      |true=>
       simp only[c,cond_true]at h;have X:u=want:=by simpa using c
       refine BH F hB hk (f:={f with E:=(d,.bool u)::f.E}) (x:={x with bs:=bs,dm:=_}) h Q ho hm D (by simp[Region.wanted,z,L,X]) S T K
      |false=>
       simp only[c,cond_false]at h;cases e:mI f (.inRegion A r::k) ((d,.bool u)::f.E) o.dst undef with
       |none=>rw[e]at h;cases h
       |some g=>
        rw[e]at h;cases h;obtain⟨W,V,U⟩:=ot e D;rw[Q];refine F.unwanted ho (by simp[Region.wanted,z,L];simpa using c) (K _ _ ?_ T (Fr.refl _ _) (λ_ h=>.inl h));exact⟨b,_,cs,by rw[V],U,by rw[W,put_defers];exact S⟩
     .cases h
    .rename_i arr O
     cases e:mI f (.inRegion A r::k) f.E o.dst undef with
     |none=>rw[e]at h;cases h
     |some g=>
      rw[e]at h;cases h;obtain⟨W,V,U⟩:=ot e J
      have L:yielded A a.tmps j=none:=by
       unfold yielded;rw[hd];simp only[fA];rw[J.val d _ O]
      rw[Q];refine F.unwanted ho (by simp[Region.wanted,z,L]) (K _ _ ?_ T (Fr.refl _ _) (λ_ h=>.inl h));exact⟨b,_,cs,by rw[V],U,by rw[W,put_defers];exact S⟩
    .cases h
theorem aC.vX{D:zx}(F:aC P main D Ψ){todo:eF}{c:aE}(s:b.kind=.normal)(y:a.defers=[])(u:P.funcs[b.fn]? =some fn)(f:∀d,(results fn a.tmps).run P (w.at d)=.ok v (w.at d))(m:∀d es,(∀e∈es,e∈(results fn a.tmps).events P (w.at d) #[])->D (w.at d) (w.at d) es)(h:Ψ (G (c.finish v) cs) w):Ψ (G {b.at a todo with mode:=.returning} (c::cs)) w:=
 F.step _ _ rfl λd=>by
  have this:∀W,(results fn a.tmps).run P W=.ok v W->stepG P main (G {b.at a todo with mode:=.returning} (c::cs)) W=.go (G (c.finish v) cs) W (seen P b.fn ((results fn a.tmps).events P W #[])):=λW f=>by
   simp[G,stepG,unwind,doReturn,Frame.at,s,y,u,f,GStep.after]
  refine⟨_,_,_,this _ (f d),m d _ λe g=>mem_seen g,F.at' _ _ _ h,λz x p J=>?_⟩;have j:=run_set x (results fn a.tmps) (w.at d) #[] J (by rw[fu,f d];trivial) (p _ _ _ (m d _ λe g=>g));have e1:(results fn a.tmps).run P ((w.at d).setCell z x)=.ok v ((w.at d).setCell z x):=by rw[<-fu (es:=#[]),j,fu,f d];rfl
  have e2:(results fn a.tmps).events P ((w.at d).setCell z x) #[]=(results fn a.tmps).events P (w.at d) #[]:=by unfold Sem.events;rw[j]
  rw[this _ e1,e2]
theorem qK{f:XF}{m j:l6}(h:iS P f m=some (v,j))(O:∀p∈j.eqs,p.1=p.2)(Q:∀p∈j.cT,p.1<p.2)(K:aN f.E f.N a)(S:Sat Ok w m.M):
 ∃fn,P.funcs[f.f]? =some fn/\(∀d,(results fn a.tmps).run P (w.at d)=.ok v (w.at d))/\(∀d es,(∀e∈es,e∈(results fn a.tmps).events P (w.at d) #[])->DX Ok (w.at d) (w.at d) es)/\j.M=m.M/\j.c=m.c:=by
 unfold iS at h
 split at h
 .rename_i fn G
  obtain⟨hk,h⟩:=aD h
  have c:∀t u,look f.E t=some u->a.tmps.getD t undef=(Br f.N f.E).getD t undef:=λt u e=>by
   have g:=K.val t u e
   have F:t<f.N:=by
    rcases kR t f.N with z|z
    .exact z
    .rw[MJ (by rw[K.sz];exact z)]at g;cases g
   rw[o9,g,o9];simp[Br,F,e]
  have hc:results fn a.tmps=results fn (Br f.N f.E):=tP λr L=>by
   have s:=eP.1 hk r L;refine⟨λx e=>?_,λx y e=>?_⟩
   .subst e;cases hl:look f.E x with
    |none=>simp[Fj,hl]at s
    |some u=>exact c x u hl
   .subst e;cases hl:look f.E x with
    |none=>simp[Fj,hl]at s
    |some u=>exact c x u hl
  obtain⟨U,g,T⟩:=I9 _ _ _ _ h O Q S #[];have D:=py _ _ _ _ h;refine⟨fn,G,λd=>by rw[hc,<-fu (es:=#[]),g d],λd es J=>DX.still d λe D=>?_,D.2.2.1,D.2.2.2⟩;have:=J e D;rw[hc]at this;unfold Sem.events at this;rw[g d]at this;exact T d e (by simpa using this)
 .cases h
theorem lP{f:XF}{m c:l6}(h:iS P f m=some (v,c)):(∀p∈m.eqs,p∈c.eqs)/\(∀p∈m.cT,p∈c.cT)/\c.M=m.M/\c.c=m.c:=by
 unfold iS at h
 split at h
 .obtain⟨_,h⟩:=aD h;exact py _ _ _ _ h
 .cases h
theorem Inv.same{m c:l6}(h:Inv Ok B w m)(e:c.M=m.M)(d:c.c=m.c):Inv Ok B w c:=⟨by rw[e];exact h.sat,by rw[d];exact h.sz⟩
theorem BJ(F:aC P main (DX Ok) Ψ){f:XF}{l:List XF}{x x':cL}(h:xW P f l x=some x')(y:oN x')(Y:aN f.E f.N a)(X:KU b0 oH cs0 l f.f b a.defers cs)(z:Inv Ok B w x.m)(K:wN Ok B Ψ b0 oH cs0 x.m w x')(todo:eF):Ψ (G {b.at a todo with mode:=.returning} cs) w:=by
 unfold xW at h
 split at h
 .rename_i g l
  split at h
  .rename_i A i r k W
   split at h
   .rename_i v m V
    cases p:mI g (.inRegion A r::k) g.E ((A[i]?).bind (·.dst)) v with
    |none=>rw[p]at h;cases h
    |some hh=>
     rw[p]at h;cases h;obtain⟨Q,O,L,Z,a',u,rfl,J,D⟩:=X;obtain⟨fn,s,j,e,c,d⟩:=qK V y.eqs y.cT Y z.sat;obtain⟨U,T,S⟩:=ot p J;refine F.vX Q L (by rw[O];exact s) j e ?_;rw[W,bO];refine K _ _ ?_ (z.same c d) (Fr.refl _ _) (λ_ h=>.inl (by simpa [c]using h));exact⟨Z,_,u,by rw[T],S,by rw[U,put_defers];exact D⟩
   .cases h
  .cases h
 .cases h
structure Sub(x y:cL):Prop where
 eqs:∀p∈x.m.eqs,p∈y.m.eqs
 cT:∀p∈x.m.cT,p∈y.m.cT
 dm:∀p∈x.dm,p∈y.dm
 eU:∀p∈x.eU,p∈y.eU
theorem Sub.refl(x:cL):Sub x x:=⟨λ_ h=>h,λ_ h=>h,λ_ h=>h,λ_ h=>h⟩
theorem Sub.trans{x y z:cL}(h:Sub x y)(d:Sub y z):Sub x z:=⟨λp c=>d.eqs p (h.eqs p c),λp c=>d.cT p (h.cT p c),λp c=>d.dm p (h.dm p c),λp c=>d.eU p (h.eU p c)⟩
theorem Sub.met{x y:cL}(h:Sub x y)(d:oN y):oN x:=⟨λp c=>d.eqs p (h.eqs p c),λp c=>d.cT p (h.cT p c),λp c=>d.dm p (h.dm p c),λp c=>d.eU p (h.eU p c)⟩
theorem map_some{o:Option α}{f:α->β}{y:β}(h:o.map f=some y):∃a,o=some a/\f a=y:=by cases o with|none=>cases h|some a=>exact⟨a,rfl,Option.some.inj h⟩
theorem xR{f:XF}{l:List XF}{x x':cL}(h:zV P B f l x t o E=some x'):Sub x x':=by
 obtain⟨_,h⟩:=aD h
 split at h
 .rename_i v m c;obtain⟨g,_,rfl⟩:=map_some h;have:=gA _ _ _ _ c;exact⟨this.1,this.2,λ_ h=>h,λ_ h=>h⟩
 .rename_i m c;obtain⟨g,_,rfl⟩:=map_some h;have:=gA _ _ _ _ c;exact⟨this.1,this.2,λ_ h=>h,λ_ h=>h⟩
 .split at h
  .split at h
   .split at h
    .cases h;exact⟨λ_ h=>h,λ_ h=>h,λ_ h=>h,λ_ h=>h⟩
    .cases h
   .cases h
  .cases h
 .cases h
theorem rY{f:XF}{l:List XF}{x x':cL}(h:tO P B f l x t o E=some x'):Sub x x':=by
 unfold tO at h;cases c:tX o with
 |false=>rw[c]at h;exact xR h
 |true=>
  rw[c]at h;simp only[cond_true]at h
  split at h
  .have:=xR h;exact⟨this.eqs,this.cT,this.dm,this.eU⟩
  .obtain⟨_,h⟩:=aD h
   split at h
   .obtain⟨g,_,rfl⟩:=map_some h;exact⟨λ_ h=>h,λ_ h=>h,λ_ h=>h,λ_ h=>aO _ h⟩
   .cases h
  .cases h
theorem Jl{f:XF}{l:List XF}{x x':cL}(h:Lv P B f l x A i t=some x'):Sub x x':=by
 unfold Lv at h
 split at h
 .cases h
 .split at h
  .exact rY h
  .rename_i want _
   split at h
   .cases h
   .split at h
    .rename_i u _
     split at h
     .rename_i bb s bs _
      obtain⟨_,h⟩:=aD h;have e:∀p∈x.dm,p∈(bif s then x.dm else(u,bb)::x.dm):=λp d=>by cases s<;>simp[d]
      cases c:(bb==want)with
      |true=>simp only[c,cond_true]at h;have:=rY h;exact⟨this.eqs,this.cT,λp d=>this.dm p (e p d),this.eU⟩
      |false=>simp only[c,cond_false]at h;obtain⟨g,_,rfl⟩:=map_some h;exact⟨λ_ h=>h,λ_ h=>h,e,λ_ h=>h⟩
     .cases h
    .obtain⟨g,_,rfl⟩:=map_some h;exact⟨λ_ h=>h,λ_ h=>h,λ_ h=>h,λ_ h=>h⟩
    .cases h
theorem xV{f:XF}{l:List XF}{x x':cL}(h:xW P f l x=some x'):Sub x x':=by
 unfold xW at h
 split at h
 .split at h
  .split at h
   .rename_i c;obtain⟨g,_,rfl⟩:=map_some h;have:=lP c;exact⟨this.1,this.2.1,λ_ h=>h,λ_ h=>h⟩
   .cases h
  .cases h
 .cases h
theorem u0{x x':cL}(h:mW P B x=some x'):Sub x x':=by
 unfold mW at h
 split at h
 .cases h
 .split at h
  .cases h;exact⟨λ_ h=>h,λ_ h=>h,λ_ h=>h,λ_ h=>h⟩
  .split at h
   .split at h
    .split at h
     .rename_i bb s bs _
      obtain⟨_,h⟩:=aD h;cases h
      exact⟨λ_ h=>h,λ_ h=>h,λp c=>by cases s<;>simp[c],λ_ h=>h⟩
     .cases h
    .cases h
   .exact Jl h
   .exact xV h
   .exact xV h
   .cases h
theorem pU:∀(n:Nat)(x x':cL),mV P B n x=some x'->Sub x x'
 |0,x,x',h=>by cases h;exact Sub.refl _
 |n+1,x,x',h=>by
  simp only[mV]at h
  split at h
  .rename_i y c;exact(u0 c).trans (pU n y x' h)
  .cases h
theorem yQ(F:aC P main (DX Ok) Ψ)(hB:∀(a:Addr)(wr:Bool),B<=a.block->Ok a wr)(hk:b0.kind≠.early){x x':cL}(h:mW P B x=some x')(m:oN x'){g:aW}(Q:Ux b0 oH cs0 x.fs g)(G:Inv Ok B w x.m)(K:wN Ok B Ψ b0 oH cs0 x.m w x'):Ψ g w:=by
 unfold mW at h
 split at h
 .cases h
 .rename_i f l O
  rw[O]at Q;obtain⟨b,a,cs,rfl,j,D⟩:=Q
  split at h
  .rename_i t e
   cases h
   exact F.ctl (λ_=>Kn e) (K _ _ ⟨b,a,cs,rfl,j,D⟩ G (Fr.refl _ _) (λ_ h=>.inl h))
  .split at h
   .rename_i c y z k e
    split at h
    .rename_i u L
     split at h
     .rename_i bb s bs W
      obtain⟨hc,h⟩:=aD h;cases h
      simp only[cq]at hc;have J:u=bb:=A0 hc.2 λT=>by subst T;exact m.dm (u,bb) (by simp)
      subst J;have S:=j.eval hc.1;rw[L]at S;rw[e];refine F.ctl (λ_=>stepG_cond (t:=u) S) (K _ _ ⟨b,a,cs,?_,?_,D⟩ G (Fr.refl _ _) (λ_ h=>.inl h))
      .cases u<;>rfl
      .cases c with
       |tmp d=>
        refine j.more ?_;have X:=hc.1;cases hl:look f.E d with
        |none=>simp[kn,hl]at X
        |some v=>simp[ev,hl]at L;rw[L]
       |_=>exact j
     .cases h
    .cases h
   .rename_i A i r k e
    exact NP F hB hk h e m m.dm j D G K (λy Y f' Z o U p V=>(rY U).dm p V)
   .rename_i k e
    rw[e];exact F.ctl (λ_=>stepG_ret') (BJ F h m j D G K _)
   .rename_i e
    rw[e];exact F.ctl (λ_=>stepG_end) (BJ F h m j D G K _)
   .cases h
theorem yO(F:aC P main (DX Ok) Ψ)(hB:∀(a:Addr)(wr:Bool),B<=a.block->Ok a wr)(hk:b0.kind≠.early):∀(n:Nat){x x':cL}(h:mV P B n x=some x')(e:oN x'){g:aW}{w:aj}(f:Ux b0 oH cs0 x.fs g)(j:Inv Ok B w x.m)(K:wN Ok B Ψ b0 oH cs0 x.m w x'),Ψ g w
 |0,x,x',h,e,g,w,f,j,K=>by cases h;exact K _ _ f j (Fr.refl _ _) (λ_ h=>.inl h)
 |n+1,x,x',h,e,g,w,f,j,K=>by
  simp only[mV]at h
  split at h
  .rename_i y J
   refine yQ F hB hk J ((pU n y x' h).met e) f j λg' w' p D d c=>?_
   refine yO F hB hk n h e p D λQ O m u G s=>?_
   refine K _ _ m u (d.trans G c) (λa L=>(s a L).elim (c a) (λz=>.inr (aT d.size z)))
  .cases h
theorem zQ:∀(s:Sem α)(m d:l6)(x:α),dy P B s m=some (x,d)->m.c<=d.c:=by
 intro s
 induction s with
 |pure a=>intro m d x h;simp[dy]at h;obtain⟨rfl,rfl⟩:=h;exact az _
 |load md a k c=>
  intro m d x h;simp only[dy]at h
  split at h
  .split at h
   .obtain⟨_,h⟩:=aD h;have:=c _ _ _ _ h;exact this
   .cases h
  .cases h
 |store md a v k c=>
  intro m d x h;simp only[dy]at h
  split at h
  .split at h
   .obtain⟨_,h⟩:=aD h;have:=c _ _ _ h;exact this
   .cases h
  .cases h
 |new o k c=>
  intro m d x h;simp only[dy]at h
  split at h
  .have:=c _ _ _ _ h;simp at this;omega
  .cases h
 |program k c=>intro m d x h;exact c _ _ _ _ h
 |mark mk k c=>
  intro m d x h;cases mk<;>simp only[dy]at h<;>first|exact c _ _ _ h|cases h
 |_=>intros;simp_all [dy]
theorem rT:∀(s:Sem α)(m c:l6)(x:α),dy P B s m=some (x,c)->c.c=m.c->dy P B' s m=some (x,c):=by
 intro s
 induction s with
 |pure a=>intro m c x h _;exact h
 |load md a k d=>
  intro m c x h hc;simp only[dy]at h ⊢
  split at h
  .split at h
   .obtain⟨e,h⟩:=aD h;rw[e];exact d _ _ _ _ h hc
   .cases h
  .cases h
 |store md a v k d=>
  intro m c x h hc;simp only[dy]at h ⊢
  split at h
  .split at h
   .obtain⟨e,h⟩:=aD h;rw[e];exact d _ _ _ h hc
   .cases h
  .cases h
 |new o k d=>
  intro m c x h hc;simp only[dy]at h
  split at h
  .have:=zQ _ _ _ _ h;simp at this;omega
  .cases h
 |program k d=>intro m c x h hc;exact d _ _ _ _ h hc
 |mark mk k d=>
  intro m c x h;cases mk<;>simp only[dy]at h<;>first|exact d _ _ _ h|cases h
 |_=>intros;simp_all [dy]
theorem FF{f:XF}{l:List XF}{x x':cL}(h:zV P B f l x t o E=some x'):x.m.c<=x'.m.c/\(x'.m.c=x.m.c->zV P B' f l x t o E=some x'):=by
 obtain⟨F,h⟩:=aD h;unfold zV;rw[F];simp only[cond_true]
 split at h
 .rename_i v m d;obtain⟨g,j,rfl⟩:=map_some h;exact⟨zQ _ _ _ _ d,λhc=>by rw[rT (B':=B') _ _ _ _ d hc];simp only;rw[j];rfl⟩
 .rename_i m d;obtain⟨g,j,rfl⟩:=map_some h;exact⟨zQ _ _ _ _ d,λhc=>by rw[rT (B':=B') _ _ _ _ d hc];simp only;rw[j];rfl⟩
 .rename_i f1 G m1 d
  split at h
  .rename_i z args u
   have e:dy P B' (execOp (ev E) o) x.m=some (.enter z args,x.m):=by
    have key:∀(s:Sem Next)(y:Next)(m:l6),cS P s=some y->dy P B' s m=some (y,m):=by
     intro s
     induction s with
     |pure a=>intro y m h;simp[cS]at h;subst h;rfl
     |program k p=>intro y m h;exact p _ _ _ h
     |_=>intros;simp_all [cS]
    exact key _ _ _ u
   split at h
   .rename_i fn D
    split at h
    .rename_i c hc
     cases h
     exact⟨az _,λ_=>by rw[e]⟩
    .cases h
   .cases h
  .cases h
 .cases h
theorem FG{f:XF}{l:List XF}{x x':cL}(h:tO P B f l x t o E=some x'):x.m.c<=x'.m.c/\(x'.m.c=x.m.c->tO P B' f l x t o E=some x'):=by
 unfold tO at h ⊢;cases c:tX o with
 |false=>rw[c]at h;simp only[cond_false]at h ⊢;exact FF h
 |true=>
  rw[c]at h;simp only[cond_true]at h ⊢
  split at h
  .have:=FF (B':=B') h;exact this
  .have j:=h
   obtain⟨e,h⟩:=aD h
   split at h
   .obtain⟨g,d,rfl⟩:=map_some h;exact⟨az _,λ_=>by rw[e,d];rfl⟩
   .cases h
  .cases h
theorem Rw{f:XF}{l:List XF}{x x':cL}(h:Lv P B f l x A i t=some x'):x.m.c<=x'.m.c/\(x'.m.c=x.m.c->Lv P B' f l x A i t=some x'):=by
 unfold Lv at h ⊢
 split at h
 .cases h
 .split at h
  .exact FG h
  .rename_i want _
   split at h
   .cases h
   .split at h
    .split at h
     .rename_i bb s bs _
      have j:=h;obtain⟨e,h⟩:=aD h;cases c:(bb==want)with
      |true=>simp only[c,cond_true]at h ⊢;rw[e];simp only[cond_true];exact FG h
      |false=>simp only[c,cond_false]at h ⊢;obtain⟨g,d,rfl⟩:=map_some h;exact⟨az _,λ_=>by rw[e,d];rfl⟩
     .cases h
    .have j:=h;obtain⟨g,d,rfl⟩:=map_some h;exact⟨az _,λ_=>j⟩
    .cases h
theorem FH{f:XF}{l:List XF}{x x':cL}(h:xW P f l x=some x'):x'.m.c=x.m.c:=by
 unfold xW at h
 split at h
 .split at h
  .split at h
   .rename_i c;obtain⟨g,_,rfl⟩:=map_some h;exact(lP c).2.2.2
   .cases h
  .cases h
 .cases h
theorem Cs{x x':cL}(h:mW P B x=some x'):x.m.c<=x'.m.c/\(x'.m.c=x.m.c->mW P B' x=some x'):=by
 unfold mW at h ⊢
 split at h
 .cases h
 .split at h
  .cases h;exact⟨az _,λ_=>rfl⟩
  .split at h
   .split at h
    .split at h
     .have c:=h
      obtain⟨d,h⟩:=aD h;cases h;exact⟨az _,λ_=>c⟩
     .cases h
    .cases h
   .exact Rw h
   .exact⟨rG (FH h).symm,λ_=>h⟩
   .exact⟨rG (FH h).symm,λ_=>h⟩
   .cases h
theorem Cr:∀(n:Nat){x x':cL},mV P B n x=some x'->x.m.c<=x'.m.c/\(x'.m.c=x.m.c->mV P B' n x=some x')
 |0,x,x',h=>by cases h;exact⟨az _,λ_=>rfl⟩
 |n+1,x,x',h=>by
  simp only[mV]at h ⊢
  split at h
  .rename_i y e
   have d:=Cs (B':=B') e;have c:=Cr n h;refine⟨aT d.1 c.1,λhc=>?_⟩;rw[d.2 (by omega)];simp only;exact c.2 (by omega)
  .cases h
def yZ(x:cL):Bool:=match x.fs with
 |[f]=>match f.todo with
  |[]=>true
  |.code .ret::_=>true
  |_=>false
 |_=>false
def qh(P:aI)(B:Nat):Nat->cL->Option cL
 |0,_=>none
 |n+1,x=>bif yZ x then some x else match mW P B x with
  |some y=>qh P B n y
  |none=>none
theorem qY{P:aI}{B:Nat}:∀(n:Nat){x y:cL},qh P B n x=some y->yZ y=true/\∃k,mV P B k x=some y
 |0,x,y,h=>by cases h
 |n+1,x,y,h=>by
  simp only[qh]at h;cases c:yZ x with
  |true=>rw[c]at h;simp at h;subst h;exact⟨c,0,rfl⟩
  |false=>
   rw[c]at h;simp only[cond_false]at h
   split at h
   .rename_i z d
    obtain⟨f,k,e⟩:=qY n h;exact⟨f,k+1,by simp only[mV,d];exact e⟩
   .cases h
def NQ(P:aI)(B:Nat)(E:Env)(o:Oper)(x:cL):Option (Value×cL):=
 bif !lU o&&o.op.operands.all (kn E)then
  bif tX o then match x.bs with
   |(_,true)::bs=>match dy P B (execOp (ev E) o) x.m with
    |some (.value v,m)=>some (v,{x with m:=m,bs:=bs})
    |_=>none
   |(_,false)::bs=>match U9 P E o with
    |some (v,i,n)=>some (v,{x with bs:=bs,eU:=(i,n)::x.eU})
    |none=>none
   |[]=>none
  else match dy P B (execOp (ev E) o) x.m with
   |some (.value v,m)=>some (v,{x with m:=m})
   |some (.skip,m)=>some (undef,{x with m:=m})
   |some (.enter _ _,_)=>match cS P (execOp (ev E) o)with
    |some (.enter h args)=>match P.funcs[h]? with
     |some fn=>match fn.body with
      |some c=>match qh P B 2000 {x with fs:=[⟨h,args.size+(fn.ntmps-args.size),[.code c],rL args.toList 0⟩]} with
       |some y=>match y.fs with
        |[f]=>bif f.f==h then(iS P f y.m).map λp=>(p.1,{y with m:=p.2})else none
        |_=>none
       |none=>none
      |none=>none
     |none=>none
    |_=>none
   |_=>none
 else none
def wV(P:aI)(B:Nat)(A:b9)(E:Env)(o:Oper)(x:cL):Option (Value×cL):=match o.guard with
 |none=>NQ P B E o x
 |some (j,want)=>match (A[j]?).bind (·.dst)with
  |none=>none
  |some d=>match look E d with
   |some (.bool u)=>match x.bs with
    |(b,s)::bs=>bif !s||(u==b)then
       (bif b==want then NQ P B ((d,.bool b)::E) o {x with bs:=bs,dm:=bif s then x.dm else(u,b)::x.dm} else some (undef,{x with bs:=bs,dm:=bif s then x.dm else(u,b)::x.dm}))
     else none
    |[]=>none
   |some (.tuple _)=>some (undef,x)
   |_=>none
theorem vQ{x y:cL}(h:NQ P B E o x=some (v,y)):Sub x y:=by
 obtain⟨_,h⟩:=aD h;cases d:tX o with
 |true=>
  rw[d]at h;simp only[cond_true]at h
  split at h
  .split at h
   .rename_i c;cases h;have:=gA _ _ _ _ c;exact⟨this.1,this.2,λ_ h=>h,λ_ h=>h⟩
   .cases h
  .split at h
   .cases h;exact⟨λ_ h=>h,λ_ h=>h,λ_ h=>h,λ_ h=>aO _ h⟩
   .cases h
  .cases h
 |false=>
  rw[d]at h;simp only[cond_false]at h
  split at h
  .rename_i c;cases h;have:=gA _ _ _ _ c;exact⟨this.1,this.2,λ_ h=>h,λ_ h=>h⟩
  .rename_i c;cases h;have:=gA _ _ _ _ c;exact⟨this.1,this.2,λ_ h=>h,λ_ h=>h⟩
  .split at h
   .split at h
    .split at h
     .split at h
      .rename_i z j
       split at h
       .obtain⟨_,h⟩:=aD h
        obtain⟨s,m,e⟩:=map_some h;cases e
        obtain⟨_,k,hk⟩:=qY _ j;have:=pU _ _ _ hk;have g:=lP m;exact⟨λp f=>g.1 p (this.eqs p f),λp f=>g.2.1 p (this.cT p f),this.dm,this.eU⟩
       .cases h
      .cases h
     .cases h
    .cases h
   .cases h
  .cases h
theorem FZ(F:aC P main (DX Ok) Ψ)(hB:∀(a:Addr)(wr:Bool),B<=a.block->Ok a wr)(hk:b.kind≠.early){x y:cL}(ho:A[i]? =some o)(hw:Region.wanted o (yielded A a.tmps)=true)(h:NQ P B E o x=some (v,y))(s:oN y)(hA:aN E N a)(hI:Inv Ok B w x.m)(K:∀w',Inv Ok B w' y.m->Fr (Wr x.m.M) w w'->(∀a,Wr y.m.M a->Wr x.m.M a\/w.heap.size<=a.block)->Ψ (G (b.at (a.put o.dst v) (.inRegion A rest::k)) cs) w'):Ψ (G (b.at a (.inRegion A (i::rest)::k)) cs) w:=by
 obtain⟨u,h⟩:=aD h;simp only[cq,mF]at u;obtain⟨O,u⟩:=u;have g:execOp a.eval o=execOp (ev E) o:=execOp_congr O λy hy=>hA.eval (zC.1 u y hy)
 have fin:∀(v:ay)(m:l6)(nx:Next),dy P B (execOp (ev E) o) x.m=some (nx,m)->(∀K':Act->World->Prop,∀W,uponK o a K' (.ok nx W)=K' (a.put o.dst v) W)->(∀p∈m.eqs,p.1=p.2)->(∀p∈m.cT,p.1<p.2)->
  (∀w',Inv Ok B w' m->Fr (Wr x.m.M) w w'->(∀a,Wr m.M a->Wr x.m.M a\/w.heap.size<=a.block)->Ψ (G (b.at (a.put o.dst v) (.inRegion A rest::k)) cs) w')->Ψ (G (b.at a (.inRegion A (i::rest)::k)) cs) w:=by
  intro v m nx J hu SK Xq K;obtain⟨w',VB,S,h1,h2,h3,h4,h5⟩:=BB hB _ _ _ _ J SK Xq w #[] hI;refine F.ZC ho hw hk λd K' hK=>?_
  have e1:=h2 d;have e2:(execOp a.eval o).run P (w.at d)=.ok nx (w'.at d):=by rw[g,<-fu (es:=#[]),e1]
  have e3:raw P a o (w.at d)=VB:=by unfold raw Sem.events;rw[g,e1];simp
  rw[e2,hu];exact hK _ _ S (by rw[e3];exact h3.1) ⟨h3.2 d,K _ h1 h4 h5⟩
 cases V:tX o with
 |true=>
  rw[V]at h;simp only[cond_true]at h
  split at h
  .split at h
   .rename_i J;cases h;exact fin _ _ _ J (λ_ _=>rfl) s.eqs s.cT K
   .cases h
  .split at h
   .rename_i v' ii n hx
    cases h
    have hi:=s.eU (ii,n) (by simp);have hq:=fP _ _ (Al hx hi.1 hi.2);refine F.op ho hw hk λd K' hK=>?_
    have e2:(execOp a.eval o).run P (w.at d)=.ok (.value v) (w.at d):=by rw[g,<-fu (es:=#[]),hq]
    have e3:raw P a o (w.at d)=#[]:=by unfold raw Sem.events;rw[g,hq]
    rw[e2];exact hK _ w ⟨by rw[e3];exact DX.still d (by simp),K _ hI (Fr.refl _ _) (λ_ h=>.inl h)⟩
   .cases h
  .cases h
 |false=>
  rw[V]at h;simp only[cond_false]at h
  split at h
  .rename_i J;cases h;exact fin _ _ _ J (λ_ _=>rfl) s.eqs s.cT K
  .rename_i J;cases h;exact fin _ _ _ J (λ_ _=>rfl) s.eqs s.cT K
  .split at h
   .rename_i hh args hq
    split at h
    .rename_i fn Vm
     split at h
     .rename_i c hc
      split at h
      .rename_i z hz
       split at h
       .rename_i f hf
        obtain⟨hff,h⟩:=aD h;obtain⟨v',hv,e⟩:=map_some h;cases e
        obtain⟨j,n,hn⟩:=qY _ hz;have U:=fP _ _ hq;refine F.enter (f:=hh) (args:=args) ho hw hk (λd=>?_) (λd=>?_) ?_
        .rw[g,<-fu (es:=#[]),U]
        .unfold Sem.events;rw[g,U]
        .obtain⟨aa,e1,e2,e3⟩:=jw (args:=args) Vm hc
         have Q:=lP hv;refine yO (b0:=Frame.enter P hh args .normal) (oH:=[]) (cs0:=b.at a (.inRegion A (i::rest)::k)::cs) F hB (by show CallKind.normal≠_;decide) n hn ⟨λp hp=>s.eqs p (Q.1 p hp),λp hp=>s.cT p (Q.2.1 p hp),s.dm,s.eU⟩ ⟨_,aa,_,by rw[<-e1],e2,rfl,e3,rfl⟩ hI ?_;intro g' w' X Io hF' hW';rw[hf]at X;obtain⟨b1,a1,Uh,rfl,Ip,r1,r2,r3⟩:=X;subst r1;subst r3;obtain⟨fn',Y,Vf,Og,T,hr4⟩:=qK hv s.eqs s.cT Ip Io.sat;have Z:f.f=hh:=by simpa using hff
         have D:∀todo,Ψ (G {(Frame.enter P hh args .normal).at a1 todo with mode:=.returning} (b.at a (.inRegion A (i::rest)::k)::cs)) w':=λtodo=>by
          refine F.vX rfl r2 (fn:=fn') (by rw[<-Z];exact Y) Vf Og ?_;rw[bO,ho];exact K _ (Io.same T hr4) hF' (λad Ax=>hW' ad (by simpa [T]using Ax))
         have L:f.todo=[]\/∃l,f.todo=.code .ret::l:=by
          unfold yZ at j;rw[hf]at j;simp only at j
          split at j
          .rename_i e;exact .inl e
          .rename_i l e;exact .inr ⟨l,e⟩
          .cases j
         rcases L with L|⟨l,L⟩
         .rw[L];exact F.ctl (λ_=>stepG_end) (D _)
         .rw[L];exact F.ctl (λ_=>stepG_ret') (D _)
       .cases h
      .cases h
     .cases h
    .cases h
   .cases h
  .cases h
theorem Kd{B':Nat}(n:Nat){x y:cL}(h:qh P B n x=some y):x.m.c<=y.m.c:=by
 obtain⟨_,k,hk⟩:=qY n h;exact(Cr (B':=B) k hk).1
theorem Cq{B':Nat}:∀(n:Nat){x y:cL},qh P B n x=some y->y.m.c=x.m.c->qh P B' n x=some y
 |0,x,y,h,_=>by cases h
 |n+1,x,y,h,hc=>by
  simp only[qh]at h ⊢;cases c:yZ x with
  |true=>rw[c]at h;exact h
  |false=>
   rw[c]at h;simp only[cond_false]at h ⊢
   split at h
   .rename_i z d
    have e:=Cs (B':=B') d;have f:=Kd (B':=B) n h;rw[e.2 (by omega)];simp only;exact Cq n h (by omega)
   .cases h
theorem Ly{x y:cL}(h:NQ P B E o x=some (v,y))(hc:y.m.c=x.m.c)(B':Nat):NQ P B' E o x=some (v,y):=by
 obtain⟨j,h⟩:=aD h;unfold NQ;rw[j];simp only[cond_true];cases g:tX o with
 |true=>
  rw[g]at h;simp only[cond_true]at h ⊢
  split at h
  .split at h
   .rename_i d;cases h;rw[rT (B':=B') _ _ _ _ d hc]
   .cases h
  .exact h
  .cases h
 |false=>
  rw[g]at h;simp only[cond_false]at h ⊢
  split at h
  .rename_i d;cases h;rw[rT (B':=B') _ _ _ _ d hc]
  .rename_i d;cases h;rw[rT (B':=B') _ _ _ _ d hc]
  .have key:∀(s:Sem Next)(y:Next)(m:l6),cS P s=some y->dy P B' s m=some (y,m):=by
    intro s
    induction s with
    |pure a=>intro y m h;simp[cS]at h;subst h;rfl
    |program k F=>intro y m h;exact F _ _ _ h
    |_=>intros;simp_all [cS]
   split at h
   .rename_i S args J
    rw[key _ _ x.m J];simp only
    split at h
    .rename_i fn K
     split at h
     .rename_i c O
      split at h
      .rename_i z G
       split at h
       .rename_i f L
        obtain⟨p,h⟩:=aD h;obtain⟨Q,D,e⟩:=map_some h;cases e
        have u:z.m.c=x.m.c:=by have:=(lP D).2.2.2;rw[<-this];exact hc
        rw[Cq (B':=B') _ G u];simp only[L,p,cond_true,D];rfl
       .cases h
      .cases h
     .cases h
    .cases h
   .cases h
  .cases h
theorem Jm{x y:cL}(h:wV P B A E o x=some (v,y)):Sub x y:=by
 unfold wV at h
 split at h
 .exact vQ h
 .rename_i want _
  split at h
  .cases h
  .split at h
   .rename_i u _
    split at h
    .rename_i bb s bs _
     obtain⟨_,h⟩:=aD h;have e:∀p∈x.dm,p∈(bif s then x.dm else(u,bb)::x.dm):=λp d=>by cases s<;>simp[d]
     cases c:(bb==want)with
     |true=>rw[c]at h;simp only[cond_true]at h;have:=vQ h;exact⟨this.eqs,this.cT,λp d=>this.dm p (e p d),this.eU⟩
     |false=>rw[c]at h;simp only[cond_false]at h;cases h;exact⟨λ_ h=>h,λ_ h=>h,e,λ_ h=>h⟩
    .cases h
   .cases h;exact Sub.refl _
   .cases h
theorem F3{x y:cL}(h:wV P B A E o x=some (v,y))(hc:y.m.c=x.m.c)(B':Nat):wV P B' A E o x=some (v,y):=by
 cases f:o.guard with
 |none=>simp only[wV,f]at h ⊢;exact Ly h hc B'
 |some p=>
  obtain⟨j,want⟩:=p;simp only[wV,f]at h ⊢;cases g:(A[j]?).bind (·.dst)with
  |none=>simp only[g]at h;cases h
  |some d=>
   simp only[g]at h ⊢;cases hl:look E d with
   |none=>simp only[hl]at h;cases h
   |some z=>
    cases z with
    |bool u=>
     simp only[hl]at h ⊢;cases m:x.bs with
     |nil=>simp only[m]at h;cases h
     |cons q bs=>
      obtain⟨bb,s⟩:=q;simp only[m]at h ⊢;obtain⟨e,h⟩:=aD h;rw[e,cond_true];cases c:(bb==want)with
      |true=>rw[c,cond_true]at h;rw[cond_true];exact Ly h hc B'
      |false=>rw[c,cond_false]at h;rw[cond_false];exact h
    |tuple z=>simp only[hl]at h ⊢;exact h
    |_=>simp only[hl]at h;cases h
theorem vS(F:aC P main (DX Ok) Ψ)(hB:∀(a:Addr)(wr:Bool),B<=a.block->Ok a wr)(hk:b.kind≠.early){x y:cL}(ho:A[i]? =some o)(h:wV P B A E o x=some (v,y))(J:oN y)(p:aN E N a)(m:Inv Ok B w x.m)(K:∀w',Inv Ok B w' y.m->Fr (Wr x.m.M) w w'->(∀a,Wr y.m.M a->Wr x.m.M a\/w.heap.size<=a.block)->Ψ (G (b.at (a.put o.dst v) (.inRegion A rest::k)) cs) w'):Ψ (G (b.at a (.inRegion A (i::rest)::k)) cs) w:=by
 unfold wV at h
 split at h
 .rename_i e
  exact FZ F hB hk ho (by simp[Region.wanted,e]) h J p m K
 .rename_i j want e
  split at h
  .cases h
  .rename_i d Q
   split at h
   .rename_i u g
    split at h
    .rename_i bb s bs T
     obtain⟨hc,h⟩:=aD h
     have D:u=bb:=A0 hc λS=>by
      subst S
      have L:(u,bb)∈y.dm:=by
       cases c:(bb==want)with
       |true=>rw[c]at h;simp only[cond_true]at h;exact(vQ h).dm _ (by simp)
       |false=>rw[c]at h;simp only[cond_false]at h;cases h;simp
      exact J.dm _ L
     subst D;have O:aN ((d,.bool u)::E) N a:=p.more g
     have f:yielded A a.tmps j=some u:=by
      unfold yielded;rw[Q];simp only[fA];rw[p.val d _ g]
     cases c:(u==want)with
     |true=>
      rw[c]at h;simp only[cond_true]at h;have z:u=want:=by simpa using c
      exact FZ F hB hk ho (by simp[Region.wanted,e,f,z]) h J O (x:={x with bs:=bs,dm:=_}) m K
     |false=>
      rw[c]at h;simp only[cond_false]at h;cases h;exact F.unwanted ho (by simp[Region.wanted,e,f];simpa using c) (K _ m (Fr.refl _ _) (λ_ h=>.inl h))
    .cases h
   .rename_i arr g
    cases h
    have f:yielded A a.tmps j=none:=by
     unfold yielded;rw[Q];simp only[fA];rw[p.val d _ g]
    exact F.unwanted ho (by simp[Region.wanted,e,f]) (K _ m (Fr.refl _ _) (λ_ h=>.inl h))
   .cases h
def ro(M:aX):List aJ:=M.map λr=>{r with wr:=false}
theorem F8:∀(M:aX)(i:Nat),nth (ro M) i=(nth M i).map λr=>{r with wr:=false}
 |[],i=>rfl
 |x::l,0=>rfl
 |x::l,i+1=>F8 l i
theorem xT{r:aJ}(h:nth (ro M) i=some r):∃s,nth M i=some s/\r={s with wr:=false}:=by
 rw[F8]at h;obtain⟨s,d,c⟩:=map_some h;exact⟨s,d,c.symm⟩
theorem Sat.ro(h:Sat Ok w M):Sat Ok w (ro M):=by
 refine⟨λi r c j hj=>?_,λi r c j hj=>?_,λi r g r' c f e=>?_,λi r c=>?_⟩
 .obtain⟨s,d,rfl⟩:=xT c;exact h.val i s d j hj
 .obtain⟨s,d,rfl⟩:=xT c;exact⟨(h.ok i s d j hj).1,λz=>by cases z⟩
 .obtain⟨s,d,rfl⟩:=xT c;cases e
 .obtain⟨s,d,rfl⟩:=xT c;exact h.row i s d
theorem ve{a:Addr}(h:Wr (ro M) a):False:=by
 obtain⟨i,r,j,d,c,_⟩:=h;obtain⟨s,_,rfl⟩:=xT d;cases c
theorem Fr.Dg{W f:Addr->Prop}(h:Fr W w w')(d:∀a,W a->f a):Fr f w w':=
 ⟨h.size,λa g c=>h.cell a g λz=>c (d a z),λk hk c=>h.blk k hk λa e z=>c a e (d a z),h.obj,h.row⟩
theorem Sat.keep(h:Sat Ok w M)(d:Fr (λ_=>False) w w'):Sat Ok w' M:=by
 refine⟨λi r c j hj=>?_,λi r c j hj=>?_,h.sep,λi r c g e n s=>?_⟩
 .rw[(d.cell _ (h.lt c hj) id).1];exact h.val i r c j hj
 .rw[(d.cell _ (h.lt c hj) id).2];exact h.ok i r c j hj
 .obtain⟨p,m,f⟩:=h.row i r c g e n s;exact⟨p,m,d.row _ _ _ f⟩
theorem Sat.grow(h:Sat Ok w M)(S:Fr (λ_=>False) w w'){Y:aX}{p:Nat}(z:Sat Ok w' Y)(u:nth Y p=some R)(Q:R.wr=true)(L:∀j,R.has j->w.heap.size<=(R.ad j).block):Sat Ok w' (R::M):=by
 have D:=h.keep S;refine⟨λk s hk l hl=>?_,λk s hk l hl=>?_,λk s U O hk x G l F hl c y=>?_,λk s hk g e n K=>?_⟩
 .rcases cB hk with ⟨f,_,d⟩|⟨_,rfl⟩
  .exact D.val f s d l hl
  .exact z.val p s u l hl
 .rcases cB hk with ⟨f,_,d⟩|⟨_,rfl⟩
  .exact D.ok f s d l hl
  .exact z.ok p s u l hl
 .rcases cB hk with ⟨f,V,d⟩|⟨e1,rfl⟩
  .rcases cB x with ⟨J,T,m⟩|⟨e2,rfl⟩
   .have:=D.sep f s J O d m G l F hl c y;exact⟨by omega,this.2⟩
   .have:=h.lt d hl;have:=L F c;rw[<-y]at this;omega
  .rcases cB x with ⟨J,T,m⟩|⟨e2,rfl⟩
   .have:=h.lt m c;have:=L l hl;rw[y]at this;omega
   .exact⟨e1.trans e2.symm,(z.sep p _ p _ u u Q l F hl c y).2⟩
 .rcases cB hk with ⟨f,_,d⟩|⟨_,rfl⟩
  .exact D.row f s d g e n K
  .exact z.row p s u g e n K
def iC(C:Array Nat)(i j:Nat):Bool:=(C.getD i 0).testBit j
structure Rec where
 i:Nat
 o:Oper
 E:Env
 x:cL
 v:Value
 y:cL
def iB(C:Array Nat)(i:Nat):List Rec->Env
 |[]=>[]
 |r::l=>bif iC C i r.i then(match r.o.dst with|some d=>(d,r.v)::iB C i l|none=>iB C i l)else iB C i l
def kO:List Rec->Env->Env
 |[],E=>E
 |r::l,E=>match r.o.dst with
  |some d=>(d,r.v)::kO l E
  |none=>kO l E
def lF(x:cL)(M:aX)(c:Nat):cL:={x with m:={x.m with M:=M,c:=c}}
def iX(P:aI)(B:Nat)(A:b9)(C:Array Nat)(I:Env)(H:aX)(c0:Nat):List Nat->List Rec->Option (Nat×aJ)->cL->Option (List Rec×Option (Nat×aJ)×cL)
 |[],acc,al,x=>some (acc,al,x)
 |i::is,acc,al,x=>match A[i]? with
  |none=>none
  |some o=>
   let E:=iB C i acc++I
   match al with
   |some (p,R)=>
    bif iC C i p then
     (match wV P B A E o (lF x (ro (R::H)) (c0+1))with
     |some (v,y)=>bif y.m.c==c0+1 then iX P B A C I H c0 is (⟨i,o,E,lF x (ro (R::H)) (c0+1),v,y⟩::acc) al y else none
     |none=>none)
    else
     (match wV P B A E o (lF x (ro H) c0)with
     |some (v,y)=>bif y.m.c==c0 then iX P B A C I H c0 is (⟨i,o,E,lF x (ro H) c0,v,y⟩::acc) al y else none
     |none=>none)
   |none=>match wV P B A E o (lF x (ro H) c0)with
    |some (v,y)=>bif y.m.c==c0 then iX P B A C I H c0 is (⟨i,o,E,lF x (ro H) c0,v,y⟩::acc) none y
     else bif y.m.c==c0+1 then(match nth y.m.M 0 with
      |some R=>bif R.wr then iX P B A C I H c0 is (⟨i,o,E,lF x (ro H) c0,v,y⟩::acc) (some (i,R)) y else none
      |none=>none)else none
    |none=>none
def cv(E:Env)(ds:aP):Env:=E.filter λp=>!ds.contains p.1
def dstsOf(A:b9)(q:Nat):List Nat:=(List.range q).filterMap λi=>(A[i]?).bind (·.dst)
def jE(A:b9)(q:Nat):Bool:=(List.range q).all λi=>(List.range q).all λj=>i==j||(match (A[i]?).bind (·.dst),(A[j]?).bind (·.dst)with
 |some d,some e=>!(d==e)
 |_,_=>true)
def pI(A:b9)(C:Array Nat)(q:Nat):Bool:=
 Nat.ble q A.size&&jE A q&&
 (List.range A.size).all λi=>match A[i]? with
   |some o=>o.after.all (λe=>!Region.binds .any e||Nat.blt e.on i)&&
    ((List.range A.size).all λj=>!iC C i j||(Nat.blt j i&&o.after.any λe=>Region.binds .any e&&(e.on==j||iC C e.on j)))&&
    (Nat.blt i q||(List.range i).all λj=>iC C i j)
   |none=>false
def bM:Nat->Nat->List Nat
 |_,0=>[]
 |q,n+1=>q::bM (q+1) n
def yS(P:aI)(B:Nat)(f:XF)(l:List XF)(x:cL)(A:b9)(q:Nat)(k:eF):Option cL:=
 let C:=Region.before A
 bif pI A C q&&(dstsOf A q).all (λd=>Nat.blt d f.N)then
  match iX P B A C (cv f.E (dstsOf A q)) x.m.M x.m.c (List.range q) [] none x with
  |some (fK,al,y)=>some {y with
   fs:=⟨f.f,f.N,.inRegion A (bM q (A.size-q))::k,kO fK (cv f.E (dstsOf A q))⟩::l,
   m:={y.m with M:=(match al with|some (_,R)=>R::x.m.M|none=>x.m.M),c:=(match al with|some _=>x.m.c+1|none=>x.m.c)}}
  |none=>none
 else none
structure Spec(P:aI)(B:Nat)(A:b9)(C:Array Nat)(I:Env)(H:aX)(c0:Nat)(fK:List Rec)(al:Option (Nat×aJ))(xf:cL)(r:Rec):Prop where
 op:A[r.i]? =some r.o
 run:wV P B A r.E r.o r.x=some (r.v,r.y)
 sub:Sub r.y xf
 env:∀d v,look r.E d=some v->(∃s∈fK,iC C r.i s.i=true/\s.o.dst=some d/\s.v=v)\/look I d=some v
 mem:(r.y.m.c=r.x.m.c/\(∀p R,al=some (p,R)->r.i≠p)/\((r.x.m.M=ro H/\r.x.m.c=c0)\/∃p R,al=some (p,R)/\iC C r.i p=true/\r.x.m.M=ro (R::H)/\r.x.m.c=c0+1))\/
  (r.x.m.M=ro H/\r.x.m.c=c0/\r.y.m.c=c0+1/\∃R,al=some (r.i,R)/\nth r.y.m.M 0=some R/\R.wr=true)
theorem lS:∀(E c:Env)(d:Nat)(v:ay),look (E++c) d=some v->look E d=some v\/look c d=some v
 |[],c,d,v,h=>.inr h
 |(k,u)::E,c,d,v,h=>by
  simp only[xC,look]at h ⊢;cases hk:(k==d)with
  |true=>rw[hk]at h;exact .inl h
  |false=>rw[hk]at h;exact lS E c d v h
theorem jO(C:Array Nat)(i:Nat):∀(l:List Rec)(d:Nat)(v:ay),look (iB C i l) d=some v->∃s∈l,iC C i s.i=true/\s.o.dst=some d/\s.v=v
 |[],d,v,h=>by cases h
 |r::l,d,v,h=>by
  have j:=jO C i l d v;simp only[iB]at h;cases p:iC C i r.i with
  |false=>rw[p]at h;obtain⟨s,f,c⟩:=j h;exact⟨s,aO _ f,c⟩
  |true=>
   rw[p]at h;simp only[cond_true]at h;cases m:r.o.dst with
   |none=>rw[m]at h;obtain⟨s,f,c⟩:=j h;exact⟨s,aO _ f,c⟩
   |some e=>
    rw[m]at h;simp only[look]at h;cases g:(e==d)with
    |false=>rw[g]at h;obtain⟨s,f,c⟩:=j h;exact⟨s,aO _ f,c⟩
    |true=>rw[g]at h;simp at h g;subst g;subst h;exact⟨r,bS ..,p,m,rfl⟩
theorem l9(x:cL)(M:aX)(c:Nat):Sub x (lF x M c):=⟨λ_ h=>h,λ_ h=>h,λ_ h=>h,λ_ h=>h⟩
theorem iW:∀(is:aP)(acc:List Rec)(al:Option (Nat×aJ))(x:cL)(c:List Rec)(f:Option (Nat×aJ))(J:cL),iX P B A C I H c0 is acc al x=some (c,f,J)->
 is.Nodup->(∀r∈acc,r.i∉is)->(∀p R,al=some (p,R)->p∉is)->(∀r∈acc,∀s∈acc,r.i=s.i->r=s)->
 (∀r∈c,∀s∈c,r.i=s.i->r=s)/\(∀r∈acc,r∈c)/\Sub x J/\(∀p R,al=some (p,R)->f=some (p,R))/\(∀p R,f=some (p,R)->al=some (p,R)\/p∈is)/\(∀i∈is,∃r∈c,r.i=i)/\(∀r∈c,r∈acc\/(r.i∈is/\Spec P B A C I H c0 c f J r))
 |[],acc,al,x,c,f,J,h,_,_,_,Z=>by
  simp[iX]at h;obtain⟨rfl,rfl,rfl⟩:=h;exact⟨Z,λ_ h=>h,Sub.refl _,λ_ _ h=>h,λ_ _ h=>.inl h,λi hi=>by simp at hi,λr u=>.inl u⟩
 |i::is,acc,al,x,c,f,J,h,W,G,X,Z=>by
  have F:i∉is:=(List.nodup_cons.1 W).1;have V:=(List.nodup_cons.1 W).2;simp only[iX]at h
  split at h
  .cases h
  .rename_i o ho
   have step:∀(g:Rec)(m:Option (Nat×aJ)),g.i=i->g.o=o->g.E=iB C i acc++I->wV P B A g.E g.o g.x=some (g.v,g.y)->Sub x g.x->iX P B A C I H c0 is (g::acc) m g.y=some (c,f,J)->
    (∀p R,al=some (p,R)->m=some (p,R))->(∀p R,m=some (p,R)->al=some (p,R)\/p=i)->
    (∀(S:∀p R,m=some (p,R)->f=some (p,R))(L:∀p R,f=some (p,R)->m=some (p,R)\/p∈is),(g.y.m.c=g.x.m.c/\(∀p R,f=some (p,R)->g.i≠p)/\((g.x.m.M=ro H/\g.x.m.c=c0)\/∃p R,f=some (p,R)/\iC C g.i p=true/\g.x.m.M=ro (R::H)/\g.x.m.c=c0+1))\/
      (g.x.m.M=ro H/\g.x.m.c=c0/\g.y.m.c=c0+1/\∃R,f=some (g.i,R)/\nth g.y.m.M 0=some R/\R.wr=true))->
    (∀r∈c,∀s∈c,r.i=s.i->r=s)/\(∀r∈acc,r∈c)/\Sub x J/\(∀p R,al=some (p,R)->f=some (p,R))/\(∀p R,f=some (p,R)->al=some (p,R)\/p∈i::is)/\(∀j∈i::is,∃r∈c,r.i=j)/\(∀r∈c,r∈acc\/(r.i∈i::is/\Spec P B A C I H c0 c f J r)):=by
    intro g m e1 e2 e3 e4 e5 e6 e7 e8 e9
    obtain⟨g0,g1,g2,g3,g4,g5,g6⟩:=iW is (g::acc) m g.y c f J e6 V (λr u=>by
     rcases ak.1 u with rfl|u
     .rw[e1];exact F
     .exact λz=>G r u (aO _ z)) (λp R U=>by
     rcases e8 p R U with z|z
     .exact λy=>X p R z (aO _ y)
     .rw[z];exact F) (λr u s hs e=>by
     rcases ak.1 u with Y|Y
     .rcases ak.1 hs with O|O
      .rw[Y,O]
      .exact absurd (by rw[<-e,Y,e1];exact bS ..) (G s O)
     .rcases ak.1 hs with O|O
      .exact absurd (by rw[e,O,e1];exact bS ..) (G r Y)
      .exact Z r Y s O e)
    have WU:Spec P B A C I H c0 c f J g:=by
     refine⟨by rw[e1,e2];exact ho,e4,g2,λd v hl=>?_,e9 g3 g4⟩;rw[e3]at hl;rcases lS _ _ _ _ hl with z|z
     .obtain⟨s,s1,s2,s3,s4⟩:=jO C i acc d v z
      exact .inl ⟨s,g1 s (aO _ s1),by rw[e1];exact s2,s3,s4⟩
     .exact .inr z
    refine⟨g0,λr u=>g1 r (aO _ u),(e5.trans (Jm e4)).trans g2,λp R U=>g3 p R (e7 p R U),λp R U=>?_,λj hj=>?_,λr u=>?_⟩
    .rcases g4 p R U with z|z
     .rcases e8 p R z with y|y
      .exact .inl y
      .exact .inr (by rw[y];exact bS ..)
     .exact .inr (aO _ z)
    .rcases ak.1 hj with rfl|hj
     .exact⟨g,g1 g (bS ..),e1⟩
     .exact g5 j hj
    .rcases g6 r u with z|⟨z1,z2⟩
     .rcases ak.1 z with rfl|z
      .exact .inr ⟨by rw[e1];exact bS ..,WU⟩
      .exact .inl z
     .exact .inr ⟨aO _ z1,z2⟩
   split at h
   .rename_i p R
    have T:i≠p:=λz=>X p R rfl (by rw[z];exact bS ..)
    cases hb:iC C i p with
    |true=>
     rw[hb]at h;simp only[cond_true]at h
     split at h
     .rename_i v y Q
      obtain⟨hc,h⟩:=aD h;refine step ⟨i,o,_,_,v,y⟩ (some (p,R)) rfl rfl rfl Q (l9 _ _ _) h (λ_ _ h=>h) (λ_ _ h=>.inl h) λS L=>?_
      refine .inl ⟨by simpa [lF]using hc,λK R' D=>?_,.inr ⟨p,R,S p R rfl,hb,rfl,rfl⟩⟩;rcases L K R' D with z|z
      .cases z;exact T
      .exact fun(e:i=K)=>F (by rw[e];exact z)
     .cases h
    |false=>
     rw[hb]at h;simp only[cond_false]at h
     split at h
     .rename_i v y Q
      obtain⟨hc,h⟩:=aD h;refine step ⟨i,o,_,_,v,y⟩ (some (p,R)) rfl rfl rfl Q (l9 _ _ _) h (λ_ _ h=>h) (λ_ _ h=>.inl h) λS L=>?_
      refine .inl ⟨by simpa [lF]using hc,λK R' D=>?_,.inl ⟨rfl,rfl⟩⟩;rcases L K R' D with z|z
      .cases z;exact T
      .exact fun(e:i=K)=>F (by rw[e];exact z)
     .cases h
   .split at h
    .rename_i v y Q
     cases hc:(y.m.c==c0)with
     |true=>
      rw[hc]at h;simp only[cond_true]at h;refine step ⟨i,o,_,_,v,y⟩ none rfl rfl rfl Q (l9 _ _ _) h (λ_ _ h=>h) (λ_ _ h=>.inl h) λS L=>?_
      refine .inl ⟨by simpa [lF]using hc,λK R' D=>?_,.inl ⟨rfl,rfl⟩⟩;rcases L K R' D with z|z
      .cases z
      .exact fun(e:i=K)=>F (by rw[e];exact z)
     |false=>
      rw[hc]at h;simp only[cond_false]at h;obtain⟨Ew,h⟩:=aD h
      split at h
      .rename_i R hR
       obtain⟨hw,h⟩:=aD h;refine step ⟨i,o,_,_,v,y⟩ (some (i,R)) rfl rfl rfl Q (l9 _ _ _) h (λ_ _ h=>by cases h) (λK R' h=>by cases h;exact .inr rfl) λS L=>?_
       exact .inr ⟨rfl,rfl,by simpa using Ew,R,S i R rfl,hR,hw⟩
      .cases h
    .cases h
structure qD(A:b9)(C:Array Nat)(q:Nat):Prop where
 le:q<=A.size
 low:∀(i:Nat)(o:Oper),A[i]? =some o->∀e∈o.after,Region.binds .any e=true->e.on<i
 Mt:∀(i:Nat)(o:Oper)(j:Nat),A[i]? =some o->j<A.size->iC C i j=true->j<i/\∃e∈o.after,Region.binds .any e=true/\(e.on=j\/iC C e.on j=true)
 chain:∀i,q<=i->i<A.size->∀j,j<i->iC C i j=true
theorem pH(h:pI A C q=true):qD A C q/\jE A q=true:=by
 unfold pI at h;simp only[cq,eP,bp]at h;obtain⟨⟨F,D⟩,y⟩:=h
 have key:∀(i:Nat)(o:Oper),A[i]? =some o->(o.after.all (λe=>!Region.binds .any e||Nat.blt e.on i)=true/\(∀j,j<A.size->(!iC C i j||(Nat.blt j i&&o.after.any λe=>Region.binds .any e&&(e.on==j||iC C e.on j)))=true))/\(Nat.blt i q||(List.range i).all λj=>iC C i j)=true:=by
  intro i o ho
  have d:i<A.size:=by
   rcases kR i A.size with z|z
   .exact z
   .rw[MJ z]at ho;cases ho
  have:=y i d;rw[ho]at this
  simpa only[cq,eP,bp]using this
 refine⟨⟨by simpa using F,λi o ho e x f=>?_,λi o j ho hj f=>?_,λi G d j hj=>?_⟩,D⟩
 .have:=zC.1 (key i o ho).1.1 e x
  simpa [f]using this
 .have:=(key i o ho).1.2 j hj
  rw[f]at this;simp only[Bool.not_true,uy,cq,Array.any_eq_true]at this;obtain⟨p,n,u,m,g⟩:=this;exact⟨by simpa using p,_,Array.getElem_mem u,m,by simpa using g⟩
 .have:=(key i _ (hU d)).2
  have c:Nat.blt i q=false:=by
   cases s:Nat.blt i q with
   |false=>rfl
   |true=>have:i<q:=by simpa using s
          omega
  rw[c]at this;simp only[uy,eP,bp]at this;exact this j hj
theorem filter_none(n:Nat):∀m,m<=n->(List.range m).filter (·==n)=[]
 |0,_=>rfl
 |m+1,h=>by
  rw[uz,List.filter_append,filter_none n m (by omega)];have:(m==n)=false:=by simp;omega
  simp[this]
theorem yM(k:Nat):∀n,k<n->(List.range n).filter (·==k)=[k]
 |0,h=>by omega
 |n+1,h=>by
  rw[uz,List.filter_append]
  by_cases e:n=k
  .subst e;rw[filter_none n n (az _)];simp
  .rw[yM k n (by omega)]
   have:(n==k)=false:=by simpa using e
   simp[this]
theorem filter_one{p:rm}{k:Nat}(hk:k<n)(h:∀i,i<n->(p i=true↔i=k)):(List.range n).filter p=[k]:=by
 have f:(List.range n).filter p=(List.range n).filter (·==k):=List.filter_congr λi d=>by
  have:=h i (bp.1 d);cases c:p i with
  |true=>simp[this.1 c]
  |false=>cases e:(i==k)with
   |false=>rfl
   |true=>rw[this.2 (by simpa using e)]at c;cases c
 rw[f];exact yM k n hk
def ready(A:b9)(l:oW)(i:Nat):Bool:=!l.getD i true&&((A[i]?).map (·.after.all λe=>!Region.binds .any e||l.getD e.on false)).getD false
theorem pF(h:i<A.size):ready A l i=true↔l.getD i true=false/\∀e∈A[i].after,Region.binds .any e=true->l.getD e.on false=true:=by
 unfold ready;rw[hU h];simp only[fy,cK,cq,mF,zC,Bf]
 constructor
 .rintro ⟨g,f⟩;exact⟨g,λe c d=>(f e c).elim (λz=>by rw[d]at z;cases z) id⟩
 .rintro ⟨g,f⟩;exact⟨g,λe c=>by
   cases d:Region.binds .any e with
   |false=>exact .inl rfl
   |true=>exact .inr (f e c d)⟩
theorem cE(c:i<l.size)(d e:Bool):l.getD i d=l.getD i e:=by simp[Array.getD,c]
theorem uO(h:qD A C q):∀(n c t fuel:Nat)(l:oW),q<=c->c+n=A.size->n<=fuel->l.size=A.size->(∀j,j<c->l.getD j true=true)->(∀j,c<=j->j<A.size->l.getD j true=false)->
 Region.linearise.go .any A fuel t l []=bM c n
 |0,c,t,fuel,l,W,V,U,O,s,F=>BX .any l (λj hj=>s j (by omega)) fuel t
 |n+1,c,t,fuel,l,W,V,U,O,s,F=>by
  obtain⟨fuel,rfl⟩:∃k,fuel=k+1:=⟨fuel-1,by omega⟩;have f:c<A.size:=by omega
  have J:((List.range A.size).filter (ready A l))=[c]:=filter_one f λi m=>by
   rw[pF m]
   constructor
   .rintro ⟨Q,S⟩
    rcases MC i c with y|y|y
    .rw[s i y]at Q;cases Q
    .exact y
    .exfalso
     obtain⟨_,e,u,D,L⟩:=h.Mt i _ c (hU m) f (h.chain i (by omega) m c y);have g:=h.low i _ (hU m) e u D;have d:=S e u D;rw[cE (by omega) false true]at d
     have T:e.on<c:=by
      rcases kR e.on c with x|x
      .exact x
      .rw[F e.on x (by omega)]at d;cases d
     rcases L with rfl|L
     .omega
     .have:=(h.Mt e.on _ c (hU (by omega)) f L).1;omega
   .rintro rfl
    refine⟨F i (az _) m,λe u D=>?_⟩;have g:=h.low i _ (hU m) e u D;rw[cE (by omega) false true];exact s _ g
  have p:((List.range A.size).filter λi=>!l.getD i true&&((A[i]?).map (·.after.all λe=>!Region.binds .any e||l.getD e.on false)).getD false)=[c]:=J;simp only[Region.linearise.go,p,eG,gM,bD,Nat.mod_one,List.getElem?_cons_zero,Nat.div_one];rw[linearise_go_acc,ML,MI,bM]
  congr 1
  have G:(l.setIfInBounds c true).size=A.size:=by simp[O]
  refine uO h n (c+1) t fuel _ (by omega) (by omega) (by omega) G (λj hj=>?_) (λj hj K=>?_)
  .by_cases e:j=c
   .subst e;simp[Array.getD,O,f]
   .rw[o9,ku (λz=>e z.symm),<-o9];exact s j (by omega)
  .rw[o9,ku (by omega),<-o9];exact F j (by omega) K
theorem gP:∀(E:Env)(ds:aP)(d:Nat)(v:ay),look (cv E ds) d=some v->look E d=some v/\d∉ds
 |[],ds,d,v,h=>by cases h
 |(k,u)::E,ds,d,v,h=>by
  have e:=gP E ds d v;simp only[cv,List.filter_cons]at h e
  split at h
  .rename_i hk
   simp only[look]at h ⊢;cases c:(k==d)with
   |true=>rw[c]at h;simp at c hk;subst c;exact⟨h,hk⟩
   |false=>rw[c]at h;exact e h
  .rename_i hk
   obtain⟨g,f⟩:=e h;refine⟨?_,f⟩;simp only[look];cases c:(k==d)with
   |false=>exact g
   |true=>simp at c hk;subst c;exact absurd hk f
theorem lT:∀(l:List Rec)(E:Env)(d:Nat)(v:ay),look (kO l E) d=some v->(∃s∈l,s.o.dst=some d/\s.v=v)\/look E d=some v
 |[],E,d,v,h=>.inr h
 |r::l,E,d,v,h=>by
  have m:=lT l E d v;simp only[kO]at h;cases f:r.o.dst with
  |none=>rw[f]at h;exact(m h).imp (fun⟨s,j,g⟩=>⟨s,aO _ j,g⟩) id
  |some e=>
   rw[f]at h;simp only[look]at h;cases c:(e==d)with
   |false=>rw[c]at h;exact(m h).imp (fun⟨s,j,g⟩=>⟨s,aO _ j,g⟩) id
   |true=>rw[c]at h;simp at h c;subst c;subst h;exact .inl ⟨r,bS ..,f,rfl⟩
theorem Sat.tail(h:Sat Ok w (R::M)):Sat Ok w M:=
 ⟨λi r c=>h.val (i+1) r c,λi r c=>h.ok (i+1) r c,λi r e r' c d f j j' p m g=>by have:=h.sep (i+1) r (e+1) r' c d f j j' p m g;exact⟨by omega,this.2⟩,λi r c=>h.row (i+1) r c⟩
structure My(Ok:dw)(B:Nat)(A:b9)(C:Array Nat)(q N:Nat)(ds:xh)(I:Env)(H:aX)(c0:Nat)(fK:List Rec)(al:Option (Nat×aJ))(w:aj)(l:oW)(a':Act)(w':aj):Prop where
 size:l.size=A.size
 late:∀j,q<=j->j<A.size->l.getD j true=false
 down:∀i j,l.getD i false=true->i<A.size->j<A.size->iC C i j=true->l.getD j false=true
 sz:a'.tmps.size=N
 EA:a'.defers=ds
 val:∀r∈fK,l.getD r.i false=true->∀d,r.o.dst=some d->a'.tmps[d]? =some r.v
 old:∀d v,look I d=some v->a'.tmps[d]? =some v
 fr:Fr (Wr H) w w'
 mem:(∃p R,al=some (p,R)/\l.getD p false=true/\Sat Ok w' (R::H)/\w'.heap.size=B+c0+1/\∀j,R.has j->B+c0<=(R.ad j).block)\/((∀p R,al=some (p,R)->l.getD p false=false)/\Sat Ok w' H/\w'.heap.size=B+c0)
theorem aZ{j:Nat}(d:Bool)(c:i<l.size):(l.setIfInBounds i true).getD j d=if j=i then true else l.getD j d:=by
 by_cases e:j=i
 .subst e;simp[Array.getD,c]
 .rw[af e,o9,ku (λz=>e z.symm),<-o9]
theorem u5(F:aC P main (DX Ok) Ψ)(hB:∀(a:Addr)(wr:Bool),B<=a.block->Ok a wr)(hk:b.kind≠.early){ds:xh}{c:List Rec}{xf:cL}(hp:qD A C q)(yC:jE A q=true)(hN:∀d∈dstsOf A q,d<N)(yD:∀d v,look I d=some v->d∉dstsOf A q)(hM:oN xf)(hu:∀r∈c,∀s∈c,r.i=s.i->r=s)(T:∀r∈c,r.i<q/\Spec P B A C I H c0 c al xf r)(DL:∀p R,al=some (p,R)->p<q){O:aj}(g:My Ok B A C q N ds I H c0 c al w l a O){r:Rec}(hr:r∈c)(Qj:l.getD r.i true=false)(XP:∀e∈r.o.after,Region.binds .any e=true->l.getD e.on false=true)(rest:aP)(K:∀a' w',My Ok B A C q N ds I H c0 c al w (l.setIfInBounds r.i true) a' w'->Ψ (G (b.at a' (.inRegion A rest::k)) cs) w'):Ψ (G (b.at a (.inRegion A (r.i::rest)::k)) cs) O:=by
 obtain⟨uS,Q⟩:=T r hr;have yB:r.i<A.size:=c7 uS hp.le;have D:r.i<l.size:=by rw[g.size];exact yB
 have Xk:l.getD r.i false=false:=by rw[cE D false true];exact Qj
 have W:∀s∈c,∀d,s.o.dst=some d->d∈dstsOf A q:=λs x d S=>by
  obtain⟨h,u⟩:=T s x;exact vo.2 ⟨s.i,bp.2 h,by rw[u.op];exact S⟩
 have SZ:∀s∈c,∀d,s.o.dst=some d->r.o.dst=some d->s.i=r.i:=λs x d S OH=>by
  obtain⟨h,u⟩:=T s x;have:=eP.1 (eP.1 yC s.i (bp.2 h)) r.i (bp.2 uS);rw[u.op,Q.op]at this;simp only[fA,S,OH]at this
  simpa using this
 have f:∀j,j<A.size->iC C r.i j=true->l.getD j false=true:=λj hj hb=>by
  obtain⟨_,e,he,h,u⟩:=hp.Mt r.i r.o j Q.op hj hb;have S:=XP e he h;rcases u with rfl|u
  .exact S
  .have SL:=hp.low r.i r.o Q.op e he h
   exact g.down e.on j S (by omega) hj u
 have hA:aN r.E N a:=⟨g.sz,λd v hl=>by
  rcases Q.env d v hl with ⟨s,s1,s2,s3,s4⟩|z
  .rw[<-s4];exact g.val s s1 (f s.i (c7 (T s s1).1 hp.le) s2) d s3
  .exact g.old d v z⟩
 have V:oN r.y:=Q.sub.met hM
 have core:∀J,Fr (λ_=>False) O J->((∃p R,al=some (p,R)/\(l.setIfInBounds r.i true).getD p false=true/\Sat Ok J (R::H)/\J.heap.size=B+c0+1/\∀j,R.has j->B+c0<=(R.ad j).block)\/((∀p R,al=some (p,R)->(l.setIfInBounds r.i true).getD p false=false)/\Sat Ok J H/\J.heap.size=B+c0))->
  My Ok B A C q N ds I H c0 c al w (l.setIfInBounds r.i true) (a.put r.o.dst r.v) J:=by
  intro J Z JS;refine⟨by simp[g.size],λj hj tj=>?_,λi j h u h3 h4=>?_,?_,by rw[put_defers];exact g.EA,λs x S d U=>?_,λd v hl=>?_,g.fr.trans Z (λ_ z=>z.elim),JS⟩
  .rw[aZ _ D,af (by omega)];exact g.late j hj tj
  .rw[aZ _ D]at h ⊢
   by_cases e:j=r.i
   .rw[ah e]
   .rw[af e]
    by_cases e':i=r.i
    .subst e';exact f j h3 h4
    .rw[af e']at h;exact g.down i j h u h3 h4
  .cases S:r.o.dst with
   |none=>simp[Act.put];exact g.sz
   |some d=>simp[Act.put];exact g.sz
  .by_cases e:s.i=r.i
   .have:=hu s x r hr e;subst this
    rw[U];simp only[Act.put];rw[MS,ah (by rw[g.sz];exact hN d (W _ hr d U))]
   .rw[aZ _ D,af e]at S
    have h0:=g.val s x S d U;cases Y:r.o.dst with
    |none=>exact h0
    |some d'=>
     have L:d'≠d:=λz=>e (SZ s x d U (by rw[Y,z]))
     simp only[Act.put];rw[ku L];exact h0
  .have h0:=g.old d v hl
   cases Y:r.o.dst with
   |none=>exact h0
   |some d'=>
    have L:d'≠d:=λz=>yD d v hl (by rw[<-z];exact W _ hr d' Y)
    simp only[Act.put];rw[ku L];exact h0
 rcases Q.mem with ⟨hc,L,m⟩|⟨m,hc0,Ew,R,qW,hR,hRw⟩
 .have hle:B+r.x.m.c<=O.heap.size:=by
   rcases m with ⟨_,z⟩|⟨p,R,h,u,_,z⟩
   .rw[z];rcases g.mem with ⟨_,_,_,_,_,y,_⟩|⟨_,_,y⟩<;>omega
   .rw[z]
    have JN:l.getD p false=true:=f p (c7 (DL p R h) hp.le) u;rcases g.mem with ⟨_,_,_,_,_,y,_⟩|⟨y,_⟩
    .omega
    .rw[y p R h]at JN;cases JN
  have WT:Sat Ok O r.x.m.M:=by
   rcases m with ⟨z,_⟩|⟨p,R,h,u,z,zc⟩
   .rw[z];rcases g.mem with ⟨_,_,_,_,y,_⟩|⟨_,y,_⟩
    .exact y.tail.ro
    .exact y.ro
   .rw[z];rcases g.mem with ⟨p',R',e1,_,y,_⟩|⟨y,_,y2⟩
    .rw[h]at e1;cases e1;exact y.ro
    .omega
  refine vS (B:=O.heap.size-r.x.m.c) F (λad wr z=>hB ad wr (by omega)) hk Q.op (F3 Q.run hc _) V hA ⟨WT,by omega⟩ λJ h u h3=>K _ _ (core J (u.Dg λad z=>?_) ?_)
  .rcases m with ⟨e,_⟩|⟨p,R,_,_,e,_⟩<;>(rw[e]at z;exact ve z)
  .have Z:Fr (λ_=>False) O J:=u.Dg λad z=>by rcases m with ⟨e,_⟩|⟨p,R,_,_,e,_⟩<;>(rw[e]at z;exact ve z)
   have kI:J.heap.size=O.heap.size:=by have:=h.sz;omega
   rcases g.mem with ⟨p,R,e1,e2,e3,e4,e5⟩|⟨e1,e2,e3⟩
   .exact .inl ⟨p,R,e1,by rw[aZ _ D];split;rfl;exact e2,e3.keep Z,kI.trans e4,e5⟩
   .exact .inr ⟨λp R z=>by rw[aZ _ D,af (λy=>L p R z y.symm)];exact e1 p R z,e2.keep Z,kI.trans e3⟩
 .rcases g.mem with ⟨p,R',e1,e2,_⟩|⟨e1,e2,e3⟩
  .rw[qW]at e1;cases e1;rw[Xk]at e2;cases e2
  .refine vS F hB hk Q.op Q.run V hA ⟨by rw[m];exact e2.ro,by rw[hc0];exact e3⟩ λJ h u h3=>?_
   have Z:Fr (λ_=>False) O J:=u.Dg λad z=>by rw[m]at z;exact ve z
   have X:∀j,R.has j->O.heap.size<=(R.ad j).block:=λj hj=>by
    rcases h3 (R.ad j) ⟨_,R,j,hR,hRw,hj,rfl⟩with z|z
    .rw[m]at z;exact(ve z).elim
    .exact z
   exact K _ _ (core J Z (.inl ⟨r.i,R,qW,by rw[aZ _ D,ah rfl],e2.grow Z h.sat hR hRw X,by rw[h.sz,Ew];omega,λj hj=>by rw[<-e3];exact X j hj⟩))
theorem count_le:∀(l:fL)(q:Nat),(∀j,q<=j->l.getD j true=false\/l.length<=j)->(l.filter id).length<=q
 |[],q,_=>by simp
 |x::l,0,h=>by
  have c:x=false:=by
   rcases h 0 (az _)with z|z
   .simpa using z
   .simp at z
  have:=count_le l 0 (λj hj=>by
   rcases h (j+1) (by omega)with z|z
   .exact .inl (by simpa using z)
   .exact .inr (by simp at z;omega))
  subst c;simpa using this
 |x::l,q+1,h=>by
  have:=count_le l q (λj hj=>by
   rcases h (j+1) (by omega)with z|z
   .exact .inl (by simpa using z)
   .exact .inr (by simp at z;omega))
  cases x<;>simp<;>omega
theorem oE(d:l.size=n)(hc:(l.toList.filter id).length=n)(i:Nat)(f:i<n):l.getD i true=true:=by
 have:=VJ.1 (show(l.toList.filter id).length=l.toList.length by rw[hc,xp,d]);have c:i<l.size:=by omega
 have e:=this l[i] (by simp);simp only[Array.getD,c,mM]
 simpa using e
theorem mw(g:qD A C q)(d:l.size=A.size)(c:∀j,q<=j->j<A.size->l.getD j true=false)(e:∀i,i<q->l.getD i false=true){t:Nat}(hc:∃m,m+fuel=A.size/\(l.toList.filter id).length=m):
 Region.linearise.go .any A fuel t l []=bM q (A.size-q):=by
 obtain⟨m,p,hc⟩:=hc;have f:=g.le
 have h:m<=q:=by
  rw[<-hc];refine count_le _ q λj hj=>?_
  rcases kR j A.size with z|z
  .left
   have:=c j hj z;rw[o9]at this;rw[o8];simpa using this
  .right;simp[d];exact z
 exact uO g (A.size-q) q t fuel l (az _) (by omega) (by omega) d (λj hj=>by rw[cE (by rw[d];omega) true false];exact e j hj) c
theorem jV(u:qD A C q)(L:l.size=A.size)(s:∀i j,l.getD i false=true->i<A.size->j<A.size->iC C i j=true->l.getD j false=true)(p:¬∀i,i<q->l.getD i false=true){t:Nat}:
 ∃i,i<q/\∃d:i<A.size,l.getD i true=false/\(∀e∈A[i].after,Region.binds .any e=true->l.getD e.on false=true)/\∃U,Region.linearise.go .any A (fuel+1) t l []=i::Region.linearise.go .any A fuel U (l.setIfInBounds i true) []:=by
 simp only[Region.linearise.go];generalize O:((List.range A.size).filter λi=>!l.getD i true&&((A[i]?).map (·.after.all λe=>!Region.binds .any e||l.getD e.on false)).getD false)=rs;have f:(List.range A.size).filter (ready A l)=rs:=O;cases S:rs[t % rs.length]? with
 |none=>
  exfalso
  have D:rs=[]:=by
   cases rs with
   |nil=>rfl
   |cons x xs=>
    have d:t % (x::xs).length<(x::xs).length:=Nat.mod_lt _ (by simp);rw[oY d]at S;cases S
  rw[D]at f
  apply p
  intro i;have y:=u.le
  induction i using Nat.strongRecOn with
  |_ i K=>
   intro F;have h:i<A.size:=by omega
   have Q:i<l.size:=by rw[L];exact h
   cases V:l.getD i false with
   |true=>rfl
   |false=>
    exfalso
    have:ready A l i=true:=(pF h).2 ⟨by rw[cE Q true false];exact V,λe G J=>by
     have m:=u.low i _ (hU h) e G J;exact K e.on m (by omega)⟩
    have c:i∈(List.range A.size).filter (ready A l):=mO.2 ⟨bp.2 h,this⟩;rw[f]at c;cases c
 |some i=>
  have c:i∈rs:=tH S;rw[<-f]at c;obtain⟨W,X⟩:=mO.1 c;have d:i<A.size:=bp.1 W;obtain⟨f1,f2⟩:=(pF d).1 X;have y:=u.le
  have F:i<q:=by
   rcases kR i q with z|z
   .exact z
   .exfalso;apply p
    intro j hj;obtain⟨_,e,G,J,T⟩:=u.Mt i _ j (hU d) (by omega) (u.chain i z d j (by omega));have g:=f2 e G J;rcases T with rfl|T
    .exact g
    .have m:=u.low i _ (hU d) e G J
     exact s e.on j g (by omega) (by omega) T
  refine⟨i,F,d,f1,f2,?_⟩
  simp only
  rw[linearise_go_acc,ML,MI];exact⟨_,rfl⟩
theorem D9(F:aC P main (DX Ok) Ψ)(hB:∀(a:Addr)(wr:Bool),B<=a.block->Ok a wr)(hk:b.kind≠.early){ds:xh}{c:List Rec}{X:cL}(x:qD A C q)(U:jE A q=true)(hN:∀d∈dstsOf A q,d<N)(W:∀d v,look I d=some v->d∉dstsOf A q)(hM:oN X)(Z:∀r∈c,∀s∈c,r.i=s.i->r=s)(j:∀r∈c,r.i<q/\Spec P B A C I H c0 c al X r)(J:∀p R,al=some (p,R)->p<q)(D:∀i,i<q->∃r∈c,r.i=i)(K:∀l a' w',My Ok B A C q N ds I H c0 c al w l a' w'->(∀i,i<q->l.getD i false=true)->Ψ (G (b.at a' (.inRegion A (bM q (A.size-q))::k)) cs) w'):
 ∀(fuel t:Nat)(l:oW)(a:Act)(h:aj),My Ok B A C q N ds I H c0 c al w l a h->(∃m,m+fuel=A.size/\(l.toList.filter id).length=m)->Ψ (G (b.at a (.inRegion A (Region.linearise.go .any A fuel t l [])::k)) cs) h:=by
 intro fuel
 induction fuel with
 |zero=>
  intro t l a h g ⟨m,Q,hc⟩;have f:∀i,i<q->l.getD i false=true:=λi hi=>by have:=x.le;rw[cE (by rw[g.size];omega) false true];exact oE g.size (by omega) i (by omega)
  rw[mw x g.size g.late f ⟨m,Q,hc⟩];exact K l a h g f
 |succ fuel Y=>
  intro t l a h g ⟨m,Q,hc⟩
  by_cases f:∀i,i<q->l.getD i false=true
  .rw[mw x g.size g.late f ⟨m,Q,hc⟩]
   exact K l a h g f
  .obtain⟨i,S,y,f1,f2,t',T⟩:=jV x g.size g.down f (fuel:=fuel) (t:=t)
   rw[T];have z:i<l.size:=by rw[g.size];exact y
   obtain⟨r,u,rfl⟩:=D i S;have O:=(j r u).2.op;have L:A[r.i]=r.o:=Option.some.inj ((hU y).symm.trans O);refine u5 F hB hk x U hN W hM Z j J g u f1 (λe he hb=>f2 e (by rw[L];exact he) hb) _ λa' w' V=>?_
   refine Y _ _ _ _ V ⟨m+1,by omega,?_⟩;have h0:l[r.i]=false:=by have:=f1;simpa [Array.getD,z]using this
   rw[zE];exact hc▸ck l.toList r.i z h0
theorem HE(F:aC P main (DX Ok) Ψ)(X:P.follows .mixedOrders=true)(hB:∀(a:Addr)(wr:Bool),B<=a.block->Ok a wr)(hk:b0.kind≠.early){f:XF}{l:List XF}{x x':cL}{id:Nat}(h:yS P B f l x A q k=some x')(V:oN x')(hA:aN f.E f.N a)(hR:KU b0 oH cs0 l f.f b a.defers cs)(hI:Inv Ok B w x.m)(K:wN Ok B Ψ b0 oH cs0 x.m w x'):Ψ (G (b.at a (.code (.region id A true)::k)) cs) w:=by
 unfold yS at h
 simp only at h
 obtain⟨hc,h⟩:=aD h;simp only[cq,eP]at hc;obtain⟨W,hN⟩:=hc;obtain⟨hp,Y⟩:=pH W
 split at h
 .rename_i m al y O
  cases h
  obtain⟨hu,_,N9,_,Z,T,L⟩:=iW (List.range q) [] none x m al y O uB (by simp) (by simp) (by simp);have hM:oN y:=⟨V.eqs,V.cT,V.dm,V.eU⟩
  have S:∀r∈m,r.i<q/\Spec P B A (Region.before A) (cv f.E (dstsOf A q)) x.m.M x.m.c m al y r:=λr hr=>by
   rcases L r hr with z|⟨z1,z2⟩
   .cases z
   .exact⟨bp.1 z1,z2⟩
  have u:∀p R,al=some (p,R)->p<q:=λp R z=>by
   rcases Z p R z with y|y
   .cases y
   .exact bp.1 y
  have OR:My Ok B A (Region.before A) q f.N a.defers (cv f.E (dstsOf A q)) x.m.M x.m.c m al w (Array.replicate A.size false) a w:=by
   refine⟨by simp,λj _ hj=>by simp[Array.getD,hj],λi j Q h2 _ _=>?_,hA.sz,rfl,λr _ Q=>?_,λd v hl=>hA.val d v (gP _ _ _ _ hl).1,Fr.refl _ _,.inr ⟨λp R _=>?_,hI.sat,hI.sz⟩⟩
   .simp[Array.getD,h2]at Q
   .exfalso;simp only[Array.getD]at Q;split at Q<;>simp at Q
   .simp only[Array.getD];split<;>simp
  refine F.step _ _ rfl λd=>⟨_,_,_,stepG_region_draw,F.idle _ _,?_,λz v _ _=>stepG_region_draw⟩
  show Ψ _ (w.at (d+1))
  refine F.at' _ _ _ ?_;simp only[Region.schedule,X,uv,if_true,Region.linearise];refine D9 F hB (hR.late hk) hp Y (λe he=>by simpa using hN e he) (λe v hl=>(gP _ _ _ _ hl).2) hM hu S u (λi hi=>T i (bp.2 hi)) ?_ _ _ _ _ _ OR ⟨0,by simp,by simp⟩;intro l' a' w' g D;refine K _ _ ⟨b,a',cs,rfl,⟨g.sz,λe v hl=>?_⟩,by rw[g.EA];exact hR⟩ ?_ g.fr ?_
  .rcases lT _ _ _ _ hl with ⟨s,s1,s2,s3⟩|z
   .rw[<-s3];exact g.val s s1 (D s.i (S s s1).1) e s2
   .exact g.old e v z
  .rcases g.mem with ⟨p,R,e1,e2,U,e4,e5⟩|⟨e1,e2,U⟩
   .rw[e1];exact⟨U,by rw[e4];simp only;omega⟩
   .cases c:al with
    |none=>exact⟨e2,U⟩
    |some pr=>
     obtain⟨p,R⟩:=pr;have:=e1 p R c;rw[D p (u p R c)]at this;cases this
  .intro ad J
   rcases g.mem with ⟨p,R,e1,e2,U,e4,e5⟩|⟨e1,e2,U⟩
   .rw[e1]at J
    obtain⟨i,r,j,Q,h2,h3,h4⟩:=J;rcases cB Q with ⟨k0,_,h0⟩|⟨_,rfl⟩
    .exact .inl ⟨k0,r,j,h0,h2,h3,h4⟩
    .right;subst h4
     rw[hI.sz];exact e5 j h3
   .cases c:al with
    |none=>rw[c]at J;exact .inl J
    |some pr=>
     obtain⟨p,R⟩:=pr;have:=e1 p R c;rw[D p (u p R c)]at this;cases this
 .cases h
end Go.Proofs.YtobagnjnbmgidaaGreatDoor
