import Derived.Test.YtobagnjnbmgidaaGreatDoorE2
set_option linter.all false
set_option maxHeartbeats 0
set_option maxRecDepth 100000
namespace Go.Proofs.YtobagnjnbmgidaaGreatDoor
open Go.Conc Go.RowKit Tryz
variable{a':Act}{bytes c0 cap d e g i len n nb q q0 t:Nat}{o ox:Oper}{al:Option (Nat×aJ)}{r:aJ}{α:Type}{Ex:Value->Env}{vx:Value->Value}{x x' y:cL}{A C M' Z:aX}{v:ay}{vs:fH}{Post:qG}{bs:fL}{l:oW}{sa:eN}{args:fW}{news:iG}{k todo':eF}
variable{P:aI}{main:Bool}{B J f I N c:Nat}{b0 b cf:aE}{oH ds:xh}{cs0 cs:cW}{a:Act}{kk:eF}{w:aj}{γ:Type}{H:fL}{D:aP}{E:Env}{M:aX}{Bd:γ->Nat}
def yP(P:aI)(B:Nat)(x:cL)(qs:aP):Option (cL×List Nat):=match mW P B x with
 |some y=>some (y,qs)
 |none=>match x.fs with
  |f::l=>match f.todo with
   |.code (.region _ ops true)::k=>match qs with
    |q::qs=>(yS P B f l x ops q k).map λy=>(y,qs)
    |[]=>none
   |_=>none
  |[]=>none
def bH(P:aI)(B:Nat):Nat->cL->List Nat->Option (cL×List Nat)
 |0,x,qs=>some (x,qs)
 |n+1,x,qs=>match yP P B x qs with
  |some (y,qs)=>bH P B n y qs
  |none=>none
def Jk:Nat->List Bool->List Nat->List Item->List Item
 |0,_,_,t=>t
 |n+1,bs,qs,t=>match Ko t with
  |some t'=>Jk n bs qs t'
  |none=>match t with
   |.code (.cond _ y z)::k=>match bs with
    |b::bs=>Jk n bs qs (.code (bif b then y else z)::k)
    |[]=>[]
   |.inRegion ops (_::r)::k=>Jk n bs qs (.inRegion ops r::k)
   |.code (.region _ ops true)::k=>match qs with
    |q::qs=>Jk n bs qs (.inRegion ops (bM q (ops.size-q))::k)
    |[]=>[]
   |_=>[]
def sS(P:aI)(f:Nat):List Item:=[.code (((P.funcs[f]?).bind (·.body)).getD .skip)]
def O8:Nat->List aJ->List aJ
 |0,M=>M
 |_+1,[]=>[]
 |n+1,r::M=>{r with row:=none}::O8 n M
theorem kM:∀(n:Nat)(M:aX)(i:Nat)(r:aJ),nth (O8 n M) i=some r->∃s,nth M i=some s/\(r=s\/r={s with row:=none})
 |0,M,i,r,h=>⟨r,h,.inl rfl⟩
 |_+1,[],i,r,h=>by cases h
 |n+1,x::M,0,r,h=>by cases h;exact⟨x,rfl,.inr rfl⟩
 |n+1,x::M,i+1,r,h=>kM n M i r h
theorem Sat.fg{Ok:dw}(h:Sat Ok w M)(n:Nat):Sat Ok w (O8 n M):=by
 refine⟨λi r p j hj=>?_,λi r p j hj=>?_,λi r K r' p F O j j' hj G Q=>?_,λi r p g e m L=>?_⟩
 .obtain⟨s,u,z⟩:=kM n M i r p;rcases z with rfl|rfl<;>exact h.val i _ u j hj
 .obtain⟨s,u,z⟩:=kM n M i r p;rcases z with rfl|rfl<;>exact h.ok i _ u j hj
 .obtain⟨s,u,z⟩:=kM n M i r p;obtain⟨S,R,z'⟩:=kM n M K r' F;rcases z with rfl|rfl<;>rcases z' with rfl|rfl<;>exact h.sep i _ K _ u R O j j' hj G Q
 .obtain⟨s,u,rfl|rfl⟩:=kM n M i r p
  .exact h.row i r u g e m L
  .cases L
theorem Wr.fg{a:Addr}(h:Wr (O8 n M) a):Wr M a:=by
 obtain⟨k,s,j,F,z,u,p⟩:=h;obtain⟨r,m,rfl|rfl⟩:=kM n M k s F
 .exact⟨k,s,j,m,z,u,p⟩
 .exact⟨k,r,j,m,z,u,p⟩
def fin(c0:Nat)(live:aP)(r:Option (cL×List Nat)):Option (Nat×List Item×List (Option Value)×List aJ×Nat×List (Bool×Bool)×List (Int×Nat)×List (Nat×Nat)):=match r with
 |some (x,_)=>match x.fs with
  |[f]=>some (f.N,f.todo,live.map (look f.E),O8 (x.m.c-c0) x.m.M,x.m.c,x.dm,x.eU,x.m.cT)
  |_=>none
 |none=>none
def Ki(r:Option (cL×List Nat)):List Addr:=match r with
 |some (x,_)=>x.m.eqs.map Prod.fst
 |none=>[]
def Kg(r:Option (cL×List Nat)):List Addr:=match r with
 |some (x,_)=>x.m.eqs.map Prod.snd
 |none=>[]
section
variable{Ok:dw}{Ψ:gi}
theorem Ea{f:XF}{l:List XF}{s:b9}(h:yS P B f l x s q k=some x'):Sub x x':=by
 unfold yS at h
 simp only at h
 obtain⟨_,h⟩:=aD h
 split at h
 .rename_i p al y m
  cases h
  obtain⟨_,_,j,_⟩:=iW (List.range q) [] none x p al y m uB (by simp) (by simp) (by simp);exact⟨j.eqs,j.cT,j.dm,j.eU⟩
 .cases h
theorem Hu(F:aC P main (DX Ok) Ψ)(p:P.follows .mixedOrders=true)(hB:∀(a:Addr)(wr:Bool),B<=a.block->Ok a wr)(hk:b0.kind≠.early){L j:aP}(h:yP P B x L=some (x',j))(z:oN x'){g:aW}(s:Ux b0 oH cs0 x.fs g)(G:Inv Ok B w x.m)(K:wN Ok B Ψ b0 oH cs0 x.m w x'):Ψ g w:=by
 unfold yP at h
 split at h
 .rename_i y m;cases h;exact yQ F hB hk m z s G K
 .split at h
  .rename_i f l u
   split at h
   .rename_i O k Q
    split at h
    .obtain⟨y,m,e⟩:=map_some h
     cases e
     rw[u]at s;obtain⟨b,a,cs,rfl,S,R⟩:=s;rw[Q];exact HE F p hB hk m z S R G K
    .cases h
   .cases h
  .cases h
theorem D2{p j:aP}(h:yP P B x p=some (x',j)):Sub x x':=by
 unfold yP at h
 split at h
 .rename_i y m;cases h;exact u0 m
 .split at h
  .split at h
   .split at h
    .obtain⟨y,m,e⟩:=map_some h
     cases e;exact Ea m
    .cases h
   .cases h
  .cases h
theorem sM:∀(n:Nat)(x x':cL)(m j:aP),bH P B n x m=some (x',j)->Sub x x'
 |0,x,x',m,j,h=>by cases h;exact Sub.refl _
 |n+1,x,x',m,j,h=>by
  simp only[bH]at h
  split at h
  .rename_i y q p;exact(D2 p).trans (sM n y x' _ _ h)
  .cases h
theorem uZ(F:aC P main (DX Ok) Ψ)(m:P.follows .mixedOrders=true)(hB:∀(a:Addr)(wr:Bool),B<=a.block->Ok a wr)(hk:b0.kind≠.early):∀(n:Nat){x x':cL}{O j:aP}(h:bH P B n x O=some (x',j))(u:oN x'){g:aW}{w:aj}(G:Ux b0 oH cs0 x.fs g)(L:Inv Ok B w x.m)(K:wN Ok B Ψ b0 oH cs0 x.m w x'),Ψ g w
 |0,x,x',O,j,h,u,g,w,G,L,K=>by cases h;exact K _ _ G L (Fr.refl _ _) (λ_ h=>.inl h)
 |n+1,x,x',O,j,h,u,g,w,G,L,K=>by
  simp only[bH]at h
  split at h
  .rename_i y q W
   refine Hu F m hB hk W ((sM n y x' _ _ h).met u) G L λg' w' R U s p=>?_
   refine uZ F m hB hk n h u R U λg2 Y Q T V S=>?_
   refine K _ _ Q T (s.trans V p) (λa X=>(S a X).elim (p a) (λz=>.inr (aT s.size z)))
  .cases h
structure St(Ok:dw)(B N:Nat)(E:Env)(M:aX)(c:Nat)(a:Act)(w:aj):Prop where
 env:aN E N a
 sat:Sat Ok w M
 sz:w.heap.size=B+c
theorem fq:∀(l:List (Addr×Addr)),l.map Prod.fst=l.map Prod.snd->∀p∈l,p.1=p.2
 |[],_,p,j=>by cases j
 |x::l,h,p,j=>by
  simp only[nT,List.cons.injEq]at h;rcases ak.1 j with rfl|j
  .exact h.1
  .exact fq l h.2 p j
theorem eZ:∀(j E:Env),(j.map Prod.fst).map (look E)=j.map (λp=>some p.2)->∀d v,look j d=some v->look E d=some v
 |[],E,_,d,v,h=>by cases h
 |(k,u)::j,E,m,d,v,h=>by
  simp only[nT,List.cons.injEq]at m;simp only[look]at h;cases hk:(k==d)with
  |true=>rw[hk]at h;simp at h hk;subst hk;subst h;exact m.1
  |false=>rw[hk]at h;exact eZ j E m.2 d v h
theorem blk(F:aC P main (DX Ok) Ψ)(T:P.follows .mixedOrders=true)(hB:∀(a:Addr)(wr:Bool),B<=a.block->Ok a wr)(hk:b.kind≠.early)(n f:Nat)(O:List Hint)(bs:iM)(L:aP)(c0:Nat)(Q:Env)(M':aX)(c':Nat)(todo':eF){todo:eF}(dm:iM)(eU:List (Int×Nat))(j:List (Nat×Nat))(h:fin c0 (Q.map Prod.fst) (bH P B n ⟨[⟨f,N,todo,E⟩],⟨O,M,c,[],[]⟩,bs,[],[]⟩ L)=some (N,todo',Q.map (λp=>some p.2),M',c',dm,eU,j))(hq:Ki (bH P B n ⟨[⟨f,N,todo,E⟩],⟨O,M,c,[],[]⟩,bs,[],[]⟩ L)=Kg (bH P B n ⟨[⟨f,N,todo,E⟩],⟨O,M,c,[],[]⟩,bs,[],[]⟩ L))(V:∀p∈dm,p.1=p.2)(U:∀p∈eU,0<=p.1/\p.1<(p.2:Int))(W:∀p∈j,p.1<p.2)(S:St Ok B N E M c a w)(K:∀a' w',St Ok B N Q M' c' a' w'->a'.defers=a.defers->Fr (Wr M) w w'->(∀a,Wr M' a->Wr M a\/w.heap.size<=a.block)->Ψ (G (b.at a' todo') cs) w'):Ψ (G (b.at a todo) cs) w:=by
 cases R:bH P B n ⟨[⟨f,N,todo,E⟩],⟨O,M,c,[],[]⟩,bs,[],[]⟩ L with
 |none=>rw[R]at h;cases h
 |some xq=>
  obtain⟨x',qs'⟩:=xq;rw[R]at h hq;simp only[fin]at h
  split at h
  .rename_i g hg
   simp only[Option.some.injEq,Prod.mk.injEq]at h;obtain⟨hN,h1,h2,h3,h4,h5,h6,h7⟩:=h;refine uZ (b0:=b) (oH:=a.defers) (cs0:=cs) F T hB hk n R ⟨fq _ hq,by rw[h7];exact W,by rw[h5];exact V,by rw[h6];exact U⟩ ⟨b,a,cs,rfl,S.env,rfl,rfl,rfl⟩ ⟨S.sat,S.sz⟩ ?_;intro g' w' m u Y X;rw[hg]at m;obtain⟨b1,a1,Uh,rfl,z,r1,r2,r3⟩:=m;subst r1;subst r3;rw[h1];exact K _ _ ⟨⟨hN▸z.sz,λd v hl=>z.val d v (eZ Q g.E h2 d v hl)⟩,by rw[<-h3];exact u.sat.fg _,by rw[<-h4];exact u.sz⟩ r2 Y (λad s=>X ad (by rw[<-h3]at s;exact s.fg))
  .cases h
end
abbrev HB(B:Nat)(Ok:dw):Prop:=∀(a:Addr)(wr:Bool),B<=a.block->Ok a wr
abbrev bR(b:Nat)(vs:iG):aJ:=⟨λj=>⟨b,j.2,none⟩,vs,λ_ _=>undef,1,vs.length,true,none⟩
abbrev fR(a:Addr)(k:Nat)(v:fH)(n:Nat)(wr:Bool):aJ:=⟨λj=>(a.add (j.1*k)).add j.2,[],λj f=>(v j).getD f undef,n,k,wr,none⟩
abbrev i6(n:Int):Value:=.int .i64 n
abbrev ptr(b:Nat):Value:=.pointer (some ⟨b,0,none⟩)
def pc(P:aI)(f n:Nat)(bs:fL)(qs:aP):List Item:=Jk n bs qs (sS P f)
def ju(t:eF):Bool:=match t with
 |[]=>true
 |.code .ret::_=>true
 |_=>false
section
variable{Ok:dw}{Ψ:gi}
theorem mK(fn:Func)(h:P.funcs[f]? =some fn)(code:Code)(j:fn.body=some code)(K:∀b a,b.kind=.normal->b.fn=f->a.defers=[]->aN (rL args.toList 0) (args.size+(fn.ntmps-args.size)) a->Ψ (G (Frame.at b a (pc P f 0 [] [])) cs) w):Ψ (G (Frame.enter P f args .normal) cs) w:=by
 obtain⟨a,e1,e2,p⟩:=jw (args:=args) h j;have m:pc P f 0 [] []=[.code code]:=by unfold pc Jk sS;rw[h];simp only[fA,j,cK]
 rw[e1,<-m];exact K _ a rfl rfl p e2
theorem bk(F:aC P main (DX Ok) Ψ)(O:P.follows .mixedOrders=true)(hB:HB B Ok)(hk:b.kind=.normal)(n:Nat)(z:List Hint)(bs:iM)(u:aP)(L:Env)(ed:List aJ->List aJ)(U:Nat)(V:Nat)(s:fL)(m:aP)(dm:iM)(eU:List (Int×Nat))(j:List (Nat×Nat))(h:fin c (L.map Prod.fst) (bH P B n ⟨[⟨f,N,pc P f I H D,E⟩],⟨z,M,c,[],[]⟩,bs,[],[]⟩ u)=some (N,pc P f V s m,L.map (λp=>some p.2),ed M,U,dm,eU,j))(W:Ki (bH P B n ⟨[⟨f,N,pc P f I H D,E⟩],⟨z,M,c,[],[]⟩,bs,[],[]⟩ u)=Kg (bH P B n ⟨[⟨f,N,pc P f I H D,E⟩],⟨z,M,c,[],[]⟩,bs,[],[]⟩ u))(R:∀p∈dm,p.1=p.2)(Q:∀p∈eU,0<=p.1/\p.1<(p.2:Int))(T:∀p∈j,p.1<p.2)(S:St Ok B N E M c a w)(K:∀a' w',St Ok B N L (ed M) U a' w'->a'.defers=a.defers->Fr (Wr M) w w'->(∀a,Wr (ed M) a->Wr M a\/w.heap.size<=a.block)->Ψ (G (b.at a' (pc P f V s m)) cs) w'):Ψ (G (b.at a (pc P f I H D)) cs) w:=
 blk F O hB (by rw[hk];decide) n f z bs u c L (ed M) U _ dm eU j h W R Q T S K
theorem yW(F:aC P main (DX Ok) Ψ)(O:P.follows .mixedOrders=true)(hB:HB B Ok)(hk:b.kind=.normal)(n:Nat)(z:List Hint)(bs:iM)(u:aP)(L:Env)(U:Nat)(s:fL)(m:aP)(dm:iM)(eU:List (Int×Nat))(j:List (Nat×Nat))(h:fin c (L.map Prod.fst) (bH P B n ⟨[⟨f,N,pc P f I H D,E⟩],⟨z,M,c,[],[]⟩,bs,[],[]⟩ u)=some (N,pc P f U s m,L.map (λp=>some p.2),M,c,dm,eU,j))(V:Ki (bH P B n ⟨[⟨f,N,pc P f I H D,E⟩],⟨z,M,c,[],[]⟩,bs,[],[]⟩ u)=Kg (bH P B n ⟨[⟨f,N,pc P f I H D,E⟩],⟨z,M,c,[],[]⟩,bs,[],[]⟩ u))(R:∀p∈dm,p.1=p.2)(Q:∀p∈eU,0<=p.1/\p.1<(p.2:Int))(T:∀p∈j,p.1<p.2)(S:St Ok B N E M c a w)(K:∀a' w',St Ok B N L M c a' w'->a'.defers=a.defers->Fr (Wr M) w w'->Ψ (G (b.at a' (pc P f U s m)) cs) w'):Ψ (G (b.at a (pc P f I H D)) cs) w:=
 blk F O hB (by rw[hk];decide) n f z bs u c L M c _ dm eU j h V R Q T S λa' w' Y W X _=>K a' w' Y W X
theorem V8(F:aC P main (DX Ok) Ψ){todo:eF}(S:St Ok B N E M c a w)(R:b.kind=.normal)(T:b.fn=f)(W:a.defers=[])(m:List Hint)(v:ay)(s:ju todo=true)(h:(iS P ⟨f,N,todo,E⟩ ⟨m,M,c,[],[]⟩).map (λp=>(p.1,p.2.cT))=some (v,[]))(O:(iS P ⟨f,N,todo,E⟩ ⟨m,M,c,[],[]⟩).map (λp=>p.2.eqs.map Prod.fst)=(iS P ⟨f,N,todo,E⟩ ⟨m,M,c,[],[]⟩).map (λp=>p.2.eqs.map Prod.snd))(K:Ψ (G (cf.finish v) cs) w):Ψ (G (b.at a todo) (cf::cs)) w:=by
 cases L:iS P ⟨f,N,todo,E⟩ ⟨m,M,c,[],[]⟩with
 |none=>rw[L]at h;cases h
 |some p=>
  obtain⟨Y,m'⟩:=p;rw[L]at h O;simp only[fy,Option.some.injEq,Prod.mk.injEq]at h O;obtain⟨rfl,X⟩:=h;obtain⟨fn,Q,z,u,V,U⟩:=qK L (fq _ O) (by rw[X];simp) S.env S.sat;have j:∀t,Ψ (G {b.at a t with mode:=.returning} (cf::cs)) w:=λt=>F.vX R W (by rw[T];exact Q) z u K
  have:todo=[]\/∃l,todo=.code .ret::l:=by
   unfold ju at s
   split at s
   .exact .inl rfl
   .exact .inr ⟨_,rfl⟩
   .cases s
  rcases this with rfl|⟨l,rfl⟩
  .exact F.ctl (λ_=>stepG_end) (j _)
  .exact F.ctl (λ_=>stepG_ret') (j _)
theorem aA{n:Int}(j:-9223372036854775808<=n)(h:n<9223372036854775808):IntKind.wrap .i64 n=n:=by
 simp[IntKind.wrap,IntKind.bits,IntKind.signed];omega
end
structure Vc(Ok:dw)(sa:eN)(len cap:Nat):Prop where
 row:(sa=none/\len=0/\cap=0)\/∃g,sa=some ⟨g,0,none⟩/\0<len
 le:len<=cap
 mx:cap<=maxLen
 Rx:∀a,sa=some a->∀(ad:Addr)(wr:Bool),ad.block=a.block->Ok ad wr
abbrev vR(sa:eN)(k:Nat)(vl:fH)(len cap:Nat)(e:TypeId):aJ:=⟨λj=>((sa.getD ⟨0,0,none⟩).add (j.1*k)).add j.2,[],λj f=>(vl j).getD f undef,len,k,true,sa.map λa=>(a.block,e,cap*k)⟩
abbrev sR(sa:eN)(k:Nat)(vl:fH)(len cap:Nat):aJ:=⟨λj=>⟨(sa.getD ⟨0,0,none⟩).block,(len+j.1)*k+j.2,none⟩,[],λj f=>(vl j).getD f undef,cap-len,k,true,none⟩
theorem add_add(g m n:Nat):((⟨g,0,none⟩:Addr).add m).add n=⟨g,m+n,none⟩:=by rw[dJ,dJ,bD]
theorem xI{l j:iG}(h:l.take n=j)(m:i<n):l[i]? =j[i]? :=by rw[<-h,EN m]
section
variable{Ok:dw}{Ψ:gi}
theorem aC.Us(F:aC P main (DX Ok) Ψ)(hB:HB B Ok){ops:b9}{rest:aP}(ho:ops[i]? =some o)(hg:o.guard=none)(hk:b.kind=.normal)(s x:Operand)(t e:TypeId)(JP:o.op=.call {callee:=.builtin .append,args:=#[s,x],argTypes:=#[t,t]})(inf:TypeInfo)(z:ay){k:Nat}(ht:P.underlying t=some (.slice e))(hi:P.info? e=some inf)(hz:inf.zero=some z)(Sj:inf.size=k)(Vs:inf.bytes=bytes)(Wu:z.cells.size=k)(LU:0<k){p p1 p2:Nat}{vl:fH}(hs:a.eval s=.slice sa len cap)(hx:a.eval x=.slice (some ⟨nb,0,none⟩) 1 1)(hS:Sat Ok w M)(hp:nth M p=some (vR sa k vl len cap e))(Vg:nth M p1=some (sR sa k vs len cap))(W6:p≠p1)(hv:Vc Ok sa len cap)(Qc:∀j,j<len->(vl j).length=k)(Qg:nth M p2=some (bR nb news))(hl:news.length=k)(h1:∀u∈news,u.oneCell'=true)(pO:B<=nb)(gp:B<=w.heap.size)(Mc:len+1<=maxLen)(OJ:(len+1)*bytes<=140737488355328)(K:∀g' cap' O vs' w',Sat Ok w' (cD (cD M p (vR (some ⟨g',0,none⟩) k O (len+1) cap' e)) p1 (sR (some ⟨g',0,none⟩) k vs' (len+1) cap'))->Vc Ok (some ⟨g',0,none⟩) (len+1) cap'->(∀j,j<len->O j=vl j)->O len=news->w.heap.size<=w'.heap.size->(sa=some ⟨g',0,none⟩\/w.heap.size<=g')->
 Ψ (G (b.at (a.put o.dst (.slice (some ⟨g',0,none⟩) (len+1) cap')) (.inRegion ops rest::kk)) cs) w'):
 Ψ (G (b.at a (.inRegion ops (i::rest)::kk)) cs) w:=by
 have LK:∀g,sa=some ⟨g,0,none⟩->∃cur,w.heap[g]? =some (.cells cur e (0,0))/\cur.size=cap*k:=λg hg=>(hS.row p _ hp g e (cap*k) (by rw[hg];rfl)).2.2
 have T:∃xs,w.ownsRow 0 e k (.slice sa len cap) len xs/\(∀j f,j<len->f<k->xs[j*k+f]? =(vl j)[f]?):=by
  rcases hv.row with ⟨Y,r2,r3⟩|⟨g,Y,_⟩
  .subst Y;subst r2;subst r3
   exact⟨[],⟨by simp,.inl ⟨rfl,rfl⟩⟩,λj f hj=>by omega⟩
  .obtain⟨cur,r2,r3⟩:=LK g Y
   subst Y;refine⟨cur.toList.take (len*k),⟨?_,.inr ⟨g,cap,cur,rfl,iN _,r2,hv.le,hv.mx,r3,rfl⟩⟩,λj f hj S=>?_⟩
   .rw[rJ,xp,r3]
    exact Nat.min_eq_left (CZ _ hv.le)
   .have X:j*k+f<len*k:=by
     have:(j+1)*k<=len*k:=CZ _ hj;rw[rF]at this;omega
    rw[EN X];have hc:=hS.val p _ hp (j,f) ⟨hj,S⟩;simp only[cK,add_add]at hc;have Xr:f<(vl j).length:=by rw[Qc j hj];exact S
    simp only[World.cell?,r2,Iu,aJ.get]at hc;rw[EG]at*
    simp at hc
    rw[hc];simp[Xr]
 obtain⟨xs,T,Ca⟩:=T
 have SD:∀j u,news[j]? =some u->w.cell? ⟨nb,j,none⟩=some u:=λj u hj=>by
  have X:j<news.length:=(nS.1 hj).1;have:=hS.val p2 _ Qg (0,j) ⟨by simp,X⟩
  simp only at this
  rw[this];cases hn:news with
  |nil=>rw[hn]at X;simp at X
  |cons y ys=>rw[hn]at hj;simp[aJ.get,hj]
 have Xl:nb<w.heap.size:=by
  have:0<news.length:=by rw[hl];exact LU
  exact hS.lt Qg (j:=(0,0)) ⟨by simp,this⟩
 refine F.append ho (by simp[Region.wanted,hg]) (by rw[hk];decide) s x t e JP inf z 0 k bytes ht hi hz Sj Vs Wu LU hs hx T hl SD h1 Mc OJ (iN _) Xl (λad wr Ax=>?_) (λad Ax=>hB ad false (by rw[Ax];exact pO)) λv' w' GI SS hb=>?_
 .rcases hv.row with ⟨Y,_⟩|⟨g,Y,_⟩
  .subst Y;simp[Value.ownBlock]at Ax
  .exact hv.Rx _ Y ad wr (by subst Y;simp[Value.ownBlock]at Ax;exact Ax)
 .rcases GI.2 with ⟨z1,z2⟩|⟨g',cap',HL,rfl,_,q1,q2,q3,q4,q5⟩
  .omega
  .have Qm:sa=some ⟨g',0,none⟩\/w.heap.size<=g':=by
    rcases hb with z|z
    .left
     rcases hv.row with ⟨Y,_⟩|⟨g,Y,_⟩
     .subst Y;simp[Value.ownBlock]at z
     .subst Y;simp[Value.ownBlock]at z;rw[z]
    .right;simp[Value.ownBlock]at z;omega
   have JO:∀q r,nth M q=some r->q≠p->q≠p1->∀j,r.has j->some (r.ad j).block≠(Value.slice sa len cap).ownBlock:=λq r m L h j hj Q=>by
    rcases hv.row with ⟨Y,_⟩|⟨g,Y,_⟩
    .subst Y;simp[Value.ownBlock]at Q
    .obtain⟨cur,r2,r3⟩:=LK g Y
     subst Y;simp[Value.ownBlock]at Q;have hc:=hS.val q r m j hj;unfold World.cell? at hc;rw[Q,r2]at hc
     simp only at hc
     split at hc
     .cases hc
     .rename_i ue
      have X:(r.ad j).off<cap*k:=by rw[<-r3];exact(cH.1 hc).1
      have Qp:=Nat.div_add_mod (r.ad j).off k;have hdiv:(r.ad j).off / k<cap:=Nat.div_lt_of_lt_mul (by rw[ux];exact X);have SJ:(r.ad j).off % k<k:=Nat.mod_lt _ LU;have yz:(r.ad j).spot=none:=by simpa using ue
      have Tp:r.ad j=⟨g,(r.ad j).off / k*k+(r.ad j).off % k,none⟩:=by
       rw[ux]at Qp;cases W0:r.ad j with
       |mk bb oo ss=>rw[W0]at Q yz Qp;simp at Q yz Qp;subst Q;subst yz;simp;omega
      rcases kR ((r.ad j).off / k) len with Xw|Xw
      .have:=(hS.sep p _ q r hp m rfl ((r.ad j).off / k,(r.ad j).off % k) j ⟨Xw,SJ⟩ hj (by
        simp only[cK,add_add];exact Tp.symm)).1
       exact L this.symm
      .have:=(hS.sep p1 _ q r Vg m rfl ((r.ad j).off / k-len,(r.ad j).off % k) j ⟨by simp only;omega,SJ⟩ hj (by
        have e1:len+((r.ad j).off / k-len)=(r.ad j).off / k:=by omega
        simp only[cK,e1];exact Tp.symm)).1
       exact h this.symm
   have GO:∀q r,nth M q=some r->q≠p->q≠p1->∀j,r.has j->w'.heap[(r.ad j).block]? =w.heap[(r.ad j).block]? :=λq r m L h j hj=>SS.block _ (hS.lt m hj) (JO q r m L h j hj)
   let O:Nat->List Value:=λj=>(List.range k).map λf=>(HL[j*k+f]?).getD undef
   have N7:∀j f,f<k->(O j)[f]? =some ((HL[j*k+f]?).getD undef):=λj f S=>by simp[O,S]
   have yB:∀j f,j<cap'->f<k->j*k+f<HL.size:=λj f hj S=>by
    rw[q4];have:(j+1)*k<=cap'*k:=CZ _ hj;rw[rF]at this;omega
   have LN:∀j,(O j).length=k:=λj=>by simp[O]
   let vs':Nat->List Value:=λj=>O (len+1+j)
   have R:∀q s,nth (cD (cD M p (vR (some ⟨g',0,none⟩) k O (len+1) cap' e)) p1 (sR (some ⟨g',0,none⟩) k vs' (len+1) cap')) q=some s->(q=p/\s=vR (some ⟨g',0,none⟩) k O (len+1) cap' e)\/(q=p1/\s=sR (some ⟨g',0,none⟩) k vs' (len+1) cap')\/(q≠p/\q≠p1/\nth M q=some s):=λq s m=>by
    rw[dP]at m
    split at m
    .rename_i e
     rw[dP,af (λz=>W6 z.symm),Vg]at m;simp at m;exact .inr (.inl ⟨e,m.symm⟩)
    .rename_i e
     rw[dP]at m
     split at m
     .rename_i e';rw[hp]at m;simp at m;exact .inl ⟨e',m.symm⟩
     .rename_i e';exact .inr (.inr ⟨e',e,m⟩)
   have U:∀q r,nth M q=some r->q≠p->q≠p1->∀j,r.has j->(r.ad j).block≠g':=λq r m L h j hj Q=>by
    rcases Qm with z|z
    .exact JO q r m L h j hj (by rw[z,Q];rfl)
    .have:=hS.lt m hj;omega
   have Z4:∀j f,j<cap'->f<k->w'.cell? ⟨g',j*k+f,none⟩=some ((O j).getD f undef):=λj f hj S=>by
    simp only[World.cell?,q1,Iu,o8,N7 j f S];rw[hU (yB j f hj S)];simp
   have JQ:∀o wr,Ok ⟨g',o,none⟩ wr:=λo wr=>by
    rcases Qm with z|z
    .exact hv.Rx _ z _ wr rfl
    .exact hB _ wr (aT gp z)
   have SV:∀o,w'.frozen? ⟨g',o,none⟩=false:=λo=>by simp only[World.frozen?,q1];simp
   have yA:∀j1 j2 l1 l2,j2<k->l2<k->j1*k+j2=l1*k+l2->j1=l1/\j2=l2:=λj1 j2 l1 l2 a2 b2 Q=>by
    have h1:(j1*k+j2) / k=j1:=by rw[ux,Bh LU,Bl a2];rfl
    have h2:(l1*k+l2) / k=l1:=by rw[ux,Bh LU,Bl b2];rfl
    have e1:j1=l1:=by rw[<-h1,<-h2,Q]
    subst e1;exact⟨rfl,by omega⟩
   refine K g' cap' O vs' w' ⟨λq s m j hj=>?_,λq s m j hj=>?_,λq s q' s' m V hsw j j' hj tj Q=>?_,λq s m g2 e2 n2 Aq=>?_⟩ ⟨.inr ⟨g',rfl,by omega⟩,q2,q3,λad Ax y wr hy=>?_⟩ (λj hj=>?_) ?_ SS.size Qm
   .rcases R q s m with ⟨_,rfl⟩|⟨_,rfl⟩|⟨L,h,m⟩
    .obtain⟨j,f⟩:=j
     obtain⟨Xy,Oy⟩:=hj
     simp only at Xy Oy
     simp only[cK,add_add,aJ.get];exact Z4 j f (by omega) Oy
    .obtain⟨j,f⟩:=j
     obtain⟨Xy,Oy⟩:=hj
     simp only at Xy Oy
     simp only[cK,aJ.get];exact Z4 (len+1+j) f (by omega) Oy
    .rw[World.cell?_of_block (GO q s m L h j hj)];exact hS.val q s m j hj
   .rcases R q s m with ⟨_,rfl⟩|⟨_,rfl⟩|⟨L,h,m⟩
    .simp only[cK,add_add]
     exact⟨JQ _ _,λ_=>⟨JQ _ _,SV _⟩⟩
    .simp only[cK]
     exact⟨JQ _ _,λ_=>⟨JQ _ _,SV _⟩⟩
    .rw[World.frozen?_of_block (GO q s m L h j hj)];exact hS.ok q s m j hj
   .obtain⟨j1,j2⟩:=j;obtain⟨l1,l2⟩:=j'
    rcases R q s m with ⟨YB,rfl⟩|⟨YB,rfl⟩|⟨L,h,m⟩
    .obtain⟨a1,a2⟩:=hj
     rcases R q' s' V with ⟨TF,rfl⟩|⟨TF,rfl⟩|⟨JR,W,V⟩
     .obtain⟨b1,b2⟩:=tj
      simp only[cK,add_add,Addr.mk.injEq,and_true,true_and]at Q a2 b2;obtain⟨rfl,rfl⟩:=yA _ _ _ _ a2 b2 Q;exact⟨YB.trans TF.symm,rfl⟩
     .obtain⟨b1,b2⟩:=tj
      simp only[cK,add_add,Addr.mk.injEq,and_true,true_and]at Q a1 a2 b1 b2;have:=(yA _ _ _ _ a2 b2 Q).1;omega
     .exact absurd (by rw[<-Q];simp only[cK,add_add]) (U q' s' V JR W _ tj)
    .obtain⟨a1,a2⟩:=hj
     rcases R q' s' V with ⟨TF,rfl⟩|⟨TF,rfl⟩|⟨JR,W,V⟩
     .obtain⟨b1,b2⟩:=tj
      simp only[cK,add_add,Addr.mk.injEq,and_true,true_and]at Q a1 a2 b1 b2;have:=(yA _ _ _ _ a2 b2 Q).1;omega
     .obtain⟨b1,b2⟩:=tj
      simp only[cK,Addr.mk.injEq,and_true,true_and]at Q a2 b2;obtain⟨z1,rfl⟩:=yA _ _ _ _ a2 b2 Q;have z2:j1=l1:=by omega
      subst z2;exact⟨YB.trans TF.symm,rfl⟩
     .exact absurd (by rw[<-Q];simp only[cK]) (U q' s' V JR W _ tj)
    .rcases R q' s' V with ⟨_,rfl⟩|⟨_,rfl⟩|⟨JR,W,V⟩
     .exact absurd (by rw[Q];simp only[cK,add_add]) (U q s m L h _ hj)
     .exact absurd (by rw[Q];simp only[cK]) (U q s m L h _ hj)
     .exact hS.sep q s q' s' m V hsw _ _ hj tj Q
   .rcases R q s m with ⟨_,rfl⟩|⟨_,rfl⟩|⟨L,h,m⟩
    .simp only[fy,Option.some.injEq,Prod.mk.injEq]at Aq
     obtain⟨rfl,rfl,rfl⟩:=Aq;exact⟨⟨by simp only;omega,LU⟩,by simp only[cK,add_add],HL,q1,q4⟩
    .cases Aq
    .obtain⟨z1,z2,YP,z3,z4⟩:=hS.row q s m g2 e2 n2 Aq
     have ZZ:=GO q s m L h (0,0) z1;rw[z2]at ZZ;exact⟨z1,z2,YP,ZZ.trans z3,z4⟩
   .cases Ax
    rcases Qm with z|z
    .exact hv.Rx _ z y wr hy
    .exact hB y wr (by rw[hy];exact aT gp z)
   .refine List.ext_getElem? λf=>?_
    have hjc:j<cap':=by omega
    rcases kR f k with S|S
    .rw[N7 j f S,<-Ca j f hj S]
     have X:j*k+f<len*k:=by
      have:(j+1)*k<=len*k:=CZ _ hj;rw[rF]at this;omega
     have Ot:j*k+f<(len+1)*k:=by rw[rF];omega
     have:=xI q5 Ot;rw[oZ (by rw[T.1];exact X),EG]at this;rw[<-this,hU (yB j f hjc S)];rfl
    .rw[EI (by rw[LN];exact S)]
     have:(vl j).length=k:=Qc j hj;rw[EI (by rw[this];exact S)]
   .refine List.ext_getElem? λf=>?_
    rcases kR f k with S|S
    .rw[N7 len f S]
     have Ot:len*k+f<(len+1)*k:=by rw[rF];omega
     have:=xI q5 Ot;rw[rH (by rw[T.1];omega),T.1,EG]at this;have e:len*k+f-len*k=f:=by omega
     rw[e]at this;rw[<-this,hU (yB len f (by omega) S)];rfl
    .rw[EI (by rw[LN];exact S),EI (by rw[hl];exact S)]
end
def pG(P:aI)(r:Rec):Bool:=match cS P (execOp (ev r.E) r.o)with
 |some (.value _)=>r.o.guard.isNone
 |_=>false
def X0(hs:List Hint)(Z:aX):cL:=⟨[],⟨hs,Z,0,[],[]⟩,[],[],[]⟩
def r7(x:cL):Bool:=x.dm.isEmpty&&x.eU.isEmpty&&x.m.cT.isEmpty
def Late(P:aI)(ops:b9)(Z:aX)(r:Rec):Prop:=∃hs y,wV P 0 ops r.E r.o (X0 hs (ro Z))=some (r.v,y)/\oN y/\y.m.c=0
section
variable{Ok:dw}{Ψ:gi}
theorem Np{B':Nat}:∀(s:Sem α)(y:α)(m:l6),cS P s=some y->dy P B' s m=some (y,m):=by
 intro s
 induction s with
 |pure a=>intro y m h;simp[cS]at h;subst h;rfl
 |program k j=>intro y m h;exact j _ _ _ h
 |_=>intros;simp_all [cS]
theorem Dw{m:b9}{p:ay}(h:wV P B m E o x=some (v,y))(F:oN y)(G:o.guard=none)(s:cS P (execOp (ev E) o)=some (.value p)):v=p/\lU o=false/\o.op.operands.all (kn E)=true:=by
 unfold wV at h;rw[G]at h;simp only at h;obtain⟨hc,h⟩:=aD h;simp only[cq,mF]at hc;refine⟨?_,hc.1,hc.2⟩;rw[Np (B':=B) _ _ _ s]at h;cases j:tX o with
 |true=>
  rw[j]at h;simp only[cond_true]at h
  split at h
  .cases h;rfl
  .split at h
   .rename_i K i n z
    cases h
    have u:=F.eU (i,n) (by simp);have:=Al z u.1 u.2;rw[s]at this;cases this;rfl
   .cases h
  .cases h
 |false=>rw[j]at h;simp only[cond_false]at h;cases h;rfl
structure KV(ops:b9)(bm:Array Nat)(q e N:Nat)(ds:xh)(E0:Env)(fK:List Rec)(dq:vm)(v:ay)(ox:Oper)(vx:ay)(l:oW)(a':Act):Prop where
 size:l.size=ops.size
 late:∀j,q+e<j->j<ops.size->l.getD j true=false
 down:∀i j,l.getD i false=true->i<ops.size->j<ops.size->iC bm i j=true->l.getD j false=true
 base:l.getD q false=true
 sz:a'.tmps.size=N
 EA:a'.defers=ds
 val:∀r∈fK,l.getD r.i false=true->∀d,r.o.dst=some d->a'.tmps[d]? =some r.v
 old:∀d u,look E0 d=some u->a'.tmps[d]? =some u
 own:∀d,dq=some d->a'.tmps[d]? =some v
 ext:e=1->l.getD (q+1) false=true->∀d,ox.dst=some d->a'.tmps[d]? =some vx
theorem Pc(F:aC P main (DX Ok) Ψ)(hB:HB B Ok)(hk:b.kind≠.early){h:b9}{bm:Array Nat}(As:e<=1){E0:Env}{M0:aX}{L:List Rec}{xf:cL}{dq:vm}{Ex:Env}{vx:ay}(Qe:q+e<h.size)(hX:e=1->h[q+1]? =some ox/\iC bm (q+1) q=true/\ox.guard=none)(LH:e=1->∀a,aN Ex N a->∀w,(execOp a.eval ox).run P w=.ok (.value vx) w/\raw P a ox w=#[])(R6:e=1->∀d u,look Ex d=some u->(∃s∈L,iC bm (q+1) s.i=true/\s.o.dst=some d/\s.v=u)\/look E0 d=some u\/(dq=some d/\v=u))(hp:qD h bm (q+1+e))(yC:jE h (q+1+e)=true)(Vn:dq=(h[q]?).bind (·.dst))(hN:∀d∈dstsOf h (q+1+e),d<N)(yD:∀d u,look E0 d=some u->d∉dstsOf h (q+1+e))(hM:oN xf)(hu:∀r∈L,∀s∈L,r.i=s.i->r=s)(ue:∀r∈L,r.i<q/\Spec P B h bm E0 M0 c0 L al xf r)(JY:∀i,i<q->∃r∈L,r.i=i)(Ao:∀r∈L,iC bm q r.i=true\/pG P r=true\/Late P h Z r)(sH:Sat Ok w Z)(gp:B<=w.heap.size)(K:∀l a' w',KV h bm q e N ds E0 L dq v ox vx l a'->(∀i,i<q+1+e->l.getD i false=true)->Fr (λ_=>False) w w'->w'.heap.size=w.heap.size->Ψ (G (b.at a' (.inRegion h (bM (q+1+e) (h.size-(q+1+e)))::k)) cs) w'):
 ∀(fuel t:Nat)(l:oW)(a:Act)(w1:aj),Fr (λ_=>False) w w1->w1.heap.size=w.heap.size->KV h bm q e N ds E0 L dq v ox vx l a->(∃m,m+fuel=h.size/\(l.toList.filter id).length=m)->Ψ (G (b.at a (.inRegion h (Region.linearise.go .any h fuel t l [])::k)) cs) w1:=by
 intro fuel
 induction fuel with
 |zero=>
  intro t l a w1 pP iH O ⟨m,hm,hc⟩;have U:∀i,i<q+1+e->l.getD i false=true:=λi hi=>by rw[cE (by rw[O.size];omega) false true];exact oE O.size (by omega) i (by omega)
  rw[mw hp O.size (λj h1 h2=>O.late j (by omega) h2) U ⟨m,hm,hc⟩];exact K l a w1 O U pP iH
 |succ fuel ih=>
  intro t l a w1 pP iH O ⟨m,hm,hc⟩
  by_cases U:∀i,i<q+1+e->l.getD i false=true
  .rw[mw hp O.size (λj h1 h2=>O.late j (by omega) h2) U ⟨m,hm,hc⟩]
   exact K l a w1 O U pP iH
  .obtain⟨i,hi1,kU,f1,f2,t',hgo⟩:=jV hp O.size O.down U (fuel:=fuel) (t:=t)
   rw[hgo];have Y:i<l.size:=by rw[O.size];exact kU
   have uS:i<q\/i=q+1/\e=1:=by
    have:i≠q:=λz=>by
     subst z;have:=O.base;rw[cE Y false true,f1]at this;cases this
    omega
   have R:∀o',h[i]? =some o'->∀j,j<h.size->iC bm i j=true->l.getD j false=true:=λo' X j hj hb=>by
    obtain⟨_,e,he,h1,h2⟩:=hp.Mt i o' j X hj hb;have GH:h[i]=o':=Option.some.inj ((hU kU).symm.trans X);have hd:=f2 e (by rw[GH];exact he) h1;rcases h2 with rfl|h2
    .exact hd
    .have SL:=hp.low i o' X e he h1
     exact O.down e.on j hd (by omega) hj h2
   have JX:∀s∈L,∀d,s.o.dst=some d->d∈dstsOf h (q+1+e):=λs S d hd=>by
    obtain⟨h1,h2⟩:=ue s S;exact vo.2 ⟨s.i,bp.2 (by omega),by rw[h2.op];exact hd⟩
   have Z9:e=1->∀d,ox.dst=some d->d∈dstsOf h (q+1+e):=λh1 d hd=>vo.2 ⟨q+1,bp.2 (by omega),by rw[(hX h1).1];exact hd⟩
   have X5:∀i j d,i<q+1+e->j<q+1+e->(h[i]?).bind (·.dst)=some d->(h[j]?).bind (·.dst)=some d->i=j:=λi j d h1 h2 h3 h4=>by
    have:=eP.1 (eP.1 yC i (bp.2 h1)) j (bp.2 h2);rw[h3,h4]at this
    simpa using this
   have step:∀(o':Oper)(v':ay),h[i]? =some o'->(∀s∈L,s.i=i->s.v=v')->(i=q+1->v'=vx)->(∀d,o'.dst=some d->d∈dstsOf h (q+1+e))->∀w2,Fr (λ_=>False) w1 w2->w2.heap.size=w1.heap.size->Ψ (G (b.at (a.put o'.dst v') (.inRegion h (Region.linearise.go .any h fuel t' (l.setIfInBounds i true) [])::k)) cs) w2:=λo' v' X hv1 Sd OH w2 DI fV=>by
    have W:∀(j T:Nat),j<q+1+e->j≠i->(h[j]?).bind (·.dst)=some T->∀u,a.tmps[T]? =some u->(a.put o'.dst v').tmps[T]? =some u:=λj T hj Xx Ox u h0=>by
     cases Oe:o'.dst with
     |none=>exact h0
     |some d2=>
      have ny:d2≠T:=λz=>Xx (X5 j i T hj (by omega) Ox (by rw[X,<-z];exact Oe))
      simp only[Act.put];rw[ku ny];exact h0
    refine ih _ _ _ w2 (pP.trans DI (λ_ z=>z.elim)) (fV.trans iH) ⟨by simp[O.size],λj h1 h2=>?_,λi' j h1 h2 h3 h4=>?_,?_,?_,by rw[put_defers];exact O.EA,λs S hd T Q=>?_,λT u hl=>?_,λT Q=>?_,λV hd T Q=>?_⟩ ⟨m+1,by omega,?_⟩
    .rw[aZ _ Y,af (by omega)];exact O.late j h1 h2
    .rw[aZ _ Y]at h1 ⊢
     by_cases e:j=i
     .rw[ah e]
     .rw[af e]
      by_cases e':i'=i
      .subst e';exact R o' X j h3 h4
      .rw[af e']at h1;exact O.down i' j h1 h2 h3 h4
    .rw[aZ _ Y];split
     .rfl
     .exact O.base
    .cases hd:o'.dst<;>simp[Act.put]<;>exact O.sz
    .by_cases e:s.i=i
     .have eo:s.o=o':=by have:=(ue s S).2.op;rw[e,X]at this;exact(Option.some.inj this).symm
      rw[eo]at Q;rw[Q,hv1 s S e];simp only[Act.put];rw[MS,ah (by rw[O.sz];exact hN T (OH T Q))]
     .rw[aZ _ Y,af e]at hd
      exact W s.i T (by have:=(ue s S).1;omega) e (by rw[(ue s S).2.op];exact Q) _ (O.val s S hd T Q)
    .have h0:=O.old T u hl
     cases Oe:o'.dst with
     |none=>exact h0
     |some d2=>
      have ny:d2≠T:=λz=>yD T u hl (by rw[<-z];exact OH d2 Oe)
      simp only[Act.put];rw[ku ny];exact h0
    .exact W q T (by omega) (by omega) (by rw[<-Vn];exact Q) _ (O.own T Q)
    .by_cases eq1:i=q+1
     .have eo:o'=ox:=by rw[eq1,(hX V).1]at X;exact(Option.some.inj X).symm
      rw[eo,Q,Sd eq1];simp only[Act.put];rw[MS,ah (by rw[O.sz];exact hN T (Z9 V T Q))]
     .rw[aZ _ Y,af (by omega)]at hd
      exact W (q+1) T (by omega) (by omega) (by rw[(hX V).1];exact Q) _ (O.ext V hd T Q)
    .have h0:l[i]=false:=by have:=f1;simpa [Array.getD,Y]using this
     rw[zE];exact hc▸ck l.toList i Y h0
   rcases uS with uS|⟨uS,V⟩
   .obtain⟨r,Oc,rfl⟩:=JY i uS
    obtain⟨_,hs⟩:=ue r Oc
    have hA:aN r.E N a:=⟨O.sz,λd u hl=>by
     rcases hs.env d u hl with ⟨s,s1,s2,s3,s4⟩|z
     .rw[<-s4];exact O.val s s1 (R r.o hs.op s.i (by have:=(ue s s1).1;omega) s2) d s3
     .exact O.old d u z⟩
    have hnq:iC bm q r.i=false:=by
     cases hz:iC bm q r.i with
     |false=>rfl
     |true=>
      have:=O.down q r.i O.base (by omega) kU hz;rw[cE Y false true,f1]at this;cases this
    have Lh:=step r.o r.v hs.op (λs S e=>by rw[hu s S r Oc e]) (λe=>by omega) (JX r Oc);rcases(Ao r Oc).resolve_left (by rw[hnq];decide)with Sr|⟨yz,y2,r1,r2,r3⟩
    .unfold pG at Sr
     split at Sr
     .rename_i v' JJ
      have e2:r.o.guard=none:=by
       cases XD:r.o.guard with
       |none=>rfl
       |some p=>rw[XD]at Sr;cases Sr
      obtain⟨e1,e3,e4⟩:=Dw hs.run (hs.sub.met hM) e2 JJ;subst e1;have LY:execOp a.eval r.o=execOp (ev r.E) r.o:=execOp_congr e3 λy hy=>hA.eval (zC.1 e4 y hy)
      have uQ:=fP _ _ JJ;refine F.op hs.op (by simp[Region.wanted,e2]) hk λd K' hK=>?_
      have z2:(execOp a.eval r.o).run P (w1.at d)=.ok (.value r.v) (w1.at d):=by rw[LY,<-fu (es:=#[]),uQ]
      have z3:raw P a r.o (w1.at d)=#[]:=by unfold raw Sem.events;rw[LY,uQ]
      rw[z2];exact hK _ w1 ⟨by rw[z3];exact DX.still d (by simp),Lh w1 (Fr.refl _ _) rfl⟩
     .cases Sr
    .refine vS (B:=w1.heap.size) F (λad wr z=>hB ad wr (by omega)) hk hs.op (F3 r1 (by rw[r3];rfl) _) r2 hA ⟨(sH.keep pP).ro,rfl⟩ λw2 q1 q2 q3=>Lh w2 (q2.Dg λad z=>ve z) ?_
     have:=q1.sz;omega
   .subst uS
    obtain⟨SA,_,N6⟩:=hX V
    have hA:aN Ex N a:=⟨O.sz,λd u hl=>by
     rcases R6 V d u hl with ⟨s,s1,s2,s3,s4⟩|z|⟨z1,z2⟩
     .rw[<-s4];exact O.val s s1 (R ox SA s.i (by have:=(ue s s1).1;omega) s2) d s3
     .exact O.old d u z
     .rw[<-z2];exact O.own d z1⟩
    refine F.op SA (by simp[Region.wanted,N6]) hk λd K' hK=>?_
    obtain⟨z2,z3⟩:=LH V a hA (w1.at d);rw[z2];exact hK _ w1 ⟨by rw[z3];exact DX.still d (by simp),step ox vx SA (λs S e=>by have:=(ue s S).1;omega) (λ_=>rfl) (Z9 V) w1 (Fr.refl _ _) rfl⟩
end
def Gf(M0:aX):Option (Nat×aJ)->List aJ
 |some (_,R)=>R::M0
 |none=>M0
def AW(c0:Nat):Option (Nat×aJ)->Nat
 |some _=>c0+1
 |none=>c0
def Va(bm:Array Nat)(q:Nat):Option (Nat×aJ)->Bool
 |some (p,_)=>iC bm q p
 |none=>true
section
variable{Ok:dw}{Ψ:gi}
theorem Pd(F:aC P main (DX Ok) Ψ)(hB:HB B Ok)(hk:b.kind≠.early){h:b9}{bm:Array Nat}(As:e<=1){E0:Env}{M0:aX}{L:List Rec}{xf:cL}(ho:h[q]? =some o)(hX:e=1->h[q+1]? =some ox/\iC bm (q+1) q=true/\ox.guard=none)(LH:∀v w,Post v w->e=1->∀a,aN (Ex v) N a->∀w,(execOp a.eval ox).run P w=.ok (.value (vx v)) w/\raw P a ox w=#[])(R6:∀v w,Post v w->e=1->∀d u,look (Ex v) d=some u->(∃s∈L,iC bm (q+1) s.i=true/\s.o.dst=some d/\s.v=u)\/look E0 d=some u\/(o.dst=some d/\v=u))(hp:qD h bm (q+1+e))(yC:jE h (q+1+e)=true)(hN:∀d∈dstsOf h (q+1+e),d<N)(yD:∀d u,look E0 d=some u->d∉dstsOf h (q+1+e))(hM:oN xf)(hu:∀r∈L,∀s∈L,r.i=s.i->r=s)(V:∀r∈L,r.i<q/\Spec P B h bm E0 M0 c0 L al xf r)(DL:∀p R,al=some (p,R)->p<q)(JY:∀i,i<q->∃r∈L,r.i=i)(Ao:∀r∈L,iC bm q r.i=true\/pG P r=true\/Late P h Z r)(yB:Va bm q al=true)(sH:∀v X,Post v X->Sat Ok X Z/\B<=X.heap.size)(U:∀a1 w1 rest,aN (iB bm q L++E0) N a1->Sat Ok w1 (Gf M0 al)->w1.heap.size=B+AW c0 al->(∀v X,Post v X->Ψ (G (b.at (a1.put o.dst v) (.inRegion h rest::k)) cs) X)->Ψ (G (b.at a1 (.inRegion h (q::rest)::k)) cs) w1)(K:∀v X l a' w3,Post v X->KV h bm q e N ds E0 L o.dst v ox (vx v) l a'->(∀i,i<q+1+e->l.getD i false=true)->Fr (λ_=>False) X w3->w3.heap.size=X.heap.size->Ψ (G (b.at a' (.inRegion h (bM (q+1+e) (h.size-(q+1+e)))::k)) cs) w3):
 ∀(fuel t:Nat)(l:oW)(a:Act)(w1:aj),My Ok B h bm (q+1+e) N ds E0 M0 c0 L al w l a w1->l.getD q true=false->(∃m,m+fuel=h.size/\(l.toList.filter id).length=m)->Ψ (G (b.at a (.inRegion h (Region.linearise.go .any h fuel t l [])::k)) cs) w1:=by
 have W3:q+e<h.size:=by have:=hp.le;omega
 have Qe:q<h.size:=by omega
 intro fuel
 induction fuel with
 |zero=>
  intro t l a w1 T Y ⟨m,hm,hc⟩;rw[oE T.size (by omega) q Qe]at Y;cases Y
 |succ fuel ih=>
  intro t l a w1 T Y ⟨m,hm,hc⟩
  obtain⟨i,hi1,kU,f1,f2,t',hgo⟩:=jV hp T.size T.down (λz=>by
   have:=z q (by omega);rw[cE (by rw[T.size];exact Qe) false true,Y]at this;cases this) (fuel:=fuel) (t:=t)
  rw[hgo];have S:i<l.size:=by rw[T.size];exact kU
  have O:∀o',h[i]? =some o'->∀j,j<h.size->iC bm i j=true->l.getD j false=true:=λo' GI j hj hb=>by
   obtain⟨_,e,he,h1,h2⟩:=hp.Mt i o' j GI hj hb;have GH:h[i]=o':=Option.some.inj ((hU kU).symm.trans GI);have hd:=f2 e (by rw[GH];exact he) h1;rcases h2 with rfl|h2
   .exact hd
   .have SL:=hp.low i o' GI e he h1
    exact T.down e.on j hd (by omega) hj h2
  rcases MC i q with uS|uS|uS
  .obtain⟨r,Oc,rfl⟩:=JY i uS
   obtain⟨_,hs⟩:=V r Oc;have GH:h[r.i]=r.o:=Option.some.inj ((hU kU).symm.trans hs.op);refine u5 F hB hk hp yC hN yD hM hu (λs W=>⟨by have:=(V s W).1;omega,(V s W).2⟩) (λp R z=>by have:=DL p R z;omega) T Oc f1 (λe he hb=>f2 e (by rw[GH];exact he) hb) _ λa' w' Io=>?_
   refine ih _ _ _ _ Io (by rw[aZ _ S,af (by omega)];exact Y) ⟨m+1,by omega,?_⟩;have h0:l[r.i]=false:=by have:=f1;simpa [Array.getD,S]using this
   rw[zE];exact hc▸ck l.toList r.i S h0
  .subst uS
   have JS:Sat Ok w1 (Gf M0 al)/\w1.heap.size=B+AW c0 al:=by
    rcases T.mem with ⟨p,R,e1,e2,e3,e4,_⟩|⟨e1,e2,e3⟩
    .rw[e1];exact⟨e3,by rw[e4];rfl⟩
    .cases OO:al with
     |none=>exact⟨e2,e3⟩
     |some pr=>
      obtain⟨p,R⟩:=pr;rw[OO]at yB;have:=O o ho p (by have:=DL p R OO;omega) yB;rw[e1 p R OO]at this;cases this
   refine U a w1 _ ⟨T.sz,λd u hl=>?_⟩ JS.1 JS.2 λv X Q=>?_
   .rcases lS _ _ _ _ hl with z|z
    .obtain⟨s,s1,s2,s3,s4⟩:=jO bm i L d u z
     rw[<-s4];exact T.val s s1 (O o ho s.i (by have:=(V s s1).1;omega) s2) d s3
    .exact T.old d u z
   .have JX:∀s∈L,∀d,s.o.dst=some d->d∈dstsOf h (i+1+e):=λs W d hd=>by
     obtain⟨h1,h2⟩:=V s W;exact vo.2 ⟨s.i,bp.2 (by omega),by rw[h2.op];exact hd⟩
    have Vn:∀d,o.dst=some d->d∈dstsOf h (i+1+e):=λd hd=>vo.2 ⟨i,bp.2 (by omega),by rw[ho];exact hd⟩
    refine Pc (dq:=o.dst) (v:=v) (w:=X) (ox:=ox) (Ex:=Ex v) (vx:=vx v) F hB hk As W3 hX (LH v X Q) (R6 v X Q) hp yC (by rw[ho];rfl) hN yD hM hu V JY Ao (sH v X Q).1 (sH v X Q).2 (λl' a' w3 h1 h2 h3 h4=>K v X l' a' w3 Q h1 h2 h3 h4) _ _ _ _ X (Fr.refl _ _) rfl ⟨by simp[T.size],λj h1 h2=>?_,λi' j h1 h2 h3 h4=>?_,?_,?_,by rw[put_defers];exact T.EA,λs W hd dd Es=>?_,λdd u hl=>?_,λdd Es=>?_,λSa hd dd Es=>?_⟩ ⟨m+1,by omega,?_⟩
    .rw[aZ _ S,af (by omega)];exact T.late j (by omega) h2
    .rw[aZ _ S]at h1 ⊢
     by_cases e:j=i
     .rw[ah e]
     .rw[af e]
      by_cases e':i'=i
      .subst e';exact O o ho j h3 h4
      .rw[af e']at h1;exact T.down i' j h1 h2 h3 h4
    .rw[aZ _ S,ah rfl]
    .cases hd:o.dst<;>simp[Act.put]<;>exact T.sz
    .have SE:s.i≠i:=by have:=(V s W).1;omega
     rw[aZ _ S,af SE]at hd;have h0:=T.val s W hd dd Es;cases Qh:o.dst with
     |none=>exact h0
     |some d'=>
      have ny:d'≠dd:=λz=>by
       have:=eP.1 (eP.1 yC s.i (bp.2 (by have:=(V s W).1;omega))) i (bp.2 (by omega));rw[(V s W).2.op,ho]at this;simp only[fA,Es,Qh,z]at this
       simp at this;exact SE this
      simp only[Act.put];rw[ku ny];exact h0
    .have h0:=T.old dd u hl
     cases Qh:o.dst with
     |none=>exact h0
     |some d'=>
      have ny:d'≠dd:=λz=>yD dd u hl (by rw[<-z];exact Vn d' Qh)
      simp only[Act.put];rw[ku ny];exact h0
    .rw[Es];simp only[Act.put];rw[MS,ah (by rw[T.sz];exact hN dd (Vn dd Es))]
    .exfalso
     rw[aZ _ S,af (by omega)]at hd;have:=T.down (i+1) i hd (by omega) Qe (hX Sa).2.1;rw[cE S false true,f1]at this;cases this
    .have h0:l[i]=false:=by have:=f1;simpa [Array.getD,S]using this
     rw[zE];exact hc▸ck l.toList i S h0
  .exfalso
   have:=O _ (hU kU) q Qe (by
    rcases kR (q+e) i with z|z
    .exact hp.chain i (by omega) kU q (by omega)
    .have:i=q+1:=by omega
     rw[this];exact(hX (by omega)).2.1)
   rw[cE (by rw[T.size];exact Qe) false true,Y]at this;cases this
def BL(P:aI)(B N:Nat)(E:Env)(M:aX)(c:Nat)(hs:List Hint)(bs:iM)(ops:b9)(q e:Nat):Option (List Rec×Option (Nat×aJ)×cL):=
 bif pI ops (Region.before ops) (q+1+e)&&(dstsOf ops (q+1+e)).all (λd=>Nat.blt d N)then
  iX P B ops (Region.before ops) (cv E (dstsOf ops (q+1+e))) M c (List.range q) [] none ⟨[],⟨hs,M,c,[],[]⟩,bs,[],[]⟩
 else none
abbrev iq(P:aI)(B N:Nat)(E:Env)(M:aX)(c:Nat)(hs:List Hint)(bs:iM)(ops:b9)(q:Nat):Option (List Rec×Option (Nat×aJ)×cL):=BL P B N E M c hs bs ops q 0
def aL(t:eF):Array Oper:=match t with
 |.code (.region _ ops true)::_=>ops
 |_=>#[]
def behind(t:eF):List Item:=match t with
 |.code (.region _ _ true)::k=>k
 |_=>[]
def mU(t:eF):Bool:=match t with
 |.code (.region _ _ true)::_=>true
 |_=>false
structure PX where
 E1:List (Option Value)
 E2:List (Option Value)
 M:List aJ
 c:Nat
 dm:List (Bool×Bool)
 eU:List (Int×Nat)
 cT:List (Nat×Nat)
 ok:Bool
def HY(P:aI)(ops:b9)(Z:aX)(alt:List (Nat×List Hint))(r:Rec):Option (Value×cL):=match alt.find? (λp=>p.1==r.i)with
 |some (_,hs)=>wV P 0 ops r.E r.o (X0 hs (ro Z))
 |none=>none
def KM(P:aI)(ops:b9)(Z:aX)(alt:List (Nat×List Hint))(r:Rec):Bool:=match HY P ops Z alt r with
 |some (_,y)=>y.m.c==0&&r7 y
 |none=>false
def uk(P:aI)(ops:b9)(Z:aX)(alt:List (Nat×List Hint))(s:Bool)(r:Option (List Rec×Option (Nat×aJ)×cL)):List (Option (Value×List Addr)):=match r with
 |some (fK,_)=>fK.map λr=>(HY P ops Z alt r).map λp=>bif s then(p.1,p.2.m.eqs.map Prod.fst)else(r.v,p.2.m.eqs.map Prod.snd)
 |none=>[]
theorem mq(h:r7 x=true)(j:x.m.eqs.map Prod.fst=x.m.eqs.map Prod.snd):oN x:=by
 unfold r7 at h;simp only[cq,List.isEmpty_iff]at h;exact⟨fq _ j,by rw[h.2];simp,by rw[h.1.1];simp,by rw[h.1.2];simp⟩
def Bp(P:aI)(Z:aX)(alt:List (Nat×List Hint))(ops:b9)(q:Nat)(E:Env)(M:aX)(c c0:Nat)(Gk Gj:aP)(r:Option (List Rec×Option (Nat×aJ)×cL)):Option PX:=match r with
 |some (fK,al,y)=>some ⟨Gk.map (look (iB (Region.before ops) q fK++cv E (dstsOf ops (q+1)))),Gj.map (look (kO fK (cv E (dstsOf ops (q+1))))),O8 (AW c al-c0) (Gf M al),AW c al,y.dm,y.eU,y.m.cT,
  Va (Region.before ops) q al&&fK.all λr=>iC (Region.before ops) q r.i||(pG P r||KM P ops Z alt r)⟩
 |none=>none
def Mh(f:Addr×Addr->Addr)(r:Option (List Rec×Option (Nat×aJ)×cL)):List Addr:=match r with
 |some (_,_,y)=>y.m.eqs.map f
 |none=>[]
theorem bkP{alt:List (Nat×List Hint)}(F:aC P main (DX Ok) Ψ)(GL:P.follows .mixedOrders=true)(hB:HB B Ok)(nA:b.kind≠.early){h:b9}{id:Nat}(As:e<=1){hs:List Hint}{bs:iM}{m:List Rec}(ho:h[q]? =some o)(X:BL P B N E M c hs bs h q e=some (m,al,y))(hM:oN y)(h8:Va (Region.before h) q al=true)(h9:(m.all λr=>iC (Region.before h) q r.i||(pG P r||KM P h Z alt r))=true)(halt:uk P h Z alt true (some (m,al,y))=uk P h Z alt false (some (m,al,y)))(S:St Ok B N E M c a w)(sH:∀v L,Post v L->Sat Ok L Z/\B<=L.heap.size)(hX:e=1->h[q+1]? =some ox/\iC (Region.before h) (q+1) q=true/\ox.guard=none)(LH:∀v w,Post v w->e=1->∀a,aN (Ex v) N a->∀w,(execOp a.eval ox).run P w=.ok (.value (vx v)) w/\raw P a ox w=#[])(R6:∀v w,Post v w->e=1->∀d u,look (Ex v) d=some u->(∃s∈m,iC (Region.before h) (q+1) s.i=true/\s.o.dst=some d/\s.v=u)\/look (cv E (dstsOf h (q+1+e))) d=some u\/(o.dst=some d/\v=u))(U:∀a1 w1 rest,aN (iB (Region.before h) q m++cv E (dstsOf h (q+1+e))) N a1->Sat Ok w1 (Gf M al)->w1.heap.size=B+AW c al->(∀v L,Post v L->Ψ (G (b.at (a1.put o.dst v) (.inRegion h rest::k)) cs) L)->Ψ (G (b.at a1 (.inRegion h (q::rest)::k)) cs) w1)(K:(∀r∈m,r.i<q)->∀v L l a' w3,Post v L->KV h (Region.before h) q e N a.defers (cv E (dstsOf h (q+1+e))) m o.dst v ox (vx v) l a'->(∀i,i<q+1+e->l.getD i false=true)->Fr (λ_=>False) L w3->w3.heap.size=L.heap.size->Ψ (G (b.at a' (.inRegion h (bM (q+1+e) (h.size-(q+1+e)))::k)) cs) w3):Ψ (G (b.at a (.code (.region id h true)::k)) cs) w:=by
 unfold BL at X;obtain⟨hc,Q⟩:=aD X;simp only[cq,eP]at hc;obtain⟨W9,hN⟩:=hc;obtain⟨hp,yC⟩:=pH W9;obtain⟨hu,_,N9,_,qW,Y,O⟩:=iW (List.range q) [] none _ m al y Q uB (by simp) (by simp) (by simp)
 have W:∀r∈m,r.i<q/\Spec P B h (Region.before h) (cv E (dstsOf h (q+1+e))) M c m al y r:=λr T=>by
  rcases O r T with z|⟨z1,z2⟩
  .cases z
  .exact⟨bp.1 z1,z2⟩
 have DL:∀p R,al=some (p,R)->p<q:=λp R z=>by
  rcases qW p R z with y|y
  .cases y
  .exact bp.1 y
 have OR:My Ok B h (Region.before h) (q+1+e) N a.defers (cv E (dstsOf h (q+1+e))) M c m al w (Array.replicate h.size false) a w:=by
  refine⟨by simp,λj _ hj=>by simp[Array.getD,hj],λi j h1 h2 _ _=>?_,S.env.sz,rfl,λr _ h1=>?_,λd v hl=>S.env.val d v (gP _ _ _ _ hl).1,Fr.refl _ _,.inr ⟨λp R _=>?_,S.sat,S.sz⟩⟩
  .simp[Array.getD,h2]at h1
  .exfalso;simp only[Array.getD]at h1;split at h1<;>simp at h1
  .simp only[Array.getD];split<;>simp
 refine F.step _ _ rfl λd=>⟨_,_,_,stepG_region_draw,F.idle _ _,?_,λz v _ _=>stepG_region_draw⟩
 show Ψ _ (w.at (d+1))
 refine F.at' _ _ _ ?_;simp only[Region.schedule,GL,uv,if_true,Region.linearise]
 exact Pd (Post:=Post) (ox:=ox) (Ex:=Ex) (vx:=vx) (e:=e) F hB nA As ho hX LH R6 hp yC (λe he=>by simpa using hN e he) (λe v hl=>(gP _ _ _ _ hl).2) hM hu W DL (λi hi=>Y i (bp.2 hi)) (Z:=Z) (λr T=>by
  have:=eP.1 h9 r T;simp only[Bf]at this;refine this.imp_right λz=>z.imp_right λz=>?_
  have hm:=List.map_inj_left.1 halt r T;unfold KM at z
  split at z
  .rename_i v' y' V
   simp only[cq,beq_iff_eq]at z;rw[V]at hm;simp only[fy,cond_true,cond_false,Option.some.injEq,Prod.mk.injEq]at hm;unfold HY at V
   split at V
   .exact⟨_,y',by rw[<-hm.1];exact V,mq z.2 hm.2,z.1⟩
   .cases V
  .cases z) h8 sH U (K λr T=>(W r T).1) _ _ _ _ _ OR (by have:=hp.le;simp[Array.getD];omega) ⟨0,by simp,by simp⟩
theorem bkO(Z:aX)(alt:List (Nat×List Hint))(F:aC P main (DX Ok) Ψ)(GL:P.follows .mixedOrders=true)(hB:HB B Ok)(hk:b.kind=.normal){todo:eF}(q:Nat)(R:List Hint)(bs:iM)(c0:Nat)(E1 T:Env)(M':aX)(c':Nat)(dm:iM)(eU:List (Int×Nat))(m:List (Nat×Nat))(ht:mU todo=true)(ho:(aL todo)[q]? =some o)(h:Bp P Z alt (aL todo) q E M c c0 (E1.map Prod.fst) (T.map Prod.fst) (iq P B N E M c R bs (aL todo) q)=some ⟨E1.map (λp=>some p.2),T.map (λp=>some p.2),M',c',dm,eU,m,true⟩)(hq:Mh Prod.fst (iq P B N E M c R bs (aL todo) q)=Mh Prod.snd (iq P B N E M c R bs (aL todo) q))(Qj:∀d,o.dst=some d->d∉T.map Prod.fst)(halt:uk P (aL todo) Z alt true (iq P B N E M c R bs (aL todo) q)=uk P (aL todo) Z alt false (iq P B N E M c R bs (aL todo) q))(Eu:∀p∈dm,p.1=p.2)(SP:∀p∈eU,0<=p.1/\p.1<(p.2:Int))(OK:∀p∈m,p.1<p.2)(S:St Ok B N E M c a w)(sH:∀v j,Post v j->Sat Ok j Z/\B<=j.heap.size)(U:∀X w1 rest,St Ok B N E1 M' c' X w1->(∀v j,Post v j->Ψ (G (b.at (X.put o.dst v) (.inRegion (aL todo) rest::behind todo)) cs) j)->Ψ (G (b.at X (.inRegion (aL todo) (q::rest)::behind todo)) cs) w1)(K:∀v j a2 V,Post v j->aN ((match o.dst with|some d=>[(d,v)]|none=>[])++T) N a2->a2.defers=a.defers->Fr (λ_=>False) j V->V.heap.size=j.heap.size->Ψ (G (b.at a2 (.inRegion (aL todo) (bM (q+1) ((aL todo).size-(q+1)))::behind todo)) cs) V):Ψ (G (b.at a todo) cs) w:=by
 have nA:b.kind≠.early:=by rw[hk];decide
 have O:∃id,todo=.code (.region id (aL todo) true)::behind todo:=by
  unfold mU at ht
  split at ht
  .exact⟨_,rfl⟩
  .cases ht
 obtain⟨id,O⟩:=O;generalize v9:aL todo=ops at*;generalize OL:behind todo=k at*;cases Q:iq P B N E M c R bs ops q with
 |none=>rw[Q]at h;cases h
 |some rr=>
  obtain⟨fK,al,y⟩:=rr;rw[Q]at h hq halt;simp only[Bp,Option.some.injEq,PX.mk.injEq,cq]at h;obtain⟨h1,h2,h3,h4,h5,h6,h7,h8,h9⟩:=h;have hM:oN y:=⟨fq _ hq,by rw[h7];exact OK,by rw[h5];exact Eu,by rw[h6];exact SP⟩;rw[O];refine bkP (Post:=Post) (ox:=o) (Ex:=λ_=>[]) (vx:=λv=>v) F GL hB nA (iN 1) ho Q hM h8 h9 halt S sH (λz=>by cases z) (λ_ _ _ z=>by cases z) (λ_ _ _ z=>by cases z) (λX w1 rest Y L z3 z4=>?_) (λue v j l a' V Y L z3 z4 z5=>?_)
  .exact U X w1 rest ⟨⟨Y.sz,λe u hl=>Y.val e u (eZ E1 _ h1 e u hl)⟩,by rw[<-h3];exact L.fg _,by rw[<-h4];exact z3⟩ z4
  .refine K v j a' V Y ⟨L.sz,λe u hl=>?_⟩ L.EA z4 z5
   have W:∀e u,look T e=some u->a'.tmps[e]? =some u:=λe u hl=>by
    have:=eZ T _ h2 e u hl;rcases lT _ _ _ _ this with ⟨s,s1,s2,s3⟩|z
    .rw[<-s3];exact L.val s s1 (z3 s.i (by have:=ue s s1;omega)) e s2
    .exact L.old e u z
   cases hd:o.dst with
   |none=>rw[hd]at hl;exact W e u hl
   |some dq=>
    rw[hd]at hl;simp only[xC,List.nil_append,look]at hl;cases he:(dq==e)with
    |true=>rw[he]at hl;simp at he hl;subst he;subst hl;exact L.own _ hd
    |false=>rw[he]at hl;exact W e u hl
end
def upd{α:Type}(f:Nat->α)(i:Nat)(x:α):Nat->α:=λj=>if j=i then x else f j
theorem Sat.re{Ok:dw}(h:Sat Ok w M)(p:Nat)(V:nth M p=some r)(R:r.vs=[])(C:fH)(he:∀j,j<r.n->∀f,f<r.k->(C j).getD f undef=r.vl j f):Sat Ok w (cD M p {r with vl:=λj f=>(C j).getD f undef}):=by
 have key:∀q s,nth (cD M p {r with vl:=λj f=>(C j).getD f undef}) q=some s->∃m,nth M q=some m/\s.ad=m.ad/\s.n=m.n/\s.k=m.k/\s.wr=m.wr/\s.row=m.row/\∀j,m.has j->s.get j=m.get j:=λq s u=>by
  rw[dP]at u
  split at u
  .rename_i e;subst e;rw[V]at u;simp at u;subst u
   refine⟨r,V,rfl,rfl,rfl,rfl,rfl,λj hj=>?_⟩;simp only[aJ.get,R];exact he j.1 hj.1 j.2 hj.2
  .exact⟨s,u,rfl,rfl,rfl,rfl,rfl,λ_ _=>rfl⟩
 refine⟨λq s u j hj=>?_,λq s u j hj=>?_,λq s U s' u S hw j j' hj K e=>?_,λq s u g e n W=>?_⟩
 .obtain⟨m,z,e1,e2,F,L,Q,O⟩:=key q s u
  have G:m.has j:=⟨by rw[<-e2];exact hj.1,by rw[<-F];exact hj.2⟩;rw[e1,O j G];exact h.val q m z j G
 .obtain⟨m,z,e1,e2,F,L,Q,O⟩:=key q s u
  rw[e1,L];exact h.ok q m z j ⟨by rw[<-e2];exact hj.1,by rw[<-F];exact hj.2⟩
 .obtain⟨m,z,e1,e2,F,L,Q,O⟩:=key q s u
  obtain⟨t0,g0,f1,f2,f3,f4,f5,f6⟩:=key U s' S;rw[e1,f1]at e;exact h.sep q m U t0 z g0 (by rw[<-L];exact hw) j j' ⟨by rw[<-e2];exact hj.1,by rw[<-F];exact hj.2⟩ ⟨by rw[<-f2];exact K.1,by rw[<-f3];exact K.2⟩ e
 .obtain⟨m,z,e1,e2,F,L,Q,O⟩:=key q s u
  rw[Q]at W;obtain⟨T,Y,X⟩:=h.row q m z g e n W;exact⟨⟨by rw[e2];exact T.1,by rw[F];exact T.2⟩,by rw[e1];exact Y,X⟩
def lG(P:aI)(t e k bytes:Nat):Bool:=match P.underlying t,P.info? e with
 |some (.slice e'),some inf=>e'==e&&inf.size==k&&inf.bytes==bytes&&Nat.blt 0 k&&(match inf.zero with
  |some z=>z.cells.size==k
  |none=>false)
 |_,_=>false
theorem kC{k:Nat}(h:lG P t e k bytes=true):∃inf z,P.underlying t=some (.slice e)/\P.info? e=some inf/\inf.zero=some z/\inf.size=k/\inf.bytes=bytes/\z.cells.size=k/\0<k:=by
 unfold lG at h
 split at h
 .rename_i u inf s p
  simp only[cq]at h;obtain⟨⟨⟨⟨L,K⟩,G⟩,F⟩,j⟩:=h;have e1:u=e:=by simpa using L
  split at j
  .rename_i z m
   exact⟨inf,z,by rw[<-e1];exact s,p,m,by simpa using K,by simpa using G,by simpa using j,by simpa using F⟩
  .cases j
 .cases h
def aQ(t:eF):Oper:=match t with
 |.inRegion ops (i::_)::_=>(ops[i]?).getD default
 |_=>default
def jY(t:eF):List Item:=match t with
 |.inRegion ops (_::r)::k=>.inRegion ops r::k
 |_=>[]
def lm(t:eF):Bool:=match t with
 |.inRegion ops (i::_)::_=>(ops[i]?).isSome
 |_=>false
theorem dO{t:eF}(h:lm t=true):∃j i r k,t=.inRegion j (i::r)::k/\j[i]? =some (aQ t)/\jY t=.inRegion j r::k:=by
 unfold lm at h
 split at h
 .rename_i j i r k
  obtain⟨o,ho⟩:=Option.isSome_iff_exists.1 h;exact⟨j,i,r,k,rfl,by simp only[aQ,ho,cK],rfl⟩
 .cases h
def oM(o:Oper)(s x d t:Nat):Bool:=o.guard.isNone&&(match o.dst with|some d'=>d'==d|none=>false)&&(match o.op with
 |.call c=>(match c.callee,c.args.toList,c.argTypes.toList with
  |.builtin .append,[.tmp s',.tmp x'],[t',Q6]=>s'==s&&x'==x&&t'==t&&Q6==t
  |_,_,_=>false)
 |_=>false)
theorem iZ{s x:Nat}(h:oM o s x d t=true):o.guard=none/\o.dst=some d/\o.op=.call {callee:=.builtin .append,args:=#[.tmp s,.tmp x],argTypes:=#[t,t]}:=by
 unfold oM at h;simp only[cq]at h;obtain⟨⟨F,u⟩,j⟩:=h
 have z:o.guard=none:=by
  cases z:o.guard with
  |none=>rfl
  |some p=>rw[z]at F;cases F
 refine⟨z,?_,?_⟩
 .split at u
  .rename_i U K;rw[K];simp at u;rw[u]
  .cases u
 .split at j
  .rename_i c ho
   obtain⟨cl,args,ats⟩:=c
   simp only at j
   split at j
   .rename_i G x' T m b2 L
    simp only[cq,beq_iff_eq]at j;obtain⟨⟨⟨S,R⟩,Q⟩,O⟩:=j;subst S;subst R;subst Q;subst O;have c2:args=#[.tmp G,.tmp x']:=by rw[<-Array.toArray_toList (xs:=args),b2]
    have c3:ats=#[m,m]:=by rw[<-Array.toArray_toList (xs:=ats),L]
    rw[ho,c2,c3]
   .cases j
  .cases j
structure MA(Ok:dw)(w w':aj)(M:aX)(p p1 k:Nat)(e:TypeId)(sa:eN)(len:Nat)(vl:fH)(news:iG)(g' cap':Nat)(QX vs':fH):Prop where
 sat:Sat Ok w' (cD (cD M p (vR (some ⟨g',0,none⟩) k QX (len+1) cap' e)) p1 (sR (some ⟨g',0,none⟩) k vs' (len+1) cap'))
 vc:Vc Ok (some ⟨g',0,none⟩) (len+1) cap'
 old:∀j,j<len->QX j=vl j
 new:QX len=news
 size:w.heap.size<=w'.heap.size
 blk:sa=some ⟨g',0,none⟩\/w.heap.size<=g'
theorem MA.upd{α:Type}{C:α->List Value}{ag:Nat->α}{x:α}{Ok:dw}{w w':aj}{M:aX}{p s k:Nat}{e:TypeId}{sa:eN}{len g' cap':Nat}{m vs':fH}(A:MA Ok w w' M p s k e sa len (λj=>C (ag j)) (C x) g' cap' m vs')(j:Nat)(hj:j<len+1)(f:Nat)(_:f<k):(C (upd ag len x j)).getD f undef=(m j).getD f undef:=by
 congr 1
 by_cases h:j=len
 .subst h;rw[A.new];simp[Go.Proofs.YtobagnjnbmgidaaGreatDoor.upd]
 .rw[A.old j (by omega)];simp[Go.Proofs.YtobagnjnbmgidaaGreatDoor.upd,h]
theorem MA.keep{Ok:dw}{w w' j:aj}{M:aX}{p m k:Nat}{e:TypeId}{sa:eN}{len g' cap':Nat}{vl h vs':fH}{news:iG}(A:MA Ok w w' M p m k e sa len vl news g' cap' h vs')(s:Fr (λ_=>False) w' j):MA Ok w j M p m k e sa len vl news g' cap' h vs':=
 ⟨A.sat.keep s,A.vc,A.old,A.new,aT A.size s.size,A.blk⟩
theorem Sat.dD{Ok:dw}(h:Sat Ok w M)(p:∀i r,nth Z i=some r->r.wr=false/\∃k,nth M k=some r):Sat Ok w Z:=by
 refine⟨λi r m j hj=>?_,λi r m j hj=>?_,λi r F r' m u s=>?_,λi r m g e n z=>?_⟩
 .obtain⟨_,k,hk⟩:=p i r m;exact h.val k r hk j hj
 .obtain⟨_,k,hk⟩:=p i r m;exact h.ok k r hk j hj
 .rw[(p i r m).1]at s;cases s
 .obtain⟨_,k,hk⟩:=p i r m;exact h.row k r hk g e n z
section
variable{Ok:dw}{Ψ:gi}
theorem Y2(F:aC P main (DX Ok) Ψ)(hB:HB B Ok)(hk:b.kind=.normal){t:eF}(s x d ty e k bytes p O p2:Nat)(R:lG P ty e k bytes=true){vl:fH}(ho:lm t=true)(W:oM (aQ t) s x d ty=true)(hd:d<N)(hs:look E s=some (.slice sa len cap))(hx:look E x=some (.slice (some ⟨nb,0,none⟩) 1 1))(hp:nth M p=some (vR sa k vl len cap e))(V:nth M O=some (sR sa k vs len cap))(T:p≠O)(U:nth M p2=some (bR nb news))(hv:Vc Ok sa len cap)(Q:∀j,j<len->(vl j).length=k)(hl:news.length=k)(h1:∀u∈news,u.oneCell'=true)(Y:B<=nb)(Mc:len+1<=maxLen)(h:(len+1)*bytes<=140737488355328)(S:St Ok B N E M c a w)(K:∀g' cap' m vs' a' w',MA Ok w w' M p O k e sa len vl news g' cap' m vs'->aN ((d,.slice (some ⟨g',0,none⟩) (len+1) cap')::E) N a'->a'.defers=a.defers->Ψ (G (b.at a' (jY t)) cs) w'):Ψ (G (b.at a t) cs) w:=by
 obtain⟨ops,i,r,kk,ht,X,hn⟩:=dO ho;obtain⟨g1,g2,g3⟩:=iZ W;obtain⟨inf,z,y1,y2,y3,y4,y5,y6,y7⟩:=kC R;have L:∀q v,look E q=some v->a.eval (.tmp q)=v:=λq v hq=>by rw[S.env.eval (by simp[kn,hq])];simp[ev,hq]
 rw[ht];refine F.Us hB X g1 hk (.tmp s) (.tmp x) ty e g3 inf z y1 y2 y3 y4 y5 y6 y7 (L s _ hs) (L x _ hx) S.sat hp V T hv Q U hl h1 Y (by rw[S.sz];exact Bm _ _) Mc h λg' cap' m vs' w' q1 q2 q3 q4 q5 q6=>?_
 rw[<-hn,g2];exact K g' cap' m vs' _ w' ⟨q1,q2,q3,q4,q5,q6⟩ (S.env.put hd) (put_defers _ _ _)
theorem VE(Z:aX)(alt:List (Nat×List Hint))(F:aC P main (DX Ok) Ψ)(GL:P.follows .mixedOrders=true)(hB:HB B Ok)(hk:b.kind=.normal)(q:Nat)(V:List Hint)(bs:iM)(E2:Env)(ed:List aJ->List aJ)(c':Nat)(dm:iM)(eU:List (Int×Nat))(O:List (Nat×Nat))(s x d ty e k bytes p W p2:Nat)(GC:lG P ty e k bytes=true){vl:fH}(ht:mU (pc P f I H D)=true)(R:((aL (pc P f I H D))[q]?).map (λo=>oM o s x d ty)=some true)(h:Bp P Z alt (aL (pc P f I H D)) q E M c c [s,x] (E2.map Prod.fst) (iq P B N E M c V bs (aL (pc P f I H D)) q)=some ⟨[some (.slice sa len cap),some (.slice (some ⟨nb,0,none⟩) 1 1)],E2.map (λp=>some p.2),ed M,c',dm,eU,O,true⟩)(hq:Mh Prod.fst (iq P B N E M c V bs (aL (pc P f I H D)) q)=Mh Prod.snd (iq P B N E M c V bs (aL (pc P f I H D)) q))(halt:uk P (aL (pc P f I H D)) Z alt true (iq P B N E M c V bs (aL (pc P f I H D)) q)=uk P (aL (pc P f I H D)) Z alt false (iq P B N E M c V bs (aL (pc P f I H D)) q))(hZ:∀i r,nth Z i=some r->r.wr=false/\∃k,k≠p/\k≠W/\nth (ed M) k=some r)(X:(s==x)=false)(Y:(E2.map Prod.fst).contains d=false)(hd:d<N)(Qf:.inRegion (aL (pc P f I H D)) (bM (q+1) ((aL (pc P f I H D)).size-(q+1)))::behind (pc P f I H D)=pc P f (I+1) H (D++[q+1]))(Eu:∀p∈dm,p.1=p.2)(SP:∀p∈eU,0<=p.1/\p.1<(p.2:Int))(OK:∀p∈O,p.1<p.2)(S:St Ok B N E M c a w)(hp:nth (ed M) p=some (vR sa k vl len cap e))(Vg:nth (ed M) W=some (sR sa k vs len cap))(W6:p≠W)(Qg:nth (ed M) p2=some (bR nb news))(hv:Vc Ok sa len cap)(Qc:∀j,j<len->(vl j).length=k)(hl:news.length=k)(h1:∀u∈news,u.oneCell'=true)(pO:B<=nb)(Mc:len+1<=maxLen)(U:(len+1)*bytes<=140737488355328)(K:∀g' cap' m vs' a' w' Q,MA Ok Q w' (ed M) p W k e sa len vl news g' cap' m vs'->Q.heap.size=B+c'->aN ((d,.slice (some ⟨g',0,none⟩) (len+1) cap')::E2) N a'->a'.defers=a.defers->Ψ (G (b.at a' (pc P f (I+1) H (D++[q+1]))) cs) w'):Ψ (G (b.at a (pc P f I H D)) cs) w:=by
 cases T:(aL (pc P f I H D))[q]? with
 |none=>rw[T]at R;cases R
 |some o=>
  rw[T]at R;obtain⟨g1,g2,g3⟩:=iZ (Option.some.inj R);obtain⟨inf,z,y1,y2,y3,y4,y5,y6,y7⟩:=kC GC;refine bkO (Post:=λv w'=>∃g' cap' m vs' Q,v=.slice (some ⟨g',0,none⟩) (len+1) cap'/\Q.heap.size=B+c'/\MA Ok Q w' (ed M) p W k e sa len vl news g' cap' m vs') Z alt F GL hB hk q V bs c [(s,.slice sa len cap),(x,.slice (some ⟨nb,0,none⟩) 1 1)] E2 (ed M) c' dm eU O ht T h hq (λd' OH=>?_) halt Eu SP OK S (λv w2 L=>?_) (λa1 Q rest S1 KK=>?_) (λv w2 a2 w3 L hA wX SY gQ=>?_)
  .rw[g2]at OH;cases OH
   intro hm;rw[MH.2 hm]at Y;cases Y
  .obtain⟨g',cap',m,vs',Q,rfl,z2,z3⟩:=L
   refine⟨z3.sat.dD λi r hr=>?_,by have:=z3.size;omega⟩;obtain⟨u1,kk,u2,u3,u4⟩:=hZ i r hr;exact⟨u1,kk,by rw[dP,af u3,dP,af u2];exact u4⟩
  .have e1:a1.eval (.tmp s)=.slice sa len cap:=by rw[S1.env.eval (by simp[kn,look])];simp[ev,look]
   have e2:a1.eval (.tmp x)=.slice (some ⟨nb,0,none⟩) 1 1:=by rw[S1.env.eval (by simp[kn,look,X])];simp[ev,look,X]
   refine F.Us hB T g1 hk (.tmp s) (.tmp x) ty e g3 inf z y1 y2 y3 y4 y5 y6 y7 e1 e2 S1.sat hp Vg W6 hv Qc Qg hl h1 pO (by rw[S1.sz];exact Bm _ _) Mc U λg' cap' m vs' w' q1 q2 q3 q4 q5 q6=>?_
   exact KK _ _ ⟨g',cap',m,vs',Q,rfl,S1.sz,q1,q2,q3,q4,q5,q6⟩
  .obtain⟨g',cap',m,vs',Q,rfl,z2,z3⟩:=L
   rw[Qf];rw[g2]at hA;exact K g' cap' m vs' a2 w3 Q (z3.keep SY) z2 hA wX
end
section
variable{Ok:dw}{Ψ:gi}
abbrev uH(P:aI)(B N:Nat)(E:Env)(M:aX)(c:Nat)(hs:List Hint)(bs:iM)(ops:b9)(q:Nat):Option (List Rec×Option (Nat×aJ)×cL):=BL P B N E M c hs bs ops q 1
def K6(P:aI)(Z:aX)(alt:List (Nat×List Hint))(ops:b9)(q:Nat)(E:Env)(M:aX)(c c0:Nat)(Gk Gj RM:aP)(r:Option (List Rec×Option (Nat×aJ)×cL)):Option (PX×List (Option Value)×Bool):=match r with
 |some (fK,al,y)=>some (⟨Gk.map (look (iB (Region.before ops) q fK++cv E (dstsOf ops (q+2)))),Gj.map (look (kO fK (cv E (dstsOf ops (q+2))))),O8 (AW c al-c0) (Gf M al),AW c al,y.dm,y.eU,y.m.cT,
  Va (Region.before ops) q al&&fK.all λr=>iC (Region.before ops) q r.i||(pG P r||KM P ops Z alt r)⟩,RM.map (look (iB (Region.before ops) (q+1) fK++cv E (dstsOf ops (q+2)))),iC (Region.before ops) (q+1) q)
 |none=>none
theorem bkX(Z:aX)(alt:List (Nat×List Hint))(F:aC P main (DX Ok) Ψ)(GL:P.follows .mixedOrders=true)(hB:HB B Ok)(hk:b.kind=.normal){todo:eF}(q:Nat)(Y:List Hint)(bs:iM)(c0:Nat)(E1 X W:Env)(ed:List aJ->List aJ)(c':Nat)(dm:iM)(eU:List (Int×Nat))(R:List (Nat×Nat))(dq dx:Nat)(vx:Value->Value)(ht:mU todo=true)(ho:(aL todo)[q]? =some o)(SA:(aL todo)[q+1]? =some ox)(Qh:o.dst=some dq)(R7:ox.dst=some dx)(N6:ox.guard=none)(Ca:lU ox=false)(WB:∀v,ox.op.operands.all (kn ((dq,v)::W))=true)(LF:∀v w,Post v w->cS P (execOp (ev ((dq,v)::W)) ox)=some (.value (vx v)))(h:K6 P Z alt (aL todo) q E M c c0 (E1.map Prod.fst) (X.map Prod.fst) (W.map Prod.fst) (uH P B N E M c Y bs (aL todo) q)=some (⟨E1.map (λp=>some p.2),X.map (λp=>some p.2),ed M,c',dm,eU,R,true⟩,W.map (λp=>some p.2),true))(hq:Mh Prod.fst (uH P B N E M c Y bs (aL todo) q)=Mh Prod.snd (uH P B N E M c Y bs (aL todo) q))(Qj:dq∉X.map Prod.fst/\dx∉X.map Prod.fst/\dq≠dx)(halt:uk P (aL todo) Z alt true (uH P B N E M c Y bs (aL todo) q)=uk P (aL todo) Z alt false (uH P B N E M c Y bs (aL todo) q))(Eu:∀p∈dm,p.1=p.2)(SP:∀p∈eU,0<=p.1/\p.1<(p.2:Int))(OK:∀p∈R,p.1<p.2)(S:St Ok B N E M c a w)(sH:∀v j,Post v j->Sat Ok j Z/\B<=j.heap.size)(U:∀a1 w1 rest,St Ok B N E1 (ed M) c' a1 w1->(∀v j,Post v j->Ψ (G (b.at (a1.put o.dst v) (.inRegion (aL todo) rest::behind todo)) cs) j)->Ψ (G (b.at a1 (.inRegion (aL todo) (q::rest)::behind todo)) cs) w1)(K:∀v j a2 w3,Post v j->aN ((dq,v)::(dx,vx v)::X) N a2->a2.defers=a.defers->Fr (λ_=>False) j w3->w3.heap.size=j.heap.size->Ψ (G (b.at a2 (.inRegion (aL todo) (bM (q+2) ((aL todo).size-(q+2)))::behind todo)) cs) w3):Ψ (G (b.at a todo) cs) w:=by
 have nA:b.kind≠.early:=by rw[hk];decide
 have T:∃id,todo=.code (.region id (aL todo) true)::behind todo:=by
  unfold mU at ht
  split at ht
  .exact⟨_,rfl⟩
  .cases ht
 obtain⟨id,T⟩:=T;generalize v9:aL todo=ops at*;generalize OL:behind todo=k at*;cases V:uH P B N E M c Y bs ops q with
 |none=>rw[V]at h;cases h
 |some rr=>
  obtain⟨fK,al,y⟩:=rr;rw[V]at h hq halt;simp only[K6,Option.some.injEq,Prod.mk.injEq,PX.mk.injEq,cq]at h;obtain⟨⟨h1,h2,h3,h4,h5,h6,h7,h8,h9⟩,Cg,Ez⟩:=h;have hM:oN y:=⟨fq _ hq,by rw[h7];exact OK,by rw[h5];exact Eu,by rw[h6];exact SP⟩;rw[T];refine bkP (Post:=Post) (ox:=ox) (Ex:=λv=>(dq,v)::W) (vx:=vx) F GL hB nA (az 1) ho V hM h8 h9 halt S sH (λ_=>⟨SA,Ez,N6⟩) (λv j Oi _ a hA w=>?_) (λv j _ _ e u hl=>?_) (λa1 w1 rest z1 Q z3 z4=>?_) (λue v j l a' w3 z1 Q z3 z4 z5=>?_)
  .have m:execOp a.eval ox=execOp (ev ((dq,v)::W)) ox:=execOp_congr Ca λy hy=>hA.eval (zC.1 (WB v) y hy)
   have uQ:=fP _ _ (LF v j Oi);exact⟨by rw[m,<-fu (es:=#[]),uQ],by unfold raw Sem.events;rw[m,uQ]⟩
  .simp only[look]at hl
   cases O:(dq==e)with
   |true=>rw[O]at hl;simp at O hl;subst O;subst hl;exact .inr (.inr ⟨Qh,rfl⟩)
   |false=>
    rw[O]at hl;rcases lS _ _ _ _ (eZ W _ Cg e u hl)with z|z
    .exact .inl (jO _ _ fK e u z)
    .exact .inr (.inl z)
  .exact U a1 w1 rest ⟨⟨z1.sz,λe u hl=>z1.val e u (eZ E1 _ h1 e u hl)⟩,by rw[<-h3];exact Q.fg _,by rw[<-h4];exact z3⟩ z4
  .refine K v j a' w3 z1 ⟨Q.sz,λe u hl=>?_⟩ Q.EA z4 z5
   have hE2:∀e u,look X e=some u->a'.tmps[e]? =some u:=λe u hl=>by
    have:=eZ X _ h2 e u hl;rcases lT _ _ _ _ this with ⟨s,s1,s2,s3⟩|z
    .rw[<-s3];exact Q.val s s1 (z3 s.i (by have:=ue s s1;omega)) e s2
    .exact Q.old e u z
   simp only[look]at hl;cases O:(dq==e)with
   |true=>rw[O]at hl;simp at O hl;subst O;subst hl;exact Q.own _ Qh
   |false=>
    rw[O]at hl;cases L:(dx==e)with
    |true=>rw[L]at hl;simp at L hl;subst L;subst hl;exact Q.ext rfl (z3 (q+1) (by omega)) _ R7
    |false=>rw[L]at hl;exact hE2 e u hl
end
def opsOf(t:eF):Array Oper:=match t with
 |.inRegion ops _::_=>ops
 |_=>#[]
def YD(E:Env)(t:eF):Bool:=match (aQ t).guard with
 |none=>true
 |some (j,want)=>match ((opsOf t)[j]?).bind (·.dst)with
  |some d=>(match look E d with
   |some (.bool u)=>u==want
   |_=>false)
  |none=>false
theorem AH{t:eF}{m:b9}{r:aP}(h:YD E t=true)(L:aN E N a)(G:t=.inRegion m (i::r)::k):Region.wanted (aQ t) (yielded m a.tmps)=true:=by
 have ho:opsOf t=m:=by rw[G];rfl
 unfold YD at h
 split at h
 .rename_i s;simp[Region.wanted,s]
 .rename_i j want s
  split at h
  .rename_i d K
   split at h
   .rename_i u F
    have p:u=want:=by simpa using h
    have z:yielded m a.tmps j=some u:=by
     unfold yielded;rw[<-ho,K];simp only[fA];rw[L.val d _ F]
    simp[Region.wanted,s,z,p]
   .cases h
  .cases h
def l5(P:aI)(E:Env)(t:eF)(d:Nat):Option (Nat×Array Value):=
 bif lm t&&!lU (aQ t)&&YD E t&&(aQ t).op.operands.all (kn E)&&(match (aQ t).dst with|some d'=>d'==d|none=>false)then
  (match cS P (execOp (ev E) (aQ t))with
  |some (.enter f args)=>some (f,args)
  |_=>none)
 else none
section
variable{Ok:dw}{Ψ:gi}
theorem AX(F:aC P main (DX Ok) Ψ)(hk:b.kind=.normal){m:aP}(d h:Nat)(args:fW)(hc:l5 P E (pc P f n bs m) d=some (h,args))(Y:jY (pc P f n bs m)=pc P f (n+1) bs m)(hd:d<N)(S:St Ok B N E M c a w)(K:∀cf,(∀(p:gi) v w',(∀a',aN ((d,v)::E) N a'->a'.defers=a.defers->p (G (b.at a' (pc P f (n+1) bs m)) cs) w')->p (G (cf.finish v) cs) w')->Ψ (G (Frame.enter P h args .normal) (cf::cs)) w):Ψ (G (b.at a (pc P f n bs m)) cs) w:=by
 obtain⟨U,hc⟩:=aD hc;simp only[cq,mF]at U;obtain⟨⟨⟨⟨h1,h2⟩,h3⟩,h4⟩,O⟩:=U;obtain⟨Q,i,r,kk,V,ho,R⟩:=dO h1
 split at hc
 .rename_i f' s X
  simp only[Option.some.injEq,Prod.mk.injEq]at hc;obtain⟨rfl,rfl⟩:=hc;have hg:=AH h3 S.env V
  have L:(aQ (pc P f n bs m)).dst=some d:=by
   split at O
   .rename_i d' T;rw[T];simp at O;rw[O]
   .cases O
  have j:execOp a.eval (aQ (pc P f n bs m))=execOp (ev E) (aQ (pc P f n bs m)):=execOp_congr h2 λy W=>S.env.eval (zC.1 h4 y W)
  have u:=fP _ _ X
  have z:∀v,(b.at a (.inRegion Q (i::r)::kk)).finish v=b.at (a.put (some d) v) (pc P f (n+1) bs m):=λv=>by
   rw[bO,ho,<-Y,R];simp only[fA,L]
  generalize aQ (pc P f n bs m)=o at*;rw[V];refine F.enter (f:=f') (args:=s) ho hg (by rw[hk];decide) (λd=>?_) (λd=>?_) (K _ λp v w' KK=>?_)
  .rw[j,<-fu (es:=#[]),u]
  .unfold Sem.events;rw[j,u]
  .rw[z];exact KK _ (S.env.put hd) (put_defers _ _ _)
 .cases hc
theorem Pp(F:aC P main (DX Ok) Ψ)(hk:b.kind=.normal){j:aP}(d h:Nat)(args:fW)(hc:l5 P E (pc P f n bs j) d=some (h,args))(p:jY (pc P f n bs j)=pc P f (n+1) bs j)(s:d<N)(S:St Ok B N E M c a w)(K:∀cf,(∀v w',(∀a',aN ((d,v)::E) N a'->a'.defers=a.defers->Ψ (G (b.at a' (pc P f (n+1) bs j)) cs) w')->Ψ (G (cf.finish v) cs) w')->Ψ (G (Frame.enter P h args .normal) (cf::cs)) w):Ψ (G (b.at a (pc P f n bs j)) cs) w:=
 AX F hk d h args hc p s S λcf m=>K cf (m Ψ)
end
theorem DO(L:iG)(l f:Nat)(x:ay)(hl:l<L.length):(L.set l x).getD f undef=if f=l then x else L.getD f undef:=by
 rw[o8,o8]
 by_cases e:f=l
 .subst e;rw[List.getElem?_set_self hl];simp
 .rw[List.getElem?_set_ne (λz=>e z.symm),af e]
theorem fN{C:α->List Value}{g:Nat->α}{l:Nat}{x:ay}{r:α}(h:(C (g t)).set l x=C r)(hl:l<(C (g t)).length)(j f:Nat):(C (upd g t r j)).getD f undef=eH (λj f=>(C (g j)).getD f undef) t l x j f:=by
 unfold eH upd
 by_cases e:j=t
 .subst e
  rw[ah rfl,<-h,DO _ _ _ _ hl]
  by_cases e2:f=l
  .subst e2;simp
  .have m:(f==l)=false:=by simpa using e2
   simp[e2,m]
 .have m:(j==t)=false:=by simpa using e
  simp[e,m]
theorem xG{C:α->List Value}{g:Nat->α}{u s p m:ay}{r:α}(h:C r=[u,s,p,m])(hk:(C (g t)).length=4)(j f:Nat)(F:f<4):(C (upd g t r j)).getD f undef=eH (eH (eH (eH (λj f=>(C (g j)).getD f undef) t 0 u) t 1 s) t 2 p) t 3 m j f:=by
 unfold eH upd
 by_cases e:j=t
 .subst e
  rw[ah rfl,h];rcases f with _|_|_|_|f
  .simp
  .simp
  .simp
  .simp
  .omega
 .have z:(j==t)=false:=by simpa using e
  simp[e,z]
theorem Sat.map{Ok:dw}(h:Sat Ok w M)(F:cm)(u:∀i r',nth M' i=some r'->∃r,nth M (F i)=some r/\(r'=r\/r'={r with wr:=false}))(R:∀i j r,nth M' i=some r->r.wr=true->F i=F j->i=j):Sat Ok w M':=by
 refine⟨λi r' m j hj=>?_,λi r' m j hj=>?_,λi r' O Q m K G j j' hj L T=>?_,λi r' m g e n S=>?_⟩
 .obtain⟨r,p,rfl|rfl⟩:=u i r' m<;>exact h.val _ _ p j hj
 .obtain⟨r,p,rfl|rfl⟩:=u i r' m
  .exact h.ok _ _ p j hj
  .exact⟨(h.ok _ r p j hj).1,λz=>by cases z⟩
 .obtain⟨r,p,rfl|rfl⟩:=u i r' m
  .obtain⟨s,U,rfl|rfl⟩:=u O Q K<;>(have:=h.sep _ _ _ _ p U G j j' hj L T;exact⟨R i O _ m G this.1,this.2⟩)
  .cases G
 .obtain⟨r,p,rfl|rfl⟩:=u i r' m<;>exact h.row _ _ p g e n S
theorem bV:∀(A C:aX)(i:Nat),nth (A++C) i=if i<A.length then nth A i else nth C (i-A.length)
 |[],C,i=>by simp
 |x::A,C,0=>by simp[nth]
 |x::A,C,i+1=>by
  simp only[xC,nth,eG,bV A C i,Nat.add_lt_add_iff_right,Nat.add_sub_add_right]
theorem Sat.lay{Ok:dw}(h:Sat Ok w (r::(A++C))):Sat Ok w (A++({r with wr:=false}::C)):=by
 refine h.map (λi=>if i<A.length then i+1 else if i=A.length then 0 else i) (λi r' p=>?_) (λi j r' p s e=>?_)
 .rw[bV]at p
  split at p
  .rename_i z;simp only[z,if_true];exact⟨r',by show nth (A++C) i=_;rw[bV,ah z];exact p,.inl rfl⟩
  .rename_i z
   simp only[z,if_false]
   by_cases e:i=A.length
   .subst e;simp[nth]at p;simp only[if_true];exact⟨r,rfl,.inr p.symm⟩
   .simp only[e,if_false]
    obtain⟨k,hk⟩:∃k,i-A.length=k+1:=⟨i-A.length-1,by omega⟩;rw[hk]at p;refine⟨r',?_,.inl rfl⟩;obtain⟨m,rfl⟩:∃m,i=m+1:=⟨i-1,by omega⟩
    show nth (A++C) m=_
    rw[bV,af (by omega)];have:m-A.length=k:=by omega
    rw[this];exact p
 .have key:i≠A.length:=λz=>by
   subst z;rw[bV,af (by omega)]at p;simp[nth]at p;subst p;cases s
  split at e
  .split at e
   .omega
   .split at e<;>omega
  .split at e
   .omega
   .split at e<;>omega
theorem Sat.dup{Ok:dw}(h:Sat Ok w M)(u:nth M i=some r)(s:r.wr=false):Sat Ok w (r::M):=by
 refine h.map (λk=>if k=0 then i else k-1) (λk r' hk=>?_) (λk j r' hk m e=>?_)
 .rcases cB hk with ⟨z,rfl,p⟩|⟨rfl,rfl⟩
  .exact⟨r',by simpa using p,.inl rfl⟩
  .exact⟨r',by simpa using u,.inl rfl⟩
 .rcases cB hk with ⟨z,rfl,p⟩|⟨rfl,rfl⟩
  .simp only[Nat.add_one_ne_zero,if_false,fY]at e
   split at e
   .subst e;rw[u]at p;cases p;rw[s]at m;cases m
   .omega
  .rw[s]at m;cases m
theorem Sat.Ic{Ok:dw}(h:Sat Ok w M)(p:Nat)(hp:nth M p=some r)(r':aJ)(hj:∀j,r'.has j->r.has j/\r'.ad j=r.ad j/\r'.get j=r.get j)(U:r'.wr=true->r.wr=true)(O:r'.row=none):Sat Ok w (cD M p r'):=by
 have key:∀q s,nth (cD M p r') q=some s->∃m,nth M q=some m/\(∀j,s.has j->m.has j/\s.ad j=m.ad j/\s.get j=m.get j)/\(s.wr=true->m.wr=true)/\(s.row=none\/s=m):=λq s u=>by
  rw[dP]at u
  split at u
  .rename_i e;subst e;rw[hp]at u;simp at u;subst u;exact⟨r,hp,hj,U,.inl O⟩
  .exact⟨s,u,λ_ z=>⟨z,rfl,rfl⟩,id,.inr rfl⟩
 refine⟨λq s u j Q=>?_,λq s u j Q=>?_,λq s Y s' u V U j j' Q W e=>?_,λq s u g e n X=>?_⟩
 .obtain⟨m,F,K,R,S⟩:=key q s u
  obtain⟨G,L,T⟩:=K j Q;rw[L,T];exact h.val q m F j G
 .obtain⟨m,F,K,R,S⟩:=key q s u
  obtain⟨G,L,T⟩:=K j Q;rw[L];exact⟨(h.ok q m F j G).1,λz=>(h.ok q m F j G).2 (R z)⟩
 .obtain⟨m,F,K,R,S⟩:=key q s u
  obtain⟨t0,g0,g1,g2,g3⟩:=key Y s' V;obtain⟨G,L,T⟩:=K j Q;obtain⟨y1,y2,y3⟩:=g1 j' W;rw[L,y2]at e;exact h.sep q m Y t0 F g0 (R U) j j' G y1 e
 .obtain⟨m,F,K,R,S⟩:=key q s u
  rcases S with z|rfl
  .rw[z]at X;cases X
  .exact h.row q s F g e n X
theorem Sat.D6{Ok:dw}(h:Sat Ok w (A++(r::C))):Sat Ok w (A++C):=by
 refine h.map (λi=>if i<A.length then i else i+1) (λi r' m=>?_) (λi j r' m p e=>?_)
 .rw[bV]at m
  split at m
  .rename_i z;simp only[z,if_true];exact⟨r',by rw[bV,ah z];exact m,.inl rfl⟩
  .rename_i z
   simp only[z,if_false];refine⟨r',?_,.inl rfl⟩;rw[bV,af (by omega),show i+1-A.length=(i-A.length)+1 by omega];exact m
 .split at e
  .split at e<;>omega
  .split at e<;>omega
theorem Sat.back{Ok:dw}(h:Sat Ok w (r::(A++C))):Sat Ok w (A++(r::C)):=by
 refine h.map (λi=>if i<A.length then i+1 else if i=A.length then 0 else i) (λi r' p=>?_) (λi j r' p F e=>?_)
 .rw[bV]at p
  split at p
  .rename_i z;simp only[z,if_true];exact⟨r',by show nth (A++C) i=_;rw[bV,ah z];exact p,.inl rfl⟩
  .rename_i z
   simp only[z,if_false]
   by_cases e:i=A.length
   .subst e;simp[nth]at p;simp only[if_true];exact⟨r,rfl,.inl p.symm⟩
   .simp only[e,if_false]
    obtain⟨k,hk⟩:∃k,i-A.length=k+1:=⟨i-A.length-1,by omega⟩;rw[hk]at p;refine⟨r',?_,.inl rfl⟩;obtain⟨m,rfl⟩:∃m,i=m+1:=⟨i-1,by omega⟩
    show nth (A++C) m=_
    rw[bV,af (by omega)];have:m-A.length=k:=by omega
    rw[this];exact p
 .split at e
  .split at e
   .omega
   .split at e<;>omega
  .rename_i u
   split at e
   .rename_i s
    split at e
    .omega
    .split at e<;>omega
   .rename_i s
    split at e
    .omega
    .split at e<;>omega
theorem cg{Q:α->Prop}:∀p∈([]:List α),Q p:=λ_ h=>by cases h
theorem nO{Q:α->Prop}{a:α}{l:List α}(h:Q a)(m:∀p∈l,Q p):∀p∈a::l,Q p:=λp j=>by
 rcases ak.1 j with rfl|j
 .exact h
 .exact m p j
def bu(p:Nat)(j:Ix)(v:ay)(M:aX):List aJ:=match nth M p with
 |some r=>cD M p (r.set j v)
 |none=>M
section
variable{Ok:dw}{Ψ:gi}
theorem KA(F:aC P main (DX Ok) Ψ)(T:P.follows .mixedOrders=true)(hB:HB J Ok)(U:J<=B)(hk:b.kind=.normal)(hd:a.defers=ds)(n:Nat)(L:List Hint)(bs:iM)(u:aP)(Q:Env)(ed:List aJ->List aJ)(O:Nat)(R:Nat)(s:fL)(m:aP)(dm:iM)(eU:List (Int×Nat))(j:List (Nat×Nat))(h:fin c (Q.map Prod.fst) (bH P B n ⟨[⟨f,N,pc P f I H D,E⟩],⟨L,M,c,[],[]⟩,bs,[],[]⟩ u)=some (N,pc P f R s m,Q.map (λp=>some p.2),ed M,O,dm,eU,j))(hq:Ki (bH P B n ⟨[⟨f,N,pc P f I H D,E⟩],⟨L,M,c,[],[]⟩,bs,[],[]⟩ u)=Kg (bH P B n ⟨[⟨f,N,pc P f I H D,E⟩],⟨L,M,c,[],[]⟩,bs,[],[]⟩ u))(X:∀p∈dm,p.1=p.2)(V:∀p∈eU,0<=p.1/\p.1<(p.2:Int))(Y:∀p∈j,p.1<p.2)(S:St Ok B N E M c a w)(K:∀a' w',St Ok B N Q (ed M) O a' w'->a'.defers=ds->w'.heap.size=B+O->w.heap.size<=w'.heap.size->Fr (Wr M) w w'->Ψ (G (b.at a' (pc P f R s m)) cs) w'):Ψ (G (b.at a (pc P f I H D)) cs) w:=
 bk F T (λa wr z=>hB a wr (aT U z)) hk n L bs u Q ed O R s m dm eU j h hq X V Y S λa' w' S' W fr _=>K a' w' S' (W.trans hd) S'.sz fr.size fr
def Y7(P:aI)(Ok:dw)(Ψ:gi)(b:aE)(cs:cW)(f n:Nat)(bs:fL)(qs:aP)(N d:Nat)(E:Env)(ds:xh)(cf:aE):Prop:=
 ∀v w' M,Sat Ok w' M->(∀a' B',St Ok B' N ((d,v)::E) M 0 a' w'->a'.defers=ds->w'.heap.size=B'->Ψ (G (b.at a' (pc P f n bs qs)) cs) w')->Ψ (G (cf.finish v) cs) w'
theorem clz(F:aC P main (DX Ok) Ψ)(hk:b.kind=.normal)(m:a.defers=ds){j:aP}(d h:Nat)(args:fW)(hc:l5 P E (pc P f n bs j) d=some (h,args))(u:jY (pc P f n bs j)=pc P f (n+1) bs j)(z:d<N)(S:St Ok B N E M c a w)(K:∀cf,Y7 P Ok Ψ b cs f (n+1) bs j N d E ds cf->Ψ (G (Frame.enter P h args .normal) (cf::cs)) w):Ψ (G (b.at a (pc P f n bs j)) cs) w:=
 Pp F hk d h args hc u z S λcf s=>K cf λv w' M' L KK=>s v w' λa' O p=>KK a' _ ⟨O,L,rfl⟩ (p.trans m) rfl
end
structure Sp(P:aI)(ops:b9)(bm:Array Nat)(E0:Env)(Z:aX)(fK:List Rec)(r:Rec):Prop where
 op:ops[r.i]? =some r.o
 run:wV P 0 ops r.E r.o r.x=some (r.v,r.y)
 met:oN r.y
 env:∀d v,look r.E d=some v->(∃s∈fK,iC bm r.i s.i=true/\s.o.dst=some d/\s.v=v)\/look E0 d=some v
 mem:r.x.m.M=ro Z/\r.x.m.c=0/\r.y.m.c=r.x.m.c
theorem Sp.mono{p:b9}{u:Array Nat}{z:Env}{m j:List Rec}{r:Rec}(h:Sp P p u z Z m r)(F:∀s∈m,s∈j):Sp P p u z Z j r:=
 ⟨h.op,h.run,h.met,λd v hl=>(h.env d v hl).imp (fun⟨s,K,G⟩=>⟨s,F s K,G⟩) id,h.mem⟩
structure Iq(Ok:dw)(ops:b9)(bm:Array Nat)(q N:Nat)(ds:xh)(E0:Env)(Z:aX)(fK:List Rec)(w:aj)(l:oW)(a':Act)(w':aj):Prop where
 size:l.size=ops.size
 late:∀j,q<=j->j<ops.size->l.getD j true=false
 down:∀i j,l.getD i false=true->i<ops.size->j<ops.size->iC bm i j=true->l.getD j false=true
 sz:a'.tmps.size=N
 EA:a'.defers=ds
 val:∀r∈fK,l.getD r.i false=true->∀d,r.o.dst=some d->a'.tmps[d]? =some r.v
 old:∀d v,look E0 d=some v->a'.tmps[d]? =some v
 fr:Fr (λ_=>False) w w'
 kI:w'.heap.size=w.heap.size
 sat:Sat Ok w' Z
section
variable{Ok:dw}{Ψ:gi}
theorem Mu{h:b9}(m:jE h q=true){j:Nat}(z:i<q)(u:j<q)(s:(h[i]?).bind (·.dst)=some d)(p:(h[j]?).bind (·.dst)=some d):i=j:=by
 have:=eP.1 (eP.1 m i (bp.2 z)) j (bp.2 u);rw[s,p]at this
 simpa using this
theorem wL{Ok:dw}{h:b9}{u:Array Nat}{T:Env}{m:List Rec}{O:aj}(z:qD h u q)(S:Iq Ok h u q N ds T Z m w l a O)(ho:h[i]? =some o)(p:∀e∈o.after,Region.binds .any e=true->l.getD e.on false=true):∀j,j<h.size->iC u i j=true->l.getD j false=true:=λj hj R=>by
 have Q:i<h.size:=(cH.1 ho).1;obtain⟨_,e,G,L,s⟩:=z.Mt i o j ho hj R;have K:=p e G L;rcases s with rfl|s
 .exact K
 .have F:=z.low i o ho e G L
  exact S.down e.on j K (by omega) hj s
theorem Iq.put{m:b9}{bm:Array Nat}{q N:Nat}{ds:xh}{E0:Env}{Z:aX}{h:List Rec}{w w1 Y:aj}{l:oW}{a:Act}(hp:qD m bm q)(yC:jE m q=true)(hN:∀d∈dstsOf m q,d<N)(yD:∀d v,look E0 d=some v->d∉dstsOf m q)(hu:∀r∈h,∀s∈h,r.i=s.i->r=s)(F:∀r∈h,r.i<q/\m[r.i]? =some r.o)(p:Iq Ok m bm q N ds E0 Z h w l a w1){r:Rec}(W:r∈h)(S:∀e∈r.o.after,Region.binds .any e=true->l.getD e.on false=true)(hf:Fr (λ_=>False) w1 Y)(hz:Y.heap.size=w1.heap.size):Iq Ok m bm q N ds E0 Z h w (l.setIfInBounds r.i true) (a.put r.o.dst r.v) Y:=by
 obtain⟨R,ho⟩:=F r W;have yB:r.i<m.size:=c7 R hp.le;have Q:r.i<l.size:=by rw[p.size];exact yB
 have K:∀s∈h,∀d,s.o.dst=some d->d∈dstsOf m q:=λs u d T=>by
  obtain⟨U,h2⟩:=F s u;exact vo.2 ⟨s.i,bp.2 U,by rw[h2];exact T⟩
 have wY:=wL hp p ho S;refine⟨by simp[p.size],λj hj tj=>?_,λi j U h2 h3 h4=>?_,?_,by rw[put_defers];exact p.EA,λs u T d G=>?_,λd v hl=>?_,p.fr.trans hf (λ_ z=>z.elim),hz.trans p.kI,p.sat.keep hf⟩
 .rw[aZ _ Q,af (by omega)];exact p.late j hj tj
 .rw[aZ _ Q]at U ⊢
  by_cases e:j=r.i
  .rw[ah e]
  .rw[af e]
   by_cases e':i=r.i
   .subst e';exact wY j h3 h4
   .rw[af e']at U;exact p.down i j U h2 h3 h4
 .cases T:r.o.dst with
  |none=>simp[Act.put];exact p.sz
  |some d=>simp[Act.put];exact p.sz
 .by_cases e:s.i=r.i
  .have:=hu s u r W e;subst this
   rw[G];simp only[Act.put];rw[MS,ah (by rw[p.sz];exact hN d (K _ W d G))]
  .rw[aZ _ Q,af e]at T
   have V:=p.val s u T d G;cases L:r.o.dst with
   |none=>exact V
   |some X=>
    have O:X≠d:=λz=>e (Mu yC (F s u).1 R (by rw[(F s u).2];exact G) (by rw[ho];show r.o.dst=some d;rw[L,z]))
    simp only[Act.put];rw[ku O];exact V
 .have V:=p.old d v hl
  cases L:r.o.dst with
  |none=>exact V
  |some X=>
   have O:X≠d:=λz=>yD d v hl (by rw[<-z];exact K _ W X L)
   simp only[Act.put];rw[ku O];exact V
theorem BI(F:aC P main (DX Ok) Ψ)(hB:HB J Ok)(hk:b.kind≠.early){j:b9}{R:Array Nat}{S:Env}{h:List Rec}(T:qD j R q)(V:jE j q=true)(hN:∀d∈dstsOf j q,d<N)(W:∀d v,look S d=some v->d∉dstsOf j q)(hu:∀r∈h,∀s∈h,r.i=s.i->r=s)(O:∀r∈h,r.i<q/\j[r.i]? =some r.o){Q:aj}(u:Iq Ok j R q N ds S Z h w l a Q){r:Rec}(hr:r∈h)(m:Sp P j R S Z h r)(gp:J<=w.heap.size)(p:∀e∈r.o.after,Region.binds .any e=true->l.getD e.on false=true)(rest:aP)(K:∀a' w',Iq Ok j R q N ds S Z h w (l.setIfInBounds r.i true) a' w'->Ψ (G (b.at a' (.inRegion j rest::k)) cs) w'):Ψ (G (b.at a (.inRegion j (r.i::rest)::k)) cs) Q:=by
 have U:=wL T u m.op p
 have hA:aN r.E N a:=⟨u.sz,λd v hl=>by
  rcases m.env d v hl with ⟨s,X,s2,s3,s4⟩|z
  .rw[<-s4];exact u.val s X (U s.i (c7 (O s X).1 T.le) s2) d s3
  .exact u.old d v z⟩
 have L:Sat Ok Q r.x.m.M:=by rw[m.mem.1];exact u.sat.ro
 have Y:=u.kI;have hc0:=m.mem.2.1;refine vS (B:=Q.heap.size) F (λad wr z=>hB ad wr (by omega)) hk m.op (F3 m.run m.mem.2.2 _) m.met hA ⟨L,by omega⟩ λw2 h1 h2 h3=>K _ _ (Iq.put T V hN W hu O u hr p (h2.Dg λad z=>?_) ?_)
 .rw[m.mem.1]at z;exact ve z
 .have:=h1.sz;have:=m.mem.2.2;omega
theorem D8(F:aC P main (DX Ok) Ψ)(hB:HB J Ok)(hk:b.kind≠.early){h:b9}{W:Array Nat}{X:Env}{j:List Rec}(Q:qD h W q)(yC:jE h q=true)(hN:∀d∈dstsOf h q,d<N)(yD:∀d v,look X d=some v->d∉dstsOf h q)(hu:∀r∈j,∀s∈j,r.i=s.i->r=s)(S:∀r∈j,r.i<q/\h[r.i]? =some r.o)(Cc:q0<q)(Y:∀r∈j,r.i≠q0->Sp P h W X Z j r)(V:∀i,i<q->∃r∈j,r.i=i)(gp:J<=w.heap.size)(K:∀l a' w',Iq Ok h W q N ds X Z j w l a' w'->(∀i,i<q->l.getD i false=true)->Ψ (G (b.at a' (.inRegion h (bM q (h.size-q))::k)) cs) w'):
 ∀(fuel t:Nat)(l:oW)(a:Act)(O:aj),Iq Ok h W q N ds X Z j w l a O->l.getD q0 false=true->(∃m,m+fuel=h.size/\(l.toList.filter id).length=m)->Ψ (G (b.at a (.inRegion h (Region.linearise.go .any h fuel t l [])::k)) cs) O:=by
 intro fuel
 induction fuel with
 |zero=>
  intro t l a O u R ⟨m,hm,hc⟩;have p:∀i,i<q->l.getD i false=true:=λi hi=>by have:=Q.le;rw[cE (by rw[u.size];omega) false true];exact oE u.size (by omega) i (by omega)
  rw[mw Q u.size u.late p ⟨m,hm,hc⟩];exact K l a O u p
 |succ fuel ih=>
  intro t l a O u R ⟨m,hm,hc⟩;have Sx:=Q.le
  by_cases p:∀i,i<q->l.getD i false=true
  .rw[mw Q u.size u.late p ⟨m,hm,hc⟩]
   exact K l a O u p
  .obtain⟨i,uS,U,f1,f2,t',hgo⟩:=jV Q u.size u.down p (fuel:=fuel) (t:=t)
   rw[hgo];obtain⟨r,hr,rfl⟩:=V i uS;have L:r.i<l.size:=by rw[u.size];exact U
   have T:r.i≠q0:=λz=>by rw[<-z,cE L false true,f1]at R;cases R
   have GH:h[r.i]=r.o:=Option.some.inj ((hU U).symm.trans (S r hr).2);refine BI F hB hk Q yC hN yD hu S u hr (Y r hr T) gp (λe he hb=>f2 e (by rw[GH];exact he) hb) _ λa' w' Io=>ih _ _ _ _ Io ?_ ⟨m+1,by omega,?_⟩
   .rw[aZ _ L,af (λz=>T z.symm)];exact R
   .have R:l[r.i]=false:=by have:=f1;simpa [Array.getD,L]using this
    rw[zE];exact hc▸ck l.toList r.i L R
end
def I1(bm:Array Nat)(q q0:Nat):List Nat:=(List.range q).filter λi=>!(i==q0)&&!iC bm i q0
def I2(bm:Array Nat)(q q0:Nat):List Nat:=(List.range q).filter λi=>iC bm i q0
theorem pL{h:Array Nat}:i∈I1 h q q0↔i<q/\i≠q0/\iC h i q0=false:=by
 unfold I1;rw[mO];simp
theorem vV{h:Array Nat}:i∈I2 h q q0↔i<q/\iC h i q0=true:=by
 unfold I2;rw[mO];simp
theorem wz{u:b9}{L:Array Nat}{O:Env}{is:aP}{acc j:List Rec}{F:cL}(h:iX P 0 u L O Z 0 is acc none x=some (j,none,F))(T:oN F)(G:is.Nodup)(V:∀r∈acc,r.i∉is)(U:∀r∈acc,∀s∈acc,r.i=s.i->r=s):
 (∀r∈j,∀s∈j,r.i=s.i->r=s)/\(∀r∈acc,r∈j)/\(∀i∈is,∃r∈j,r.i=i)/\(∀r∈j,r∈acc\/(r.i∈is/\Sp P u L O Z j r)):=by
 obtain⟨a1,a2,a3,a4,a5,Y,X⟩:=iW is acc none x j none F h G V (λp R z=>by cases z) U;refine⟨a1,a2,Y,λr S=>(X r S).imp id fun⟨Q,m⟩=>⟨Q,m.op,m.run,m.sub.met T,m.env,?_⟩⟩;rcases m.mem with ⟨e1,e2,K⟩|⟨_,_,_,R,e,_⟩
 .rcases K with ⟨K,W⟩|⟨p,R,e,_⟩
  .exact⟨K,W,e1⟩
  .cases e
 .cases e
theorem T5{Ok:γ->Addr->Bool->Prop}{Ψ:γ->Goroutine->World->Prop}(F:∀p,aC P main (DX (Ok p)) (Ψ p))(GL:P.follows .mixedOrders=true){Bd:γ->Nat}(hB:∀p (a:Addr) (wr:Bool),Bd p<=a.block->Ok p a wr)(hk:b.kind≠.early){h:b9}{id:Nat}{E0:Env}{p0:γ}{x0 x1:cL}{L:List Rec}(ho:h[q0]? =some o)(Oj:pI h (Region.before h) q=true)(Cc:q0<q)(hN:∀d∈dstsOf h q,d<N)(yD:∀d v,look E0 d=some v->d∉dstsOf h q)(hA:aN E0 N a)(hS:Sat (Ok p0) w Z)(gp:Bd p0<=w.heap.size)(pP:iX P 0 h (Region.before h) E0 Z 0 (I1 (Region.before h) q q0) [] none x0=some (L,none,x1))(SK:oN x1){Post:γ->Value->World->Prop}(U:∀a1 w1 rest,aN (iB (Region.before h) q0 L++E0) N a1->a1.defers=a.defers->Fr (λ_=>False) w w1->w1.heap.size=w.heap.size->(∀p v w2,Post p v w2->Ψ p (G (b.at (a1.put o.dst v) (.inRegion h rest::k)) cs) w2)->Ψ p0 (G (b.at a1 (.inRegion h (q0::rest)::k)) cs) w1)(K:∀p v w2,Post p v w2->Bd p<=w2.heap.size/\Sat (Ok p) w2 Z/\∃x2 O x3,iX P 0 h (Region.before h) E0 Z 0 (I2 (Region.before h) q q0) (⟨q0,o,[],x0,v,x0⟩::L) none x2=some (O,none,x3)/\oN x3/\
 ∀a2 w3,aN (kO O E0) N a2->a2.defers=a.defers->Fr (λ_=>False) w2 w3->w3.heap.size=w2.heap.size->Ψ p (G (b.at a2 (.inRegion h (bM q (h.size-q))::k)) cs) w3):
 Ψ p0 (G (b.at a (.code (.region id h true)::k)) cs) w:=by
 obtain⟨hp,yC⟩:=pH Oj;generalize hbm:Region.before h=bm at*;have Sx:=hp.le;have X:q0<h.size:=by omega
 obtain⟨u1,_,c1,s1⟩:=wz pP SK (uB.filter _) (by simp) (by simp);have Y:∀r∈L,r.i∈I1 bm q q0/\Sp P h bm E0 Z L r:=λr Q=>(s1 r Q).resolve_left (by simp)
 have S:∀r∈L,r.i<q/\h[r.i]? =some r.o:=λr Q=>⟨(pL.1 (Y r Q).1).1,(Y r Q).2.op⟩
 have bqq:iC bm q0 q0=false:=by
  cases hz:iC bm q0 q0 with
  |false=>rfl
  |true=>have:=(hp.Mt q0 o q0 ho X hz).1;omega
 have main:∀(fuel t:Nat)(l:oW)(a1:Act)(w1:aj),Iq (Ok p0) h bm q N a.defers E0 Z L w l a1 w1->l.getD q0 false=false->(∃m,m+fuel=h.size/\(l.toList.filter _root_.id).length=m)->Ψ p0 (G (b.at a1 (.inRegion h (Region.linearise.go .any h fuel t l [])::k)) cs) w1:=by
  intro fuel
  induction fuel with
  |zero=>
   intro t l a1 w1 R h0 ⟨m,hm,hc⟩
   exfalso
   have hls:l.toList.length=h.size:=by rw[xp];exact R.size
   have SW:(l.toList.filter _root_.id).length=l.toList.length:=by omega
   have:=VJ.1 SW;have Ep:q0<l.size:=by rw[R.size];exact X
   have h3:=this l[q0] (by simp);simp only[Array.getD,Ep,mM]at h0;have W:l[q0]=false:=h0;rw[W]at h3;cases h3
  |succ fuel ih=>
   intro t l a1 w1 R h0 ⟨m,hm,hc⟩;obtain⟨i,uS,kU,f1,f2,t',hgo⟩:=jV hp R.size R.down (λz=>by have:=z q0 Cc;rw[h0]at this;cases this) (fuel:=fuel) (t:=t);rw[hgo];have V:i<l.size:=by rw[R.size];exact kU
   have Xf:h[i]? =some h[i]:=hU kU;have wY:=wL hp R Xf f2
   have Tf:((l.setIfInBounds i true).toList.filter _root_.id).length=m+1:=by
    have h0:l[i]=false:=by have:=f1;simpa [Array.getD,V]using this
    rw[zE];exact hc▸ck l.toList i V h0
   by_cases e:i=q0
   .subst e
    have hoo:h[i]=o:=Option.some.inj (Xf.symm.trans ho);refine U a1 w1 _ ⟨R.sz,λd v hl=>?_⟩ R.EA R.fr R.kI λp v w2 hP=>?_
    .rcases lS _ _ d v hl with z|z
     .obtain⟨s,h1,h2,h3,h4⟩:=jO bm i L d v z
      rw[<-h4];exact R.val s h1 (wY s.i (c7 (S s h1).1 Sx) h2) d h3
     .exact R.old d v z
    .obtain⟨uf,J4,x2,O,x3,DI,hm3,K2⟩:=K p v w2 hP
     have SG:∀r∈L,r.i≠i:=λr Q=>(pL.1 (Y r Q).1).2.1
     obtain⟨u2,Nh,c2,s2⟩:=wz DI hm3 (uB.filter _) (λr Q=>by
      rw[vV];rcases ak.1 Q with rfl|Q
      .rintro ⟨_,z⟩;rw[bqq]at z;cases z
      .rintro ⟨_,z⟩;rw[(pL.1 (Y r Q).1).2.2]at z;cases z) (λr Q s hs Eo=>by
      rcases ak.1 Q with rfl|Q<;>rcases ak.1 hs with rfl|hs
      .rfl
      .exact absurd Eo.symm (SG s hs)
      .exact absurd Eo (SG r Q)
      .exact u1 r Q s hs Eo)
     have LJ:∀s∈L,s∈O:=λs hs=>Nh s (aO _ hs)
     have Om:∀r∈O,r.i<q/\h[r.i]? =some r.o:=λr Q=>by
      rcases s2 r Q with z|⟨z1,z2⟩
      .rcases ak.1 z with rfl|z
       .exact⟨Cc,ho⟩
       .exact S r z
      .exact⟨(vV.1 z1).1,z2.op⟩
     refine D8 (q0:=i) (w:=w2) (Z:=Z) (F p) (hB p) hk hp yC hN yD u2 Om Cc (λr Q ny=>?_) (λj hj=>?_) uf (λl' a' w' T Aw=>K2 a' w' ⟨T.sz,λd u hl=>?_⟩ T.EA T.fr T.kI) fuel t' _ _ w2 ?_ (by rw[aZ _ V,ah rfl]) ⟨m+1,by omega,Tf⟩
     .rcases s2 r Q with z|⟨z1,z2⟩
      .rcases ak.1 z with rfl|z
       .exact absurd rfl ny
       .exact(Y r z).2.mono LJ
      .exact z2
     .by_cases ej:j=i
      .exact⟨_,Nh _ (bS ..),ej.symm⟩
      .cases hz:iC bm j i with
       |false=>obtain⟨r,Q,e⟩:=c1 j (pL.2 ⟨hj,ej,hz⟩);exact⟨r,LJ r Q,e⟩
       |true=>exact c2 j (vV.2 ⟨hj,hz⟩)
     .rcases lT O E0 d u hl with ⟨s,h1,h2,h3⟩|z
      .rw[<-h3];exact T.val s h1 (Aw s.i (Om s h1).1) d h2
      .exact T.old d u z
     .refine⟨by simp[R.size],λj hj tj=>?_,λi' j h1 h2 h3 h4=>?_,?_,by rw[put_defers];exact R.EA,λs hs hd d Es=>?_,λd u hl=>?_,Fr.refl _ _,rfl,J4⟩
      .rw[aZ _ V,af (by omega)];exact R.late j hj tj
      .rw[aZ _ V]at h1 ⊢
       by_cases e:j=i
       .rw[ah e]
       .rw[af e]
        by_cases e':i'=i
        .subst e';exact wY j h3 h4
        .rw[af e']at h1;exact R.down i' j h1 h2 h3 h4
      .cases hd:o.dst with
       |none=>simp[Act.put];exact R.sz
       |some d=>simp[Act.put];exact R.sz
      .rw[aZ _ V]at hd
       by_cases es:s.i=i
       .have hsf:s=⟨i,o,[],x0,v,x0⟩:=u2 s hs _ (Nh _ (bS ..)) es
        subst hsf;have Ta:o.dst=some d:=Es;rw[Ta];simp only[Act.put];rw[MS,ah (by rw[R.sz];exact hN d (vo.2 ⟨i,bp.2 Cc,by rw[ho];exact Ta⟩))]
       .rw[af es]at hd
        rcases s2 s hs with z|⟨z1,z2⟩
        .rcases ak.1 z with rfl|z
         .exact absurd rfl es
         .have W:=R.val s z hd d Es
          cases Oe:o.dst with
          |none=>exact W
          |some d'=>
           have ny:d'≠d:=λzz=>es (Mu yC (S s z).1 Cc (by rw[(S s z).2];exact Es) (by rw[ho];show o.dst=some d;rw[Oe,zz]))
           simp only[Act.put];rw[ku ny];exact W
        .exfalso
         have:=R.down s.i i hd (by have:=(Om s hs).1;omega) kU (vV.1 z1).2;rw[h0]at this;cases this
      .have W:=R.old d u hl
       cases Oe:o.dst with
       |none=>exact W
       |some d'=>
        have ny:d'≠d:=λz=>yD d u hl (by rw[<-z];exact vo.2 ⟨i,bp.2 Cc,by rw[ho];exact Oe⟩)
        simp only[Act.put];rw[ku ny];exact W
   .have pO:iC bm i q0=false:=by
     cases hz:iC bm i q0 with
     |false=>rfl
     |true=>have:=wY q0 X hz;rw[h0]at this;cases this
    obtain⟨r,Q,rfl⟩:=c1 i (pL.2 ⟨uS,e,pO⟩);have GH:h[r.i]=r.o:=Option.some.inj (Xf.symm.trans (S r Q).2);refine BI (F p0) (hB p0) hk hp yC hN yD u1 S R Q (Y r Q).2 gp (λe he hb=>f2 e (by rw[GH];exact he) hb) _ λa' w' T=>ih _ _ _ _ T ?_ ⟨m+1,by omega,Tf⟩
    rw[aZ _ V,af (λz=>e z.symm)];exact h0
 refine(F p0).step _ _ rfl λd=>⟨_,_,_,stepG_region_draw,(F p0).idle _ _,?_,λz v _ _=>stepG_region_draw⟩
 show Ψ p0 _ (w.at (d+1))
 refine(F p0).at' _ _ _ ?_;simp only[Region.schedule,GL,uv,if_true,Region.linearise];refine main _ _ _ _ _ ⟨by simp,λj _ hj=>by simp[Array.getD,hj],λi j h1 h2=>?_,hA.sz,rfl,λr Q hd=>?_,hA.val,Fr.refl _ _,rfl,hS⟩ (by simp[Array.getD,X]) ⟨0,by simp,by simp⟩
 .simp[Array.getD,h2]at h1
 .have:r.i<h.size:=by have:=(S r Q).1;omega
  simp[Array.getD,this]at hd
def ends(c:aE):Value ⊕ Value->Frame
 |.inl v=>c.finish v
 |.inr v=>c.raise (jy v)
structure UG(b:aE)(f:Nat):Prop where
 k:b.kind=.normal
 f:b.fn=f
 m:b.mode=.run
 r:b.roundOf=none
theorem raise_at(h:b.mode=.run)(a:Act)(t:eF)(ch:List PanicEntry):(b.at a t).raise ch={b.at a t with mode:=.panicking ch}:=by
 simp[Frame.raise,Frame.at,h]
section
variable{Ok:dw}{Ψ:gi}
theorem dg(fn:Func)(h:P.funcs[f]? =some fn)(code:Code)(j:fn.body=some code)(N:Nat)(p:args.size+(fn.ntmps-args.size)=N)(m:Sat Ok w M)(K:∀b a B,UG b f->b.kind=.normal->b.fn=f->a.defers=[]->St Ok B N (rL args.toList 0) M 0 a w->w.heap.size=B->Ψ (G (Frame.at b a (pc P f 0 [] [])) cs) w):Ψ (G (Frame.enter P f args .normal) cs) w:=by
 obtain⟨a,e1,e2,u⟩:=jw (args:=args) h j;have s:pc P f 0 [] []=[.code code]:=by unfold pc Jk sS;rw[h];simp only[fA,j,cK]
 rw[e1,<-s];exact K _ a _ ⟨rfl,rfl,rfl,rfl⟩ rfl rfl u ⟨p▸e2,m,rfl⟩ rfl
def HG(E:Env)(t:eF)(f:Nat)(cap:iG):Bool:=lm t&&(aQ t).guard.isNone&&(aQ t).dst.isNone&&(match (aQ t).op with
 |.defer c=>(match c.callee,c.args.toList with
  |.value r,[]=>kn E r&&(match ev E r with
   |.func (.func g) fst cp=>g==f&&fst.size==0&&cp.size==cap.length
   |_=>false)
  |_,_=>false)
 |_=>false)
def Cy(E:Env)(t:eF):Array Value:=match (aQ t).op with
 |.defer c=>(match c.callee with
  |.value r=>(match ev E r with
   |.func _ _ cp=>cp
   |_=>#[])
  |_=>#[])
 |_=>#[]
theorem YN(F:aC P main (DX Ok) Ψ)(X:UG b f)(V:a.defers=ds){m:aP}(g:Nat)(cap:iG)(hc:HG E (pc P f n bs m) g cap=true)(h:Cy E (pc P f n bs m)=cap.toArray)(hx:jY (pc P f n bs m)=pc P f (n+1) bs m)(S:St Ok B N E M c a w)(K:∀a',St Ok B N E M c a' w->a'.defers=iY g cap.toArray::ds->Ψ (G (b.at a' (pc P f (n+1) bs m)) cs) w):Ψ (G (b.at a (pc P f n bs m)) cs) w:=by
 unfold HG at hc;simp only[cq]at hc;obtain⟨⟨⟨h1,h2⟩,Y⟩,L⟩:=hc;obtain⟨ops,i,r,kk,ht,ho,Q⟩:=dO h1
 have hg:(aQ (pc P f n bs m)).guard=none:=by
  cases s:(aQ (pc P f n bs m)).guard with
  |none=>rfl
  |some p=>rw[s]at h2;cases h2
 have hd:(aQ (pc P f n bs m)).dst=none:=by
  cases s:(aQ (pc P f n bs m)).dst with
  |none=>rfl
  |some p=>rw[s]at Y;cases Y
 rw[hx]at Q;unfold Cy at h;generalize aQ (pc P f n bs m)=o at*
 split at L
 .rename_i W O
  split at L
  .rename_i rr u z
   simp only[cq]at L;obtain⟨h5,U⟩:=L;rw[O]at h;simp only[u]at h
   split at U
   .rename_i g' fst cp T
    simp only[cq,beq_iff_eq]at U;obtain⟨⟨e1,e2⟩,e3⟩:=U;rw[T]at h
    simp only at h
    subst e1;have ef:fst=#[]:=Array.eq_empty_of_size_eq_zero e2;subst ef;subst h;have R:a.eval rr=.func (.func g') #[] cap.toArray:=by rw[S.env.eval h5];exact T
    have j:W.args=#[]:=by apply Array.toList_inj.1;rw[z]
    rw[ht];refine F.HH ho (by simp[Region.wanted,hg]) (by rw[X.k];decide) X.r (ats:=W.argTypes) (by rw[O];obtain⟨x1,x2,x3⟩:=W;simp only at u j;subst u;subst j;rfl) R ?_;rw[hd,<-Q];exact K _ ⟨⟨S.env.sz,S.env.val⟩,S.sat,S.sz⟩ (by simp only[Act.put];rw[V])
   .cases U
  .cases L
 .cases L
theorem P8(F:aC P main (DX Ok) Ψ){todo:eF}(m:ju todo=true){cap:iG}(z:a.defers=iY g cap.toArray::ds)(fn:Func)(s:P.funcs[g]? =some fn)(code:Code)(u:fn.body=some code)(j:(fn.name== "runtime.NumGoroutine")=false)(N:Nat)(Q:cap.length+(fn.ntmps-cap.length)=N){N0:Nat}(S:St Ok B N0 E M c a w)(K:∀a':Act,St Ok B N (rL cap 0) M c a' w->a'.defers=[]->Ψ (G ((baseD g).at a' (pc P g 0 [] [])) ({b.at ⟨a.tmps,ds⟩ todo with mode:=.returning}::cs)) w):Ψ (G (b.at a todo) cs) w:=by
 have O:pc P g 0 [] []=[.code code]:=by unfold pc Jk sS;rw[s];simp only[fA,u,cK]
 have h:Ψ (G {b.at a todo with mode:=.returning} cs) w:=by
  refine F.IF z s j u ?_;rw[<-O];refine K _ ⟨⟨by simp;omega,λn v hl=>?_⟩,S.sat,S.sz⟩ rfl;obtain⟨_,p⟩:=l8 _ 0 n v hl;simp only[A8]at p;obtain⟨L,_⟩:=nS.1 p;rw[tI (by simpa using L)];simpa using p
 have:todo=[]\/∃l,todo=.code .ret::l:=by
  unfold ju at m
  split at m
  .exact .inl rfl
  .exact .inr ⟨_,rfl⟩
  .cases m
 rcases this with rfl|⟨l,rfl⟩
 .exact F.ctl (λ_=>stepG_end) h
 .exact F.ctl (λ_=>stepG_ret') h
theorem V7(F:aC P main (DX Ok) Ψ){todo:eF}{ch:List PanicEntry}{cap:iG}(s:a.defers=iY g cap.toArray::ds)(fn:Func)(m:P.funcs[g]? =some fn)(code:Code)(p:fn.body=some code)(h:(fn.name== "runtime.NumGoroutine")=false)(N:Nat)(O:cap.length+(fn.ntmps-cap.length)=N)(u:Sat Ok w M)(K:∀(a':Act) B,St Ok B N (rL cap 0) M 0 a' w->a'.defers=[]->w.heap.size=B->Ψ (G ((baseD g).at a' (pc P g 0 [] [])) ({b.at ⟨a.tmps,ds⟩ todo with mode:=.panicking ch}::cs)) w):Ψ (G {b.at a todo with mode:=.panicking ch} cs) w:=by
 have L:pc P g 0 [] []=[.code code]:=by unfold pc Jk sS;rw[m];simp only[fA,p,cK]
 refine F.IE s m h p ?_;rw[<-L];refine K _ _ ⟨⟨by simp;omega,λn v hl=>?_⟩,u,rfl⟩ rfl rfl;obtain⟨_,j⟩:=l8 _ 0 n v hl;simp only[A8]at j;obtain⟨z,_⟩:=nS.1 j;rw[tI (by simpa using z)];simpa using j
def recAt(t:eF)(d:Nat):Bool:=lm t&&(aQ t).guard.isNone&&(match (aQ t).dst with|some d'=>d'==d|none=>false)&&(match (aQ t).op with
 |.call c=>(match c.callee,c.args.toList with
  |.builtin .recover,[]=>true
  |_,_=>false)
 |_=>false)
theorem xY{t:eF}(h:recAt t d=true):∃j i r k ats,t=.inRegion j (i::r)::k/\j[i]? =some (aQ t)/\jY t=.inRegion j r::k/\(aQ t).guard=none/\(aQ t).dst=some d/\(aQ t).op=.call {callee:=.builtin .recover,args:=#[],argTypes:=ats}:=by
 unfold recAt at h;simp only[cq]at h;obtain⟨⟨⟨U,Q⟩,F⟩,z⟩:=h;obtain⟨j,i,r,kk,T,ho,K⟩:=dO U;refine⟨j,i,r,kk,?_⟩;generalize aQ t=o at*
 split at z
 .rename_i V G
  split at z
  .rename_i u m
   obtain⟨W,S,R⟩:=V
   simp only at u m
   have s:S=#[]:=by apply Array.toList_inj.1;rw[m]
   refine⟨R,T,ho,K,?_,?_,by rw[G,u,s]⟩
   .cases L:o.guard with
    |none=>rfl
    |some p=>rw[L]at Q;cases Q
   .split at F
    .rename_i X O;rw[O];simp at F;rw[F]
    .cases F
  .cases z
 .cases z
theorem U3(F:aC P main (DX Ok) Ψ){h:aP}(d:Nat)(hc:recAt (pc P g n bs h) d=true)(u:jY (pc P g n bs h)=pc P g (n+1) bs h)(Q:d<N)(L:cf.mode=.returning)(S:St Ok B N E M c a w)(K:∀a',St Ok B N ((d,.nilIface)::E) M c a' w->a'.defers=a.defers->Ψ (G ((baseD g).at a' (pc P g (n+1) bs h)) (cf::cs)) w):Ψ (G ((baseD g).at a (pc P g n bs h)) (cf::cs)) w:=by
 obtain⟨s,i,r,k,ats,z,ho,j,O,m,p⟩:=xY hc;rw[u]at j;generalize aQ (pc P g n bs h)=o at*;rw[z];refine F.zX ho (by simp[Region.wanted,O]) rfl rfl p L ?_;rw[<-j,m];exact K _ ⟨S.env.put Q,S.sat,S.sz⟩ (put_defers _ _ _)
theorem Zz(F:aC P main (DX Ok) Ψ){h:aP}(d:Nat)(hc:recAt (pc P g n bs h) d=true)(u:jY (pc P g n bs h)=pc P g (n+1) bs h)(Q:d<N)(L:cf.mode=.panicking (jy v))(S:St Ok B N E M c a w)(K:∀a',St Ok B N ((d,v)::E) M c a' w->a'.defers=a.defers->Ψ (G ((baseD g).at a' (pc P g (n+1) bs h)) ({cf with mode:=.panicking (pY v)}::cs)) w):Ψ (G ((baseD g).at a (pc P g n bs h)) (cf::cs)) w:=by
 obtain⟨s,i,r,k,ats,z,ho,j,O,m,p⟩:=xY hc;rw[u]at j;generalize aQ (pc P g n bs h)=o at*;rw[z];refine F.recover ho (by simp[Region.wanted,O]) rfl rfl p L ?_;rw[<-j,m];exact K _ ⟨S.env.put Q,S.sat,S.sz⟩ (put_defers _ _ _)
theorem vu(F:aC P main (DX Ok) Ψ){todo:eF}(j:ju todo=true)(h:Ψ (G {b.at a todo with mode:=.returning} cs) w):Ψ (G (b.at a todo) cs) w:=by
 have:todo=[]\/∃l,todo=.code .ret::l:=by
  unfold ju at j
  split at j
  .exact .inl rfl
  .exact .inr ⟨_,rfl⟩
  .cases j
 rcases this with rfl|⟨l,rfl⟩
 .exact F.ctl (λ_=>stepG_end) h
 .exact F.ctl (λ_=>stepG_ret') h
theorem QA(F:aC P main (DX Ok) Ψ){todo:eF}(j:ju todo=true)(s:a.defers=[])(fn:Func)(p:P.funcs[g]? =some fn)(m:fn.results=#[])(h:Ψ (G {b.at a' todo' with mode:=.returning} cs) w):Ψ (G ((baseD g).at a todo) ({b.at a' todo' with mode:=.returning}::cs)) w:=
 vu F j (F.leaveD rfl s p (resultsC_none m _) rfl h)
theorem D6(F:aC P main (DX Ok) Ψ){todo:eF}(j:ju todo=true)(s:a.defers=[])(fn:Func)(p:P.funcs[g]? =some fn)(m:fn.results=#[]){v:ay}(h:Ψ (G {b.at a' todo' with mode:=.returning} cs) w):Ψ (G ((baseD g).at a todo) ({b.at a' todo' with mode:=.panicking (pY v)}::cs)) w:=
 vu F j (F.N1 rfl s p (resultsC_none m _) rfl h)
theorem Je(F:aC P main (DX Ok) Ψ)(V:aN E N a)(U:Sat Ok w M)(O:b.kind=.normal)(Q:b.fn=f)(T:a.defers=[])(j:List Hint)(v:ay)(h:(iS P ⟨f,N,[],E⟩ ⟨j,M,0,[],[]⟩).map (λp=>(p.1,p.2.cT))=some (v,[]))(z:(iS P ⟨f,N,[],E⟩ ⟨j,M,0,[],[]⟩).map (λp=>p.2.eqs.map Prod.fst)=(iS P ⟨f,N,[],E⟩ ⟨j,M,0,[],[]⟩).map (λp=>p.2.eqs.map Prod.snd))(K:Ψ (G (cf.finish v) cs) w):Ψ (G {b.at a todo' with mode:=.returning} (cf::cs)) w:=by
 cases u:iS P ⟨f,N,[],E⟩ ⟨j,M,0,[],[]⟩with
 |none=>rw[u]at h;cases h
 |some p=>
  obtain⟨X,Y⟩:=p;rw[u]at h z;simp only[fy,Option.some.injEq,Prod.mk.injEq]at h z;obtain⟨rfl,W⟩:=h;obtain⟨fn,L,s,m,S,R⟩:=qK u (fq _ z) (by rw[W];simp) V U;exact F.vX O T (by rw[Q];exact L) s m K
def Lu(E:Env)(t:eF):Option Value:=bif lm t&&(aQ t).guard.isNone then(match (aQ t).op with
 |.panic r=>bif kn E r then some (ev E r)else none
 |_=>none)else none
theorem pnz(F:aC P main (DX Ok) Ψ)(z:UG b f){h:aP}(t:TypeId)(x:ay)(hc:Lu E (pc P f n bs h)=some (.iface t x))(fn:Func)(U:P.funcs[f]? =some fn)(V:a.defers=[])(S:St Ok B N E M c a w)(K:Ψ (G (cf.raise (jy (.iface t x))) cs) w):Ψ (G (b.at a (pc P f n bs h)) (cf::cs)) w:=by
 unfold Lu at hc;cases m:(lm (pc P f n bs h)&&(aQ (pc P f n bs h)).guard.isNone)with
 |false=>rw[m]at hc;cases hc
 |true=>
  rw[m]at hc;simp only[cond_true]at hc;simp only[cq]at m;obtain⟨O,i,r,kk,Q,ho,R⟩:=dO m.1
  have T:(aQ (pc P f n bs h)).guard=none:=by
   cases u:(aQ (pc P f n bs h)).guard with
   |none=>rfl
   |some p=>rw[u]at m;cases m.2
  generalize aQ (pc P f n bs h)=o at*
  split at hc
  .rename_i L s
   cases j:kn E L with
   |false=>rw[j]at hc;cases hc
   |true=>
    rw[j]at hc;simp only[cond_true,Option.some.injEq]at hc;rw[Q];exact F.panic ho (by simp[Region.wanted,T]) z.m s (by rw[S.env.eval j];exact hc) (F.ow V (by rw[z.f];exact U) K)
  .cases hc
end
theorem aB:Tryz.prog.follows .mixedOrders=true:=by kernel_rfl
def uI(P:aI)(N:Nat)(E:Env)(Z:aX)(hs:List Hint)(ops:b9)(q q0:Nat):Option (List Rec×cL):=
 bif pI ops (Region.before ops) q&&(dstsOf ops q).all (λd=>Nat.blt d N)&&Nat.blt q0 q then
  (match iX P 0 ops (Region.before ops) (cv E (dstsOf ops q)) Z 0 (I1 (Region.before ops) q q0) [] none (X0 hs Z)with
  |some (fK,none,y)=>some (fK,y)
  |_=>none)
 else none
def lQ(P:aI)(N:Nat)(E:Env)(Z:aX)(hs yz:List Hint)(ops:b9)(q q0:Nat)(v:ay):Option (List Rec×cL):=match uI P N E Z hs ops q q0,ops[q0]? with
 |some (fK,_),some o=>(match iX P 0 ops (Region.before ops) (cv E (dstsOf ops q)) Z 0 (I2 (Region.before ops) q q0) (⟨q0,o,[],X0 hs Z,v,X0 hs Z⟩::fK) none (X0 yz Z)with
  |some (FJ,none,y)=>some (FJ,y)
  |_=>none)
 |_,_=>none
def K7(E:Env)(ops:b9)(q q0:Nat)(live:aP)(r:Option (List Rec×cL)):Option (List (Option Value)×Bool):=r.map λr=>(live.map (look (iB (Region.before ops) q0 r.1++cv E (dstsOf ops q))),r7 r.2)
def E4(E:Env)(ops:b9)(q:Nat)(live:aP)(r:Option (List Rec×cL)):Option (List (Option Value)×Bool):=r.map λr=>(live.map (look (kO r.1 (cv E (dstsOf ops q)))),r7 r.2)
def D4(f:Addr×Addr->Addr)(r:Option (List Rec×cL)):List Addr:=match r with
 |some (_,y)=>y.m.eqs.map f
 |none=>[]
def Mn(P:aI)(E:Env)(ops:b9)(q0 d:Nat):Option (Nat×Array Value):=match ops[q0]? with
 |some o=>bif !lU o&&o.guard.isNone&&o.op.operands.all (kn E)&&(match o.dst with|some d'=>d'==d|none=>false)then
  (match cS P (execOp (ev E) o)with
  |some (.enter f args)=>some (f,args)
  |_=>none)
  else none
 |none=>none
section
variable{Ok:γ->Addr->Bool->Prop}{Ψ:γ->Goroutine->World->Prop}
structure Y6(P:aI)(Ok:γ->Addr->Bool->Prop)(Ψ:γ->Goroutine->World->Prop)(Bd:γ->Nat)(b:aE)(cs:cW)(f n:Nat)(bs:fL)(qs:aP)(q q0 N:Nat)(E:Env)(Z:aX)(hs:List Hint)(ds:xh)(cf:aE):Prop where
 ret:∀p v w2 (yz:List Hint) (E2:Env) (M2:aX),Bd p<=w2.heap.size->Sat (Ok p) w2 Z->Sat (Ok p) w2 M2->
  E4 E (aL (pc P f n bs qs)) q (E2.map Prod.fst) (lQ P N E Z hs yz (aL (pc P f n bs qs)) q q0 v)=some (E2.map (λp=>some p.2),true)->
  D4 Prod.fst (lQ P N E Z hs yz (aL (pc P f n bs qs)) q q0 v)=D4 Prod.snd (lQ P N E Z hs yz (aL (pc P f n bs qs)) q q0 v)->
  (∀a2 w3 B3,St (Ok p) B3 N E2 M2 0 a2 w3->a2.defers=ds->w3.heap.size=B3->w3.heap.size=w2.heap.size->Ψ p (G (b.at a2 (pc P f (n+1) bs (qs++[q]))) cs) w3)->Ψ p (G (cf.finish v) cs) w2
 Qx:∃a1 t1,cf=b.at a1 t1/\a1.defers=ds/\aN (cv E (dstsOf (aL (pc P f n bs qs)) q)) N a1
theorem VD(F:∀p,aC P main (DX (Ok p)) (Ψ p))(GL:P.follows .mixedOrders=true)(hB:∀p (a:Addr) (wr:Bool),Bd p<=a.block->Ok p a wr)(hk:b.kind=.normal){z:aP}(q q0:Nat)(Z:aX)(T:List Hint)(E1:Env)(d g:Nat)(args:fW){p0:γ}(ht:mU (pc P f n bs z)=true)(Qf:.inRegion (aL (pc P f n bs z)) (bM q ((aL (pc P f n bs z)).size-q))::behind (pc P f n bs z)=pc P f (n+1) bs (z++[q]))(hv:K7 E (aL (pc P f n bs z)) q q0 (E1.map Prod.fst) (uI P N E Z T (aL (pc P f n bs z)) q q0)=some (E1.map (λp=>some p.2),true))(hq:D4 Prod.fst (uI P N E Z T (aL (pc P f n bs z)) q q0)=D4 Prod.snd (uI P N E Z T (aL (pc P f n bs z)) q q0))(hc:Mn P E1 (aL (pc P f n bs z)) q0 d=some (g,args))(S:St (Ok p0) B N E M c a w)(sH:Sat (Ok p0) w Z)(gp:Bd p0<=w.heap.size)(K:∀cf w1,Sat (Ok p0) w1 M->w1.heap.size=w.heap.size->Y6 P Ok Ψ Bd b cs f n bs z q q0 N E Z T a.defers cf->Ψ p0 (G (Frame.enter P g args .normal) (cf::cs)) w1):Ψ p0 (G (b.at a (pc P f n bs z)) cs) w:=by
 have WX:∃id k,pc P f n bs z=.code (.region id (aL (pc P f n bs z)) true)::k/\behind (pc P f n bs z)=k:=by
  unfold mU at ht
  split at ht
  .rename_i id j k h;exact⟨id,k,by rw[h];rfl,by rw[h];rfl⟩
  .cases ht
 obtain⟨id,k,e1,e2⟩:=WX;generalize X:aL (pc P f n bs z)=j at*;cases m:uI P N E Z T j q q0 with
 |none=>rw[m]at hv;cases hv
 |some rx=>
  obtain⟨Zy,x1⟩:=rx;have W8:=m;rw[m]at hv hq;simp only[K7,fy,Option.some.injEq,Prod.mk.injEq]at hv;have uQ:x1.m.eqs.map Prod.fst=x1.m.eqs.map Prod.snd:=hq;unfold uI at m;obtain⟨hb,m⟩:=aD m;simp only[cq]at hb;obtain⟨⟨Sy,JX⟩,kU⟩:=hb;have Cc:q0<q:=by simpa using kU
  split at m
  .rename_i fK y Q
   cases m
   have hN:∀d∈dstsOf j q,d<N:=λd hd=>by have:=eP.1 JX d hd;simpa using this
   unfold Mn at hc
   split at hc
   .rename_i o ho
    obtain⟨Ew,hc⟩:=aD hc;simp only[cq,mF]at Ew;obtain⟨⟨⟨h2,h3⟩,h4⟩,h5⟩:=Ew
    have hg:o.guard=none:=by
     cases XD:o.guard with
     |none=>rfl
     |some p=>rw[XD]at h3;cases h3
    split at hc
    .rename_i f' aab JJ
     cases hc
     rw[e1]
     refine T5 F GL hB (by rw[hk];decide) ho Sy Cc hN (λd v hl=>(gP E _ d v hl).2) ⟨S.env.sz,λd v hl=>S.env.val d v (gP E _ d v hl).1⟩ sH gp Q (mq hv.2 uQ)
      (Post:=λp v w2=>Bd p<=w2.heap.size/\Sat (Ok p) w2 Z/\∃(L:List Hint)(E2:Env)(M2:aX),Sat (Ok p) w2 M2/\E4 E j q (E2.map Prod.fst) (lQ P N E Z T L j q q0 v)=some (E2.map (λp=>some p.2),true)/\D4 Prod.fst (lQ P N E Z T L j q q0 v)=D4 Prod.snd (lQ P N E Z T L j q q0 v)/\
        (∀a2 Y B3,St (Ok p) B3 N E2 M2 0 a2 Y->a2.defers=a.defers->Y.heap.size=B3->Y.heap.size=w2.heap.size->Ψ p (G (b.at a2 (pc P f (n+1) bs (z++[q]))) cs) Y))
      (λa1 w1 rest V kJ pP iH Sw=>?_) (λp v w2 ⟨p1,p2,L,E2,M2,p3,p4,p5,p6⟩=>?_)
     .have U:aN E1 N a1:=⟨V.sz,λd v hl=>V.val d v (eZ E1 _ hv.1 d v hl)⟩
      have R:execOp a1.eval o=execOp (ev E1) o:=execOp_congr h2 λy hy=>U.eval (zC.1 h4 y hy)
      have Ih:=fP _ _ JJ;refine(F p0).enter ho (by simp[Region.wanted,hg]) (by rw[hk];decide) (λd=>?_) (λd=>?_) (K _ w1 (S.sat.keep pP) iH ⟨λp v w2 L E2 M2 r1 r2 r3 r4 r5 r6=>?_,a1,_,rfl,kJ,?_⟩)
      .rw[R,<-fu (es:=#[]),Ih]
      .unfold Sem.events;rw[R,Ih]
      .rw[bO,ho]
       rw[X]at r4 r5;exact Sw p v w2 ⟨r1,r2,L,E2,M2,r3,r4,r5,r6⟩
      .rw[X]
       refine⟨V.sz,λd v hl=>V.val d v ?_⟩
       have:∀(l:List Rec)(i:Nat),(∀r∈l,∀dd,r.o.dst=some dd->dd∈dstsOf j q)->look (iB (Region.before j) i l) d=none:=by
        intro l i uR;cases hz:look (iB (Region.before j) i l) d with
        |none=>rfl
        |some u=>
         obtain⟨s,s1,s2,s3,s4⟩:=jO (Region.before j) i l d u hz;exact absurd (uR s s1 d s3) (gP E _ d v hl).2
       have Xt:∀(W Za:Env),look W d=none->look (W++Za) d=look Za d:=by
        intro W Za h0
        induction W with
        |nil=>rfl
        |cons x l ih=>
         obtain⟨k1,v1⟩:=x;simp only[look]at h0;cases LR:(k1==d)with
         |true=>rw[LR]at h0;cases h0
         |false=>rw[LR]at h0;simp only[xC,look,LR];exact ih h0
       rw[Xt _ _ (this _ _ ?_)]
       .exact hl
       .obtain⟨_,_,_,s1⟩:=wz Q (mq hv.2 uQ) (uB.filter _) (by simp) (by simp)
        intro r hr dd Es;obtain⟨z1,z2⟩:=(s1 r hr).resolve_left (by simp);exact vo.2 ⟨r.i,bp.2 (pL.1 z1).1,by rw[z2.op];exact Es⟩
     .refine⟨p1,p2,?_⟩
      cases O:lQ P N E Z T L j q q0 v with
      |none=>rw[O]at p4;cases p4
      |some r2=>
       obtain⟨FJ,x3⟩:=r2;rw[O]at p4 p5;simp only[E4,fy,Option.some.injEq,Prod.mk.injEq]at p4;have p5':x3.m.eqs.map Prod.fst=x3.m.eqs.map Prod.snd:=p5;unfold lQ at O;rw[W8,ho]at O
       simp only at O
       split at O
       .rename_i r2 y2 DI
        cases O
        refine⟨X0 L Z,FJ,x3,DI,mq p4.2 p5',λa2 Y U jQ SY gQ=>?_⟩;rw[<-e2,Qf];exact p6 a2 Y Y.heap.size ⟨⟨U.sz,λd v hl=>U.val d v (eZ E2 _ p4.1 d v hl)⟩,p3.keep SY,rfl⟩ jQ rfl gQ
       .cases O
    .cases hc
   .cases hc
  .cases m
end
section
variable{Ok:dw}{Ψ:gi}
theorem wZ(F:aC P main (DX Ok) Ψ)(R:P.follows .mixedOrders=true)(hB:HB J Ok)(T:J<=B)(hd:a.defers=ds)(n:Nat)(L:List Hint)(bs:iM)(u:aP)(Q:Env)(ed:List aJ->List aJ)(O:Nat)(Y:Nat)(s:fL)(m:aP)(dm:iM)(eU:List (Int×Nat))(j:List (Nat×Nat))(h:fin c (Q.map Prod.fst) (bH P B n ⟨[⟨f,N,pc P f I H D,E⟩],⟨L,M,c,[],[]⟩,bs,[],[]⟩ u)=some (N,pc P f Y s m,Q.map (λp=>some p.2),ed M,O,dm,eU,j))(hq:Ki (bH P B n ⟨[⟨f,N,pc P f I H D,E⟩],⟨L,M,c,[],[]⟩,bs,[],[]⟩ u)=Kg (bH P B n ⟨[⟨f,N,pc P f I H D,E⟩],⟨L,M,c,[],[]⟩,bs,[],[]⟩ u))(W:∀p∈dm,p.1=p.2)(U:∀p∈eU,0<=p.1/\p.1<(p.2:Int))(X:∀p∈j,p.1<p.2)(S:St Ok B N E M c a w)(K:∀a' w',St Ok B N Q (ed M) O a' w'->a'.defers=ds->w'.heap.size=B+O->w.heap.size<=w'.heap.size->Fr (Wr M) w w'->Ψ (G ((baseD g).at a' (pc P f Y s m)) cs) w'):Ψ (G ((baseD g).at a (pc P f I H D)) cs) w:=
 blk F R (λa wr z=>hB a wr (aT T z)) (by show CallKind.deferred≠.early;decide) n f L bs u c Q (ed M) O _ dm eU j h hq W U X S λa' w' S' V fr _=>K a' w' S' (V.trans hd) S'.sz fr.size fr
theorem YS(F:aC P main (DX Ok) Ψ){L:Nat}(R:a.defers=ds){m:aP}(d h:Nat)(args:fW)(hc:l5 P E (pc P f n bs m) d=some (h,args))(hn:jY (pc P f n bs m)=pc P f (n+1) bs m)(hd:d<N)(S:St Ok B N E M c a w)(K:∀cf,Y7 P Ok Ψ (baseD L) cs f (n+1) bs m N d E ds cf->Ψ (G (Frame.enter P h args .normal) (cf::cs)) w):Ψ (G ((baseD L).at a (pc P f n bs m)) cs) w:=by
 unfold l5 at hc;obtain⟨W,hc⟩:=aD hc;simp only[cq,mF]at W;obtain⟨⟨⟨⟨h1,h2⟩,h3⟩,h4⟩,z⟩:=W;obtain⟨O,i,r,kk,V,ho,Q⟩:=dO h1
 split at hc
 .rename_i f' U Y
  cases hc
  have hg:=AH h3 S.env V
  have u:(aQ (pc P f n bs m)).dst=some d:=by
   split at z
   .rename_i d' T;rw[T];simp at z;rw[z]
   .cases z
  have j:execOp a.eval (aQ (pc P f n bs m))=execOp (ev E) (aQ (pc P f n bs m)):=execOp_congr h2 λy X=>S.env.eval (zC.1 h4 y X)
  have p:=fP _ _ Y
  have s:∀v,((baseD L).at a (.inRegion O (i::r)::kk)).finish v=(baseD L).at (a.put (some d) v) (pc P f (n+1) bs m):=λv=>by
   rw[bO,ho,<-hn,Q];simp only[fA,u]
  generalize aQ (pc P f n bs m)=o at*;rw[V];refine F.enter (f:=h) (args:=args) ho hg (by show CallKind.deferred≠.early;decide) (λd=>?_) (λd=>?_) (K _ λv w' M' hS KK=>?_)
  .rw[j,<-fu (es:=#[]),p]
  .unfold Sem.events;rw[j,p]
  .rw[s];exact KK _ _ ⟨S.env.put hd,hS,rfl⟩ ((put_defers _ _ _).trans R) rfl
 .cases hc
structure Y5(P:aI)(b:aE)(cs:cW)(f n:Nat)(bs:fL)(qs:aP)(N d:Nat)(E:Env)(ds:xh)(cf:aE):Prop where
 ret:∀(Ok:dw)(Ψ:gi) v w' M,Sat Ok w' M->(∀a' B',St Ok B' N ((d,v)::E) M 0 a' w'->a'.defers=ds->w'.heap.size=B'->Ψ (G (b.at a' (pc P f n bs qs)) cs) w')->Ψ (G (cf.finish v) cs) w'
 Qx:∃a1 t1,cf=b.at a1 t1/\a1.defers=ds/\aN E N a1
theorem Mm(F:aC P main (DX Ok) Ψ)(hk:b.kind=.normal)(z:a.defers=ds){m:aP}(d h:Nat)(args:fW)(hc:l5 P E (pc P f n bs m) d=some (h,args))(hn:jY (pc P f n bs m)=pc P f (n+1) bs m)(hd:d<N)(S:St Ok B N E M c a w)(K:∀cf,Y5 P b cs f (n+1) bs m N d E ds cf->Ψ (G (Frame.enter P h args .normal) (cf::cs)) w):Ψ (G (b.at a (pc P f n bs m)) cs) w:=by
 unfold l5 at hc;obtain⟨V,hc⟩:=aD hc;simp only[cq,mF]at V;obtain⟨⟨⟨⟨h1,h2⟩,h3⟩,h4⟩,L⟩:=V;obtain⟨O,i,r,kk,U,ho,Q⟩:=dO h1
 split at hc
 .rename_i f' T Y
  cases hc
  have hg:=AH h3 S.env U
  have u:(aQ (pc P f n bs m)).dst=some d:=by
   split at L
   .rename_i d' R;rw[R];simp at L;rw[L]
   .cases L
  have j:execOp a.eval (aQ (pc P f n bs m))=execOp (ev E) (aQ (pc P f n bs m)):=execOp_congr h2 λy X=>S.env.eval (zC.1 h4 y X)
  have p:=fP _ _ Y
  have s:∀v,(b.at a (.inRegion O (i::r)::kk)).finish v=b.at (a.put (some d) v) (pc P f (n+1) bs m):=λv=>by
   rw[bO,ho,<-hn,Q];simp only[fA,u]
  generalize aQ (pc P f n bs m)=o at*;rw[U];refine F.enter (f:=h) (args:=args) ho hg (by rw[hk];decide) (λd=>?_) (λd=>?_) (K _ ⟨λVG W v w' M' hS KK=>?_,a,_,rfl,z,S.env⟩)
  .rw[j,<-fu (es:=#[]),p]
  .unfold Sem.events;rw[j,p]
  .rw[s];exact KK _ _ ⟨S.env.put hd,hS,rfl⟩ ((put_defers _ _ _).trans z) rfl
 .cases hc
end
def Hq:List Nat->List Hint
 |r::j::c::n::l=>(List.range (n % 100)).map (λi=>(r,(j,c+i),Nat.blt n 100))++Hq l
 |_=>[]
def Bq:List Nat->List (Bool×Bool)
 |n::l=>(Nat.blt 1 n,n % 2==1)::Bq l
 |[]=>[]
def Rq{α:Type}:List (Nat×α)->List α
 |(n,a)::l=>List.replicate n a++Rq l
 |[]=>[]
theorem Ia{α:Type}{Q:α->Prop}:∀{l:List (Nat×α)},(∀p∈l,Q p.2)->∀p∈Rq l,Q p
 |[],_,p,j=>by cases j
 |(n,a)::l,h,p,j=>by
  rcases dZ.1 j with j|j
  .rw[(List.mem_replicate.1 j).2];exact h (n,a) (bS ..)
  .exact Ia (λq m=>h q (aO _ m)) p j
section
variable{Ok:dw}{Ψ:gi}
theorem bA(F:aC prog main (DX Ok) Ψ)(hB:HB J Ok)(hk:b.kind=.normal)(X:a.defers=ds)(S:St Ok B N E M c a w)(n:Nat)(z bs u:aP)(O:Env)(ed:List aJ->List aJ)(L Q:Nat)(s:fL)(m:aP)(dm:iM)(eU:List (Int×Nat))(j:List (Nat×(Nat×Nat)))(K:∀a' w',St Ok B N O (ed M) L a' w'->a'.defers=ds->w'.heap.size=B+L->w.heap.size<=w'.heap.size->Fr (Wr M) w w'->Ψ (G (b.at a' (pc prog f Q s m)) cs) w')(h:fin c (O.map Prod.fst) (bH prog B n ⟨[⟨f,N,pc prog f I H D,E⟩],⟨Hq z,M,c,[],[]⟩,Bq bs,[],[]⟩ u)=some (N,pc prog f Q s m,O.map (λp=>some p.2),ed M,L,dm,eU,Rq j):=by kernel_rfl)(W:Ki (bH prog B n ⟨[⟨f,N,pc prog f I H D,E⟩],⟨Hq z,M,c,[],[]⟩,Bq bs,[],[]⟩ u)=Kg (bH prog B n ⟨[⟨f,N,pc prog f I H D,E⟩],⟨Hq z,M,c,[],[]⟩,Bq bs,[],[]⟩ u):=by kernel_rfl)(R:J<=B:=by omega)(U:∀p∈dm,p.1=p.2:=by repeat' first|exact cg|refine nO ?_ ?_|assumption|rfl|(simp;omega)|(dsimp only;omega)|simp_all)(T:∀p∈eU,0<=p.1/\p.1<(p.2:Int):=by repeat' first|exact cg|refine nO ?_ ?_|(dsimp only;omega))(V:∀p∈j,p.2.1<p.2.2:=by repeat' first|exact cg|refine nO ?_ ?_|(dsimp only;omega)):Ψ (G (b.at a (pc prog f I H D)) cs) w:=
 KA F aB hB R hk X n (Hq z) (Bq bs) u O ed L Q s m dm eU (Rq j) h W U T (Ia V) S K
theorem aq(F:aC prog main (DX Ok) Ψ)(hB:HB J Ok)(hk:b.kind=.normal)(T:a.defers=ds)(S:St Ok B N E M c a w)(n:Nat)(u bs s:aP)(L:Env)(ed:List aJ->List aJ)(z O:Nat)(m:fL)(j:aP)(K:∀a' w',St Ok B N L (ed M) z a' w'->a'.defers=ds->w'.heap.size=B+z->w.heap.size<=w'.heap.size->Fr (Wr M) w w'->Ψ (G (b.at a' (pc prog f O m j)) cs) w')(h:fin c (L.map Prod.fst) (bH prog B n ⟨[⟨f,N,pc prog f I H D,E⟩],⟨Hq u,M,c,[],[]⟩,Bq bs,[],[]⟩ s)=some (N,pc prog f O m j,L.map (λp=>some p.2),ed M,z,[],[],[]):=by kernel_rfl)(R:Ki (bH prog B n ⟨[⟨f,N,pc prog f I H D,E⟩],⟨Hq u,M,c,[],[]⟩,Bq bs,[],[]⟩ s)=Kg (bH prog B n ⟨[⟨f,N,pc prog f I H D,E⟩],⟨Hq u,M,c,[],[]⟩,Bq bs,[],[]⟩ s):=by kernel_rfl)(Q:J<=B:=by omega):Ψ (G (b.at a (pc prog f I H D)) cs) w:=
 KA F aB hB Q hk T n (Hq u) (Bq bs) s L ed z O m j [] [] [] h R cg cg cg S K
theorem cV(F:aC prog main (DX Ok) Ψ){todo:eF}(S:St Ok B N E M c a w)(m:b.kind=.normal)(s:b.fn=f)(L:a.defers=[])(j:aP)(v:ay)(K:Ψ (G (cf.finish v) cs) w)(u:ju todo=true:=by kernel_rfl)(h:(iS prog ⟨f,N,todo,E⟩ ⟨Hq j,M,c,[],[]⟩).map (λp=>(p.1,p.2.cT))=some (v,[]):=by kernel_rfl)(z:(iS prog ⟨f,N,todo,E⟩ ⟨Hq j,M,c,[],[]⟩).map (λp=>p.2.eqs.map Prod.fst)=(iS prog ⟨f,N,todo,E⟩ ⟨Hq j,M,c,[],[]⟩).map (λp=>p.2.eqs.map Prod.snd):=by kernel_rfl):Ψ (G (b.at a todo) (cf::cs)) w:=
 V8 F S m s L (Hq j) v u h z K
theorem bK(F:aC prog main (DX Ok) Ψ)(hk:b.kind=.normal)(j:a.defers=ds)(S:St Ok B N E M c a w)(d h:Nat)(args:fW)(K:∀cf,Y7 prog Ok Ψ b cs f (I+1) H D N d E ds cf->Ψ (G (Frame.enter prog h args .normal) (cf::cs)) w)(hc:l5 prog E (pc prog f I H D) d=some (h,args):=by kernel_rfl)(m:jY (pc prog f I H D)=pc prog f (I+1) H D:=by kernel_rfl)(p:d<N:=by decide):Ψ (G (b.at a (pc prog f I H D)) cs) w:=
 clz F hk j d h args hc m p S K
theorem Sat.sat(h:Sat Ok w M):Sat Ok w M:=h
theorem bP(F:aC prog main (DX Ok) Ψ)(hB:HB J Ok)(hk:b.kind=.normal)(X:b.fn=f)(Y:a.defers=[])(S:St Ok B N E M c a w)(n:Nat)(L bs z:aP)(r:Nat)(v:ay)(ed:List aJ->List aJ)(u s:Nat)(m:fL)(j:aP)(K:∀w',Sat Ok w' (ed M)->w'.heap.size=B+u->w.heap.size<=w'.heap.size->Ψ (G (cf.finish v) cs) w')(h:fin c [r] (bH prog B n ⟨[⟨f,N,pc prog f I H D,E⟩],⟨Hq L,M,c,[],[]⟩,Bq bs,[],[]⟩ z)=some (N,pc prog f s m j,[some v],ed M,u,[],[],[]):=by kernel_rfl)(W:Ki (bH prog B n ⟨[⟨f,N,pc prog f I H D,E⟩],⟨Hq L,M,c,[],[]⟩,Bq bs,[],[]⟩ z)=Kg (bH prog B n ⟨[⟨f,N,pc prog f I H D,E⟩],⟨Hq L,M,c,[],[]⟩,Bq bs,[],[]⟩ z):=by kernel_rfl)(O:ju (pc prog f s m j)=true/\(iS prog ⟨f,N,pc prog f s m j,[(r,v)]⟩ ⟨[],ed M,u,[],[]⟩).map (λp=>(p.1,p.2.cT))=some (v,[])/\(iS prog ⟨f,N,pc prog f s m j,[(r,v)]⟩ ⟨[],ed M,u,[],[]⟩).map (λp=>p.2.eqs.map Prod.fst)=(iS prog ⟨f,N,pc prog f s m j,[(r,v)]⟩ ⟨[],ed M,u,[],[]⟩).map (λp=>p.2.eqs.map Prod.snd):=by exact⟨by kernel_rfl,by kernel_rfl,by kernel_rfl⟩)(Q:J<=B:=by omega):Ψ (G (b.at a (pc prog f I H D)) (cf::cs)) w:=
 KA F aB hB Q hk Y n (Hq L) (Bq bs) z [(r,v)] ed u s m j [] [] [] h W cg cg cg S λa' w' T R U V _=>V8 F T hk X R [] v O.1 O.2.1 O.2.2 (K w' T.sat U V)
theorem qC(F:aC prog main (DX Ok) Ψ)(hB:HB J Ok)(hk:b.kind=.normal)(hf:b.fn=f)(hd:a.defers=[])(S:St Ok B N E M c a w)(n:Nat)(O bs L:aP)(r:Nat)(v:ay)(ed:List aJ->List aJ)(z u:Nat)(m:fL)(j:aP)(dm:iM)(eU:List (Int×Nat))(s:List (Nat×(Nat×Nat)))(K:∀w',Sat Ok w' (ed M)->w'.heap.size=B+z->w.heap.size<=w'.heap.size->Ψ (G (cf.finish v) cs) w')(h:fin c [r] (bH prog B n ⟨[⟨f,N,pc prog f I H D,E⟩],⟨Hq O,M,c,[],[]⟩,Bq bs,[],[]⟩ L)=some (N,pc prog f u m j,[some v],ed M,z,dm,eU,Rq s):=by kernel_rfl)(hq:Ki (bH prog B n ⟨[⟨f,N,pc prog f I H D,E⟩],⟨Hq O,M,c,[],[]⟩,Bq bs,[],[]⟩ L)=Kg (bH prog B n ⟨[⟨f,N,pc prog f I H D,E⟩],⟨Hq O,M,c,[],[]⟩,Bq bs,[],[]⟩ L):=by kernel_rfl)(Q:ju (pc prog f u m j)=true/\(iS prog ⟨f,N,pc prog f u m j,[(r,v)]⟩ ⟨[],ed M,z,[],[]⟩).map (λp=>(p.1,p.2.cT))=some (v,[])/\(iS prog ⟨f,N,pc prog f u m j,[(r,v)]⟩ ⟨[],ed M,z,[],[]⟩).map (λp=>p.2.eqs.map Prod.fst)=(iS prog ⟨f,N,pc prog f u m j,[(r,v)]⟩ ⟨[],ed M,z,[],[]⟩).map (λp=>p.2.eqs.map Prod.snd):=by exact⟨by kernel_rfl,by kernel_rfl,by kernel_rfl⟩)(R:J<=B:=by omega)(V:∀p∈dm,p.1=p.2:=by repeat' first|exact cg|refine nO ?_ ?_|assumption|rfl|(simp;omega)|(dsimp only;omega)|simp_all)(T:∀p∈eU,0<=p.1/\p.1<(p.2:Int):=by repeat' first|exact cg|refine nO ?_ ?_|(dsimp only;omega))(W:∀p∈s,p.2.1<p.2.2:=by repeat' first|exact cg|refine nO ?_ ?_|(dsimp only;omega)):Ψ (G (b.at a (pc prog f I H D)) (cf::cs)) w:=
 KA F aB hB R hk hd n (Hq O) (Bq bs) L [(r,v)] ed z u m j dm eU (Rq s) h hq V T (Ia W) S λa' w' X U Y hy _=>V8 F X hk hf U [] v Q.1 Q.2.1 Q.2.2 (K w' X.sat Y hy)
end
structure uq(Ok:dw)(w:aj)(r:aJ):Prop where
 val:∀j,r.has j->w.cell? (r.ad j)=some (r.get j)
 ok:∀j,r.has j->Ok (r.ad j) false/\(r.wr=true->Ok (r.ad j) true/\w.frozen? (r.ad j)=false)
 inj:r.wr=true->∀j j',r.has j->r.has j'->r.ad j=r.ad j'->j=j'
 row:∀g e n,r.row=some (g,e,n)->r.has (0,0)/\(r.ad (0,0)).block=g/\p8 w g e n
def Dj(r r':aJ):Prop:=r.wr=true\/r'.wr=true->∀j j',r.has j->r'.has j'->r.ad j≠r'.ad j'
theorem Dj.symm{r r':aJ}(h:Dj r r'):Dj r' r:=λm j j' s p e=>h m.symm j' j p s e.symm
theorem dN:∀(M:aX)(i:Nat),nth M i=M[i]?
 |[],i=>by simp[nth]
 |x::M,0=>rfl
 |x::M,i+1=>by simp[nth,dN M i]
theorem sat_iff{Ok:dw}:Sat Ok w M↔(∀r∈M,uq Ok w r)/\M.Pairwise Dj:=by
 constructor
 .intro h
  refine⟨λr U=>?_,?_⟩
  .obtain⟨i,m⟩:=CW U
   rw[<-dN]at m;exact⟨h.val i r m,h.ok i r m,λp j j' u F e=>(h.sep i r i r m m p j j' u F e).2,h.row i r m⟩
  .rw[MQ]
   intro i j m hj V p a b u F e;have T:nth M i=some M[i]:=by rw[dN,oY m]
   have S:nth M j=some M[j]:=by rw[dN,oY hj]
   rcases p with p|p
   .have:=(h.sep i _ j _ T S p a b u F e).1;omega
   .have:=(h.sep j _ i _ S T p b a F u e.symm).1;omega
 .rintro ⟨u,F⟩
  have K:∀i r,nth M i=some r->r∈M:=λi r m=>by rw[dN]at m;exact tH m
  refine⟨λi r m=>(u r (K i r m)).val,λi r m=>(u r (K i r m)).ok,λi r L r' m s p j j' hj G e=>?_,λi r m=>(u r (K i r m)).row⟩;rw[MQ]at F;have O:=K i r m;rw[dN]at m s;obtain⟨R,e1⟩:=nS.1 m;obtain⟨Q,e2⟩:=nS.1 s;rcases MC i L with z|z|z
  .have:=F i L R Q z
   rw[e1,e2]at this;exact absurd e (this (.inl p) j j' hj G)
  .subst z
   rw[m]at s;cases s;exact⟨rfl,(u r O).inj p j j' hj G e⟩
  .have:=F L i Q R z
   rw[e1,e2]at this;exact absurd e.symm (this (.inr p) j' j G hj)
theorem Sat.perm{Ok:dw}(h:Sat Ok w M)(j:M.Perm M'):Sat Ok w M':=by
 rw[sat_iff]at h ⊢;exact⟨λr m=>h.1 r (j.mem_iff.2 m),(j.pairwise_iff (λh=>Dj.symm h)).1 h.2⟩
theorem Sat.sub{Ok:dw}(h:Sat Ok w M)(j:M'.Sublist M):Sat Ok w M':=by
 rw[sat_iff]at h ⊢;exact⟨λr m=>h.1 r (j.subset m),h.2.sublist j⟩
theorem Sat.mem{Ok:dw}(h:Sat Ok w M)(j:r∈M):uq Ok w r:=(sat_iff.1 h).1 r j
theorem St.dD{Ok:dw}(S:St Ok B N E M c a w)(j:Env)(h:(j.map Prod.fst).map (look E)=j.map (λp=>some p.2)):St Ok B N j M c a w:=⟨⟨S.env.sz,λd u hl=>S.env.val d u (eZ j E h d u hl)⟩,S.sat,S.sz⟩
theorem Sat.ff{Ok:dw}(h:Sat Ok w M)(z:r.n=0)(u:r.row=none):Sat Ok w (r::M):=by
 rw[sat_iff]at h ⊢;have m:∀j,¬r.has j:=λj hj=>by have:=hj.1;omega
 refine⟨λx p=>?_,dI.2 ⟨λx _ _ j j' hj=>absurd hj (m j),h.2⟩⟩;rcases ak.1 p with rfl|p
 .exact⟨λj hj=>absurd hj (m j),λj hj=>absurd hj (m j),λ_ j _ hj=>absurd hj (m j),λg e n s=>by rw[u]at s;cases s⟩
 .exact h.1 x p
section
variable{Ok:dw}
theorem rX{b k:Nat}{f:fH}(h:∀j,j<n->∀i,i<k->w.cell? ⟨b,j*k+i,none⟩=some ((f j).getD i undef)/\w.frozen? ⟨b,j*k+i,none⟩=false)(ho:∀(a:Addr)(wr:Bool),a.block=b->Ok a wr):uq Ok w (fR ⟨b,0,none⟩ k f n true):=by
 have ea:∀j:Ix,(fR ⟨b,0,none⟩ k f n true).ad j=⟨b,j.1*k+j.2,none⟩:=λj=>by show((⟨b,0,none⟩:Addr).add (j.1*k)).add j.2=_;rw[add_add]
 refine⟨λj hj=>by rw[ea];exact(h j.1 hj.1 j.2 hj.2).1,λj hj=>?_,λ_ j j' hj m e=>?_,λg e n z=>(by cases z)⟩
 .rw[ea];exact⟨ho _ _ rfl,λ_=>⟨ho _ _ rfl,(h j.1 hj.1 j.2 hj.2).2⟩⟩
 .rw[ea,ea]at e
  have F:j.2<k:=hj.2;have u:j'.2<k:=m.2;have p:j.1*k+j.2=j'.1*k+j'.2:=by have:=cP Addr.off e;exact this
  have d1:(j.1*k+j.2) / k=j.1:=by rw[ux,Bh (by omega),Bl F];rfl
  have d2:(j'.1*k+j'.2) / k=j'.1:=by rw[ux,Bh (by omega),Bl u];rfl
  have s:j.1=j'.1:=by rw[<-d1,<-d2,p]
  have G:j.2=j'.2:=by rw[s]at p;omega
  exact uu s G
end
end Go.Proofs.YtobagnjnbmgidaaGreatDoor
