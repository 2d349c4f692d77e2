import Derived.Test.YtobagnjnbmgidabGreatDoorE2
set_option linter.all false
set_option maxHeartbeats 0
set_option maxRecDepth 100000
namespace Go.Proofs.YtobagnjnbmgidabGreatDoor
open Go.Conc Go.RowKit
variable{a':Act}{E:Env}{N bytes c c0 T d e f g i len n nb q q0 t:Nat}{o ox:Oper}{Y:Option (Nat×aH)}{r:aH}{α:Type}{Ex:Value->Env}{vx:Value->Value}{x x' y:cS}{A C M M' Z:aW}{W:aC}{v:ay}{vs:eX}{Post:qz}{H:iy}{l:oI}{X:eP}{args:gd}{V:iO}{k todo':eC}
variable{P:aG}{J:Bool}{B B0:Nat}{b0 b:aC}{uF:wN}{cs0 O:cO}{a:Act}{kk:eC}{w:aj}{γ:Type}{Bd:γ->Nat}
def yp(P:aG)(B:Nat)(x:cS)(qs:aN):Option (cS×List Nat):=match mU P B x with
 |some y=>some (y,qs)
 |none=>match x.fs with
  |f::l=>match f.todo with
   |.code (.region _ ops true)::k=>match qs with
    |q::qs=>(yu P B f l x ops q k).map λy=>(y,qs)
    |[]=>none
   |_=>none
  |[]=>none
def bE(P:aG)(B:Nat):Nat->cS->List Nat->Option (cS×List Nat)
 |0,x,qs=>some (x,qs)
 |n+1,x,qs=>match yp P B x qs with
  |some (y,qs)=>bE P B n y qs
  |none=>none
def Io:Nat->List Bool->List Nat->List Item->List Item
 |0,_,_,t=>t
 |n+1,H,qs,t=>match Jt t with
  |some t'=>Io n H qs t'
  |none=>match t with
   |.code (.cond _ y z)::k=>match H with
    |b::H=>Io n H qs (.code (bif b then y else z)::k)
    |[]=>[]
   |.inRegion ops (_::r)::k=>Io n H qs (.inRegion ops r::k)
   |.code (.region _ ops true)::k=>match qs with
    |q::qs=>Io n H qs (.inRegion ops (bP q (ops.size-q))::k)
    |[]=>[]
   |_=>[]
def sD(P:aG)(f:Nat):List Item:=[.code (((P.funcs[f]?).bind (·.body)).getD .skip)]
def NS:Nat->List aH->List aH
 |0,M=>M
 |_+1,[]=>[]
 |n+1,r::M=>{r with row:=none}::NS n M
def sv:∀(n:Nat)(M:aW)(i:Nat)(r:aH),nth (NS n M) i=some r->∃s,nth M i=some s/\(r=s\/r={s with row:=none})
 |0,M,i,r,h=>⟨r,h,.inl rfl⟩
 |_+1,[],i,r,h=>by cases h
 |n+1,x::M,0,r,h=>by cases h;exact⟨x,rfl,.inr rfl⟩
 |n+1,x::M,i+1,r,h=>sv n M i r h
def Sat.fg{D:dh}(h:Sat D w M)(n:Nat):Sat D w (NS n M):=by
 refine⟨λi r a j c=>?_,λi r a j c=>?_,λi r k p a d t j q c f u=>?_,λi r a g e m l=>?_⟩
 .let⟨s,b,z⟩:=sv n M i r a;rcases z with rfl|rfl<;>exact h.val i _ b j c
 .let⟨s,b,z⟩:=sv n M i r a;rcases z with rfl|rfl<;>exact h.ok i _ b j c
 .let⟨s,b,z⟩:=sv n M i r a;let⟨w,v,o⟩:=sv n M k p d;rcases z with rfl|rfl<;>rcases o with rfl|rfl<;>exact h.sep i _ k _ b v t j q c f u
 .obtain⟨s,b,rfl|rfl⟩:=sv n M i r a
  .exact h.row i r b g e m l
  .cases l
def Wr.fg{a:Addr}(h:Wr (NS n M) a):Wr M a:=by
 let⟨k,s,j,a,e,d,c⟩:=h;obtain⟨r,b,rfl|rfl⟩:=sv n M k s a
 .exact⟨k,s,j,b,e,d,c⟩
 .exact⟨k,r,j,b,e,d,c⟩
def fin(c0:Nat)(live:aN)(r:Option (cS×List Nat)):Option (Nat×List Item×List (Option Value)×List aH×Nat×List (Bool×Bool)×List (Int×Nat)×List (Nat×Nat)):=match r with
 |some (x,_)=>match x.fs with
  |[f]=>some (f.N,f.todo,live.map (look f.E),NS (x.m.c-c0) x.m.M,x.m.c,x.cY,x.eK,x.m.cW)
  |_=>none
 |none=>none
def Hp(r:Option (cS×List Nat)):List Addr:=match r with
 |some (x,_)=>x.m.eqs.map Prod.fst
 |none=>[]
def Ho(r:Option (cS×List Nat)):List Addr:=match r with
 |some (x,_)=>x.m.eqs.map Prod.snd
 |none=>[]
section
variable{D:dh}{I:gi}
def Df{f:XF}{l:List XF}{d:g8}(h:yu P B f l x d q k=some x'):Sub x x':=by
 unfold yu at h;simp only at h;let⟨_,h⟩:=aE h;split at h
 .rename_i c Y y b;cases h;let⟨_,_,a,_⟩:=iY (List.range q) [] none x c Y y b uo ψ ψ ψ;exact⟨a.eqs,a.cW,a.cY,a.eK⟩
 .cases h
def Gr(F:aB P J (DX D) I)(i:P.follows .mixedOrders=true)(q:∀(a:Addr)(wr:Bool),B<=a.block->D a wr)(o:b0.kind≠.early){r c:aN}(h:yp P B x r=some (x',c))(n:oE x'){g:aV}(j:R8 b0 uF cs0 x.fs g)(p:Inv D B w x.m)(K:wC D B I b0 uF cs0 x.m w x'):I g w:=by
 unfold yp at h;split at h
 .rename_i y d;cases h;exact yq F q o d n j p K
 .split at h
  .rename_i f l m;split at h
   .rename_i s k t;split at h
    .let⟨y,d,e⟩:=map_some h;cases e;rw[m]at j;obtain⟨b,a,O,rfl,v,u⟩:=j;rw[t];exact Gz F i q o d n v u p K
    .cases h
   .cases h
  .cases h
def CY{c a:aN}(h:yp P B x c=some (x',a)):Sub x x':=by
 unfold yp at h;split at h
 .rename_i y b;cases h;exact uM b
 .split at h
  .split at h
   .split at h
    .let⟨y,b,e⟩:=map_some h;cases e;exact Df b
    .cases h
   .cases h
  .cases h
def Bt:∀(n:Nat)(x x':cS)(b a:aN),bE P B n x b=some (x',a)->Sub x x'
 |0,x,x',b,a,h=>by cases h;exact Sub.refl _
 |n+1,x,x',b,a,h=>by
  simp only[bE]at h;split at h
  .rename_i y q c;exact(CY c).trans (Bt n y x' _ _ h)
  .cases h
def uL(F:aB P J (DX D) I)(c:P.follows .mixedOrders=true)(u:∀(a:Addr)(wr:Bool),B<=a.block->D a wr)(t:b0.kind≠.early):∀(n:Nat){x x':cS}{k b:aN}(h:bE P B n x k=some (x',b))(f:oE x'){g:aV}{w:aj}(i:R8 b0 uF cs0 x.fs g)(j:Inv D B w x.m)(K:wC D B I b0 uF cs0 x.m w x'),I g w
 |0,x,x',k,b,h,f,g,w,i,j,K=>by cases h;exact K _ _ i j (Fr.refl _ _) (λ_ h=>.inl h)
 |n+1,x,x',k,b,h,f,g,w,i,j,K=>by
  simp only[bE]at h;split at h
  .rename_i y q v;refine Gr F c u t v ((Bt n y x' _ _ h).met f) i j λH E m r e d=>uL F c u t n h f m r λG C l p s o=>K _ _ l p (e.trans s d) (λa A=>(o a A).elim (d a) (λz=>.inr (aT e.size z)))
  .cases h
structure St(D:dh)(B N:Nat)(E:Env)(M:aW)(c:Nat)(a:Act)(w:aj):Prop where
 env:aR E N a
 sat:Sat D w M
 sz:w.heap.size=B+c
def fB:∀(l:List (Addr×Addr)),l.map Prod.fst=l.map Prod.snd->∀p∈l,p.1=p.2
 |[],_,p,a=>by cases a
 |x::l,h,p,a=>by
  simp only[nP,List.cons.injEq]at h;rcases ak.1 a with rfl|a
  .exact h.1
  .exact fB l h.2 p a
def ez:∀(a E:Env),(a.map Prod.fst).map (look E)=a.map (λp=>some p.2)->∀d v,look a d=some v->look E d=some v
 |[],E,_,d,v,h=>by cases h
 |(k,u)::a,E,c,d,v,h=>by
  simp only[nP,List.cons.injEq]at c;simp only[look]at h;cases b:(k==d)with
  |true=>rw[b]at h;simp at h b;subst b;subst h;exact c.1
  |false=>rw[b]at h;exact ez a E c.2 d v h
def blk(F:aB P J (DX D) I)(y:P.follows .mixedOrders=true)(hB:∀(a:Addr)(wr:Bool),B<=a.block->D a wr)(hk:b.kind≠.early)(n f:Nat)(t:List Hint)(H:iK)(s:aN)(c0:Nat)(u:Env)(M':aW)(U:Nat)(todo':eC){e:eC}(q:iK)(j:List (Int×Nat))(i:List (Nat×Nat))(h:fin c0 (u.map Prod.fst) (bE P B n ⟨[⟨f,N,e,E⟩],⟨t,M,c,[],[]⟩,H,[],[]⟩ s)=some (N,todo',u.map (λp=>some p.2),M',U,q,j,i))(R:Hp (bE P B n ⟨[⟨f,N,e,E⟩],⟨t,M,c,[],[]⟩,H,[],[]⟩ s)=Ho (bE P B n ⟨[⟨f,N,e,E⟩],⟨t,M,c,[],[]⟩,H,[],[]⟩ s))(A:∀p∈q,p.1=p.2)(z:∀p∈j,0<=p.1/\p.1<(p.2:Int))(C:∀p∈i,p.1<p.2)(S:St D B N E M c a w)(K:∀a' r,St D B N u M' U a' r->a'.defers=a.defers->Fr (Wr M) w r->(∀a,Wr M' a->Wr M a\/w.heap.size<=a.block)->I (G (b.at a' todo') O) r):I (G (b.at a e) O) w:=by
 cases x:bE P B n ⟨[⟨f,N,e,E⟩],⟨t,M,c,[],[]⟩,H,[],[]⟩ s with
 |none=>rw[x]at h;cases h
 |some V=>
  let⟨x',Z⟩:=V;rw[x]at h R;simp only[fin]at h;split at h
  .rename_i g hg;simp only[Option.some.injEq,Prod.mk.injEq]at h;let⟨hN,h1,h2,T,h4,h5,h6,h7⟩:=h;refine uL (b0:=b) (uF:=a.defers) (cs0:=O) F y hB hk n x ⟨fB _ R,by rw[h7];exact C,by rw[h5];exact A,by rw[h6];exact z⟩ ⟨b,a,O,rfl,S.env,rfl,rfl,rfl⟩ ⟨S.sat,S.sz⟩ ?_;intro g' r k m Q L;rw[hg]at k;obtain⟨b1,a1,cs1,rfl,o,Y,X,W⟩:=k;subst Y;subst W;rw[h1];exact K _ _ ⟨⟨hN▸o.sz,λd v hl=>o.val d v (ez u g.E h2 d v hl)⟩,by rw[<-T];exact m.sat.fg _,by rw[<-h4];exact m.sz⟩ X Q (λad l=>L ad (by rw[<-T]at l;exact l.fg))
  .cases h
end
abbrev HB(B:Nat)(D:dh):Prop:=∀(a:Addr)(wr:Bool),B<=a.block->D a wr
abbrev bR(b:Nat)(vs:iO):aH:=⟨λj=>⟨b,j.2,none⟩,vs,λ_ _=>undef,1,vs.length,true,none⟩
abbrev fR(a:Addr)(k:Nat)(v:eX)(n:Nat)(wr:Bool):aH:=⟨λj=>(a.add (j.1*k)).add j.2,[],λj f=>(v j).getD f undef,n,k,wr,none⟩
abbrev i6(n:Int):Value:=.int .i64 n
abbrev ptr(b:Nat):Value:=.pointer (some ⟨b,0,none⟩)
def pc(P:aG)(f n:Nat)(H:iy)(qs:aN):List Item:=Io n H qs (sD P f)
def iE(t:eC):Bool:=match t with
 |[]=>true
 |.code .ret::_=>true
 |_=>false
section
variable{D:dh}{I:gi}
def jz(fn:Func)(c:P.funcs[f]? =some fn)(code:Code)(d:fn.body=some code)(K:∀b a,b.kind=.normal->b.fn=f->a.defers=[]->aR (ru args.toList 0) (args.size+(fn.ntmps-args.size)) a->I (G (Frame.at b a (pc P f 0 [] [])) O) w):I (G (Frame.enter P f args .normal) O) w:=by
 let⟨a,h,g,e⟩:=jy (args:=args) c d;have b:pc P f 0 [] []=[.code code]:=by unfold pc Io sD;rw[c];simp only[fJ,d,cQ]
 rw[h,<-b];exact K _ a rfl rfl e g
def bk(F:aB P J (DX D) I)(t:P.follows .mixedOrders=true)(L:HB B D)(C:b.kind=.normal){o:Nat}{g:iy}{e:aN}(n:Nat)(q:List Hint)(H:iK)(m:aN)(s:Env)(r:List aH->List aH)(y:Nat)(z:Nat)(l:iy)(k:aN)(j:iK)(i:List (Int×Nat))(d:List (Nat×Nat))(h:fin c (s.map Prod.fst) (bE P B n ⟨[⟨f,N,pc P f o g e,E⟩],⟨q,M,c,[],[]⟩,H,[],[]⟩ m)=some (N,pc P f z l k,s.map (λp=>some p.2),r M,y,j,i,d))(A:Hp (bE P B n ⟨[⟨f,N,pc P f o g e,E⟩],⟨q,M,c,[],[]⟩,H,[],[]⟩ m)=Ho (bE P B n ⟨[⟨f,N,pc P f o g e,E⟩],⟨q,M,c,[],[]⟩,H,[],[]⟩ m))(v:∀p∈j,p.1=p.2)(u:∀p∈i,0<=p.1/\p.1<(p.2:Int))(x:∀p∈d,p.1<p.2)(S:St D B N E M c a w)(K:∀a' p,St D B N s (r M) y a' p->a'.defers=a.defers->Fr (Wr M) w p->(∀a,Wr (r M) a->Wr M a\/w.heap.size<=a.block)->I (G (b.at a' (pc P f z l k)) O) p):I (G (b.at a (pc P f o g e)) O) w:=
 blk F t L (by rw[C];decide) n f q H m c s (r M) y _ j i d h A v u x S K
def Ue(F:aB P J (DX D) I){d:eC}(S:St D B N E M c a w)(m:b.kind=.normal)(n:b.fn=f)(o:a.defers=[])(g:List Hint)(v:ay)(i:iE d=true)(h:(iV P ⟨f,N,d,E⟩ ⟨g,M,c,[],[]⟩).map (λp=>(p.1,p.2.cW))=some (v,[]))(k:(iV P ⟨f,N,d,E⟩ ⟨g,M,c,[],[]⟩).map (λp=>p.2.eqs.map Prod.fst)=(iV P ⟨f,N,d,E⟩ ⟨g,M,c,[],[]⟩).map (λp=>p.2.eqs.map Prod.snd))(K:I (G (W.finish v) O) w):I (G (b.at a d) (W::O)) w:=by
 cases j:iV P ⟨f,N,d,E⟩ ⟨g,M,c,[],[]⟩with
 |none=>rw[j]at h;cases h
 |some p=>
  let⟨_,c⟩:=p;rw[j]at h k;simp only[fI,Option.some.injEq,Prod.mk.injEq]at h k;obtain⟨rfl,q⟩:=h;let⟨fn,g,f,c,_,h⟩:=qD j (fB _ k) (by rw[q];simp) S.env S.sat;have e:∀t,I (G {b.at a t with mode:=.returning} (W::O)) w:=λt=>F.vS m o (by rw[n];exact g) f c K;have:d=[]\/∃l,d=.code .ret::l:=by
   unfold iE at i;split at i
   .exact .inl rfl
   .exact .inr ⟨_,rfl⟩
   .cases i
  rcases this with rfl|⟨l,rfl⟩
  .exact F.ctl (λ_=>stepG_end) (e _)
  .exact F.ctl (λ_=>stepG_ret') (e _)
def aA{n:Int}(a:-9223372036854775808<=n:=by omega)(a:n<9223372036854775808:=by omega):IntKind.wrap .i64 n=n:=by
 simp[IntKind.wrap,IntKind.bits,IntKind.signed];omega
end
structure Vc(D:dh)(X:eP)(len T:Nat):Prop where
 row:(X=none/\len=0/\T=0)\/∃g,X=some ⟨g,0,none⟩/\0<len
 le:len<=T
 mx:T<=maxLen
 PD:∀a,X=some a->∀(ad:Addr)(wr:Bool),ad.block=a.block->D ad wr
abbrev vR(X:eP)(k:Nat)(vl:eX)(len T:Nat)(e:TypeId):aH:=⟨λj=>((X.getD ⟨0,0,none⟩).add (j.1*k)).add j.2,[],λj f=>(vl j).getD f undef,len,k,true,X.map λa=>(a.block,e,T*k)⟩
abbrev sR(X:eP)(k:Nat)(vl:eX)(len T:Nat):aH:=⟨λj=>⟨(X.getD ⟨0,0,none⟩).block,(len+j.1)*k+j.2,none⟩,[],λj f=>(vl j).getD f undef,T-len,k,true,none⟩
def add_add(g m n:Nat):((⟨g,0,none⟩:Addr).add m).add n=⟨g,m+n,none⟩:=by rw[ey,ey,bK]
def xp{l a:iO}(h:l.take n=a)(b:i<n):l[i]? =a[i]? :=χ
section
variable{D:dh}{I:gi}
def aB.aap(F:aB P J (DX D) I)(hB:HB B D){ops:g8}{rest:aN}(ho:ops[i]? =some o)(hg:o.guard=none)(hk:b.kind=.normal)(s x:Operand)(t e:TypeId)(UZ:o.op=.call {callee:=.builtin .append,args:=#[s,x],argTypes:=#[t,t]})(inf:TypeInfo)(z:ay){k:Nat}(ht:P.underlying t=some (.slice e))(hi:P.info? e=some inf)(hz:inf.zero=some z)(Ql:inf.size=k)(hby:inf.bytes=bytes)(YN:z.cells.size=k)(Zw:0<k){p p1 p2:Nat}{vl:eX}(hs:a.eval s=.slice X len T)(hx:a.eval x=.slice (some ⟨nb,0,none⟩) 1 1)(hS:Sat D w M)(hp:nth M p=some (vR X k vl len T e))(Tq:nth M p1=some (sR X k vs len T))(Zd:p≠p1)(hv:Vc D X len T)(hvl:∀j,j<len->(vl j).length=k)(OI:nth M p2=some (bR nb V))(hl:V.length=k)(h1:∀u∈V,u.oneCell'=true)(o8:B<=nb)(yQ:B<=w.heap.size)(VX:len+1<=maxLen)(Nw:(len+1)*bytes<=140737488355328)(K:∀N c n vs' w',Sat D w' (cG (cG M p (vR (some ⟨N,0,none⟩) k n (len+1) c e)) p1 (sR (some ⟨N,0,none⟩) k vs' (len+1) c))->Vc D (some ⟨N,0,none⟩) (len+1) c->(∀j,j<len->n j=vl j)->n len=V->w.heap.size<=w'.heap.size->(X=some ⟨N,0,none⟩\/w.heap.size<=N)->
 I (G (b.at (a.put o.dst (.slice (some ⟨N,0,none⟩) (len+1) c)) (.inRegion ops rest::kk)) O) w'):
 I (G (b.at a (.inRegion ops (i::rest)::kk)) O) w:=by
 have Zo:∀g,X=some ⟨g,0,none⟩->∃cur,w.heap[g]? =some (.cells cur e (0,0))/\cur.size=T*k:=λg hg=>(hS.row p _ hp g e (T*k) (by rw[hg];rfl)).2.2;have A:∃xs,w.ownsRow 0 e k (.slice X len T) len xs/\(∀j f,j<len->f<k->xs[j*k+f]? =(vl j)[f]?):=by
  rcases hv.row with ⟨Q,r2,r3⟩|⟨g,Q,_⟩
  .subst Q;subst r2;subst r3;exact⟨[],⟨ψ,.inl ⟨rfl,rfl⟩⟩,λj f h=>ω⟩
  .let⟨cur,r2,r3⟩:=Zo g Q;subst Q;refine⟨cur.toList.take (len*k),⟨?_,.inr ⟨g,T,cur,rfl,gl _,r2,hv.le,hv.mx,r3,rfl⟩⟩,λj f h U=>?_⟩
   .rw[uq,za,r3];exact Nat.min_eq_left (F2 _ hv.le)
   .have qN:j*k+f<len*k:=by
     have:(j+1)*k<=len*k:=F2 _ h;grind
    rw[D5 qN];have hc:=hS.val p _ hp (j,f) ⟨h,U⟩;simp only[cQ,add_add]at hc;simp only[World.cell?,r2,Hw,aH.get]at hc;simp_all
 let⟨xs,A,Qb⟩:=A;have QA:∀j u,V[j]? =some u->w.cell? ⟨nb,j,none⟩=some u:=λj u h=>by
  have qN:j<V.length:=(lg.1 h).1;have:=hS.val p2 _ OI (0,j) ⟨ψ,qN⟩;simp only at this;rw[this];cases hn:V with
  |nil=>simp_all
  |cons y ys=>rw[hn]at h;simp[aH.get,h]
 have Vb:nb<w.heap.size:=by
  have:0<V.length:=ω
  exact hS.lt OI (j:=(0,0)) ⟨ψ,this⟩
 refine F.append ho (by simp[Region.wanted,hg]) ξ s x t e UZ inf z 0 k bytes ht hi hz Ql hby YN Zw hs hx A hl QA h1 VX Nw (gl _) Vb (λad wr NC=>?_) (λad NC=>hB ad false ω) λv' w' Qx XA hb=>?_
 .rcases hv.row with ⟨Q,_⟩|⟨g,Q,_⟩
  .subst Q;simp[Value.ownBlock]at NC
  .exact hv.PD _ Q ad wr (by subst Q;simp[Value.ownBlock]at NC;exact NC)
 .rcases Qx.2 with ⟨z1,z2⟩|⟨N,c,Z,rfl,_,q1,q2,q3,q4,q5⟩
  .omega
  .have Tw:X=some ⟨N,0,none⟩\/w.heap.size<=N:=by
    rcases hb with z|z
    .left;rcases hv.row with ⟨Q,_⟩|⟨g,Q,_⟩
     .subst Q;simp[Value.ownBlock]at z
     .subst Q;simp[Value.ownBlock]at z;rw[z]
    .right;simp[Value.ownBlock]at z;omega
   have Qw:∀q r,nth M q=some r->q≠p->q≠p1->∀j,r.has j->some (r.ad j).block≠(Value.slice X len T).ownBlock:=λq r l m d j h C=>by
    rcases hv.row with ⟨Q,_⟩|⟨g,Q,_⟩
    .subst Q;simp[Value.ownBlock]at C
    .let⟨cur,r2,r3⟩:=Zo g Q;subst Q;simp[Value.ownBlock]at C;have hc:=hS.val q r l j h;unfold World.cell? at hc;rw[C,r2]at hc;simp only at hc;split at hc
     .cases hc
     .rename_i M5;have qN:(r.ad j).off<T*k:=χ
      have OM:=Nat.div_add_mod (r.ad j).off k;have hdiv:(r.ad j).off / k<T:=Nat.div_lt_of_lt_mul χ;have QE:(r.ad j).off % k<k:=Nat.mod_lt _ Zw;have CG:(r.ad j).spot=none:=ξ
      have Xg:r.ad j=⟨g,(r.ad j).off / k*k+(r.ad j).off % k,none⟩:=by
       rw[ug]at OM;cases hra:r.ad j with
       |mk bb oo ss=>simp_all
      rcases zR ((r.ad j).off / k) len with Xu|Xu
      .have:=(hS.sep p _ q r hp l rfl ((r.ad j).off / k,(r.ad j).off % k) j ⟨Xu,QE⟩ h (by
        simp only[cQ,add_add];grind)).1
       omega
      .have:=(hS.sep p1 _ q r Tq l rfl ((r.ad j).off / k-len,(r.ad j).off % k) j ⟨χ,QE⟩ h (by
        have e1:len+((r.ad j).off / k-len)=(r.ad j).off / k:=ω
        grind)).1
       omega
   have R:∀q r,nth M q=some r->q≠p->q≠p1->∀j,r.has j->w'.heap[(r.ad j).block]? =w.heap[(r.ad j).block]? :=λq r l m d j h=>XA.block _ (hS.lt l h) (Qw q r l m d j h);let n:Nat->List Value:=λj=>(List.range k).map λf=>(Z[j*k+f]?).getD undef;have Zq:∀j f,f<k->(n j)[f]? =some ((Z[j*k+f]?).getD undef):=λj f U=>χ
   have Hg:∀j f,j<c->f<k->j*k+f<Z.size:=λj f h U=>by
    rw[q4];have:(j+1)*k<=c*k:=F2 _ h;grind
   have KE:∀j,(n j).length=k:=λj=>by simp[n]
   let vs':Nat->List Value:=λj=>n (len+1+j);have v:∀q s,nth (cG (cG M p (vR (some ⟨N,0,none⟩) k n (len+1) c e)) p1 (sR (some ⟨N,0,none⟩) k vs' (len+1) c)) q=some s->(q=p/\s=vR (some ⟨N,0,none⟩) k n (len+1) c e)\/(q=p1/\s=sR (some ⟨N,0,none⟩) k vs' (len+1) c)\/(q≠p/\q≠p1/\nth M q=some s):=λq s l=>by
    rw[dX]at l;split at l
    .simp_all
    .rename_i e;rw[dX]at l;grind
   have E:∀q r,nth M q=some r->q≠p->q≠p1->∀j,r.has j->(r.ad j).block≠N:=λq r l m d j h C=>by
    rcases Tw with z|z
    .exact Qw q r l m d j h (by rw[z,C];rfl)
    grind
   have hgv:∀j f,j<c->f<k->w'.cell? ⟨N,j*k+f,none⟩=some ((n j).getD f undef):=λj f h U=>by
    simp only[World.cell?,q1,Hw,ni,Zq j f U];grind
   have aaZ:∀o wr,D ⟨N,o,none⟩ wr:=λo wr=>by
    rcases Tw with z|z
    .exact hv.PD _ z _ wr rfl
    .exact hB _ wr (aT yQ z)
   have ZU:∀o,w'.frozen? ⟨N,o,none⟩=false:=λo=>by simp only[World.frozen?,q1];simp
   have Y:∀j1 j2 l1 l2,j2<k->l2<k->j1*k+j2=l1*k+l2->j1=l1/\j2=l2:=λj1 j2 l1 l2 a2 b2 C=>by
    have h1:(j1*k+j2) / k=j1:=by rw[ug,As Zw,Av a2];rfl
    have h2:(l1*k+l2) / k=l1:=by rw[ug,As Zw,Av b2];rfl
    grind
   refine K N c n vs' w' ⟨λq s l j h=>?_,λq s l j h=>?_,λq s q' s' l H Z4 j j' h S C=>?_,λq s l g2 e2 n2 FU=>?_⟩ ⟨.inr ⟨N,rfl,ω⟩,q2,q3,λad NC y wr hy=>?_⟩ (λj h=>?_) ?_ XA.size Tw
   .rcases v q s l with ⟨_,rfl⟩|⟨_,rfl⟩|⟨m,d,l⟩
    .let⟨j,f⟩:=j;let⟨Vl,QK⟩:=h;simp only at Vl QK;simp only[cQ,add_add,aH.get];grind
    .let⟨j,f⟩:=j;let⟨Vl,QK⟩:=h;simp only at Vl QK;simp only[cQ,aH.get];exact hgv (len+1+j) f ω QK
    .rw[World.cell?_of_block (R q s l m d j h)];exact hS.val q s l j h
   .rcases v q s l with ⟨_,rfl⟩|⟨_,rfl⟩|⟨m,d,l⟩
    .simp only[cQ,add_add];grind
    .simp only[cQ];grind
    .rw[World.frozen?_of_block (R q s l m d j h)];exact hS.ok q s l j h
   .let⟨j1,j2⟩:=j;let⟨l1,l2⟩:=j';rcases v q s l with ⟨h1q,rfl⟩|⟨h1q,rfl⟩|⟨m,d,l⟩
    .let⟨a1,a2⟩:=h;rcases v q' s' H with ⟨Re,rfl⟩|⟨Re,rfl⟩|⟨W,L,H⟩
     .let⟨b1,b2⟩:=S;simp only[cQ,add_add,Addr.mk.injEq,and_true,true_and]at C a2 b2;obtain⟨rfl,rfl⟩:=Y _ _ _ _ a2 b2 C;grind
     .let⟨b1,b2⟩:=S;simp only[cQ,add_add,Addr.mk.injEq,and_true,true_and]at C a1 a2 b1 b2;have:=(Y _ _ _ _ a2 b2 C).1;omega
     .exact absurd (by rw[<-C];simp only[cQ,add_add]) (E q' s' H W L _ S)
    .let⟨a1,a2⟩:=h;rcases v q' s' H with ⟨Re,rfl⟩|⟨Re,rfl⟩|⟨W,L,H⟩
     .let⟨b1,b2⟩:=S;simp only[cQ,add_add,Addr.mk.injEq,and_true,true_and]at C a1 a2 b1 b2;have:=(Y _ _ _ _ a2 b2 C).1;omega
     .let⟨b1,b2⟩:=S;simp only[cQ,Addr.mk.injEq,and_true,true_and]at C a2 b2;obtain⟨z1,rfl⟩:=Y _ _ _ _ a2 b2 C;grind
     .exact absurd (by rw[<-C];rfl) (E q' s' H W L _ S)
    .rcases v q' s' H with ⟨_,rfl⟩|⟨_,rfl⟩|⟨W,L,H⟩
     .exact absurd (by rw[C];simp only[cQ,add_add]) (E q s l m d _ h)
     .exact absurd (by rw[C];rfl) (E q s l m d _ h)
     .exact hS.sep q s q' s' l H Z4 _ _ h S C
   .rcases v q s l with ⟨_,rfl⟩|⟨_,rfl⟩|⟨m,d,l⟩
    .simp only[fI,Option.some.injEq,Prod.mk.injEq]at FU;obtain⟨rfl,rfl,rfl⟩:=FU;exact⟨⟨ψ,Zw⟩,by simp only[cQ,add_add],Z,q1,q4⟩
    .cases FU
    .let⟨z1,z2,We,z3,z4⟩:=hS.row q s l g2 e2 n2 FU;have Xt:=R q s l m d (0,0) z1;rw[z2]at Xt;exact⟨z1,z2,We,Xt.trans z3,z4⟩
   .cases NC;rcases Tw with z|z
    .exact hv.PD _ z y wr hy
    .exact hB y wr χ
   .refine List.ext_getElem? λf=>?_;have hjc:j<c:=ω
    rcases zR f k with U|U
    .rw[Zq j f U,<-Qb j f h U];have qN:j*k+f<len*k:=by
      have:(j+1)*k<=len*k:=F2 _ h;grind
     have Nf:j*k+f<(len+1)*k:=χ
     have:=xp q5 Nf;rw[nO (by rw[A.1];exact qN),DY]at this;rw[<-this,iz (Hg j f hjc U)];rfl
    .rw[UJ (by rw[KE];exact U)];grind
   .refine List.ext_getElem? λf=>?_;rcases zR f k with U|U
    .rw[Zq len f U];have Nf:len*k+f<(len+1)*k:=χ
     have:=xp q5 Nf;rw[vf (by rw[A.1];omega),A.1,DY]at this;have e:len*k+f-len*k=f:=ω
     rw[e]at this;rw[<-this,iz (Hg len f ω U)];rfl
    .rw[UJ χ,UJ ω]
end
def oT(P:aG)(r:Rec):Bool:=match cV P (execOp (ev r.E) r.o)with
 |some (.value _)=>r.o.guard.isNone
 |_=>false
def X0(hs:List Hint)(Z:aW):cS:=⟨[],⟨hs,Z,0,[],[]⟩,[],[],[]⟩
def X1(hs:List Hint)(Z:aW):cS:=⟨[],⟨hs,Z,0,[],[]⟩,[(true,true),(true,true)],[],[]⟩
def rM(x:cS):Bool:=x.cY.isEmpty&&x.eK.isEmpty&&x.m.cW.isEmpty
def Late(P:aG)(ops:g8)(Z:aW)(r:Rec):Prop:=∃hs y,wH P 0 ops r.E r.o (X1 hs (ro Z))=some (r.v,y)/\oE y/\y.m.c=0
section
variable{D:dh}{I:gi}
def Mf{B':Nat}:∀(s:Sem α)(y:α)(m:lW),cV P s=some y->dw P B' s m=some (y,m):=by
 intro s;induction s with
 |pure a=>intro y m h;simp[cV]at h;subst h;rfl
 |program k b=>intro y m h;exact b _ _ _ h
 |_=>intros;simp_all [cV]
def CA{a:g8}{d:ay}(h:wH P B a E o x=some (v,y))(j:oE y)(k:o.guard=none)(g:cV P (execOp (ev E) o)=some (.value d)):v=d/\lN o=false/\o.op.operands.all (kn E)=true:=by
 unfold wH at h;rw[k]at h;simp only at h;let⟨c,h⟩:=aE h;simp only[bZ,mA]at c;refine⟨?_,c.1,c.2⟩;rw[Mf (B':=B) _ _ _ g]at h;cases b:tL o with
 |true=>
  rw[b]at h;simp only[cond_true]at h;split at h
  .cases h;rfl
  .split at h
   .rename_i l i n f;cases h;have e:=j.eK (i,n) ψ;have:=Zb f e.1 e.2;simp_all
   .cases h
  .cases h
 |false=>simp_all
structure Pn(ops:g8)(bm:Array Nat)(q e N:Nat)(ds:wN)(E0:Env)(gL:List Rec)(dq:oQ)(v:ay)(ox:Oper)(vx:ay)(l:oI)(a':Act):Prop where
 size:l.size=ops.size
 late:∀j,q+e<j->j<ops.size->l.getD j true=false
 down:∀i j,l.getD i false=true->i<ops.size->j<ops.size->iJ bm i j=true->l.getD j false=true
 base:l.getD q false=true
 sz:a'.tmps.size=N
 DL:a'.defers=ds
 val:∀r∈gL,l.getD r.i false=true->∀d,r.o.dst=some d->a'.tmps[d]? =some r.v
 old:∀d u,look E0 d=some u->a'.tmps[d]? =some u
 own:∀d,dq=some d->a'.tmps[d]? =some v
 ext:e=1->l.getD (q+1) false=true->∀d,ox.dst=some d->a'.tmps[d]? =some vx
def NX(F:aB P J (DX D) I)(hB:HB B D)(hk:b.kind≠.early){c:g8}{X:Array Nat}(KI:e<=1){ds:wN}{E0:Env}{M0:aW}{f:List Rec}{xf:cS}{dq:oQ}{Ex:Env}{vx:ay}(OK:q+e<c.size)(hX:e=1->c[q+1]? =some ox/\iJ X (q+1) q=true/\ox.guard=none)(Uv:e=1->∀a,aR Ex N a->∀w,(execOp a.eval ox).run P w=.ok (.value vx) w/\raw P a ox w=#[])(Ux:e=1->∀d u,look Ex d=some u->(∃s∈f,iJ X (q+1) s.i=true/\s.o.dst=some d/\s.v=u)\/look E0 d=some u\/(dq=some d/\v=u))(hp:qn c X (q+1+e))(CK:jE c (q+1+e)=true)(ZW:dq=(c[q]?).bind (·.dst))(hN:∀d∈dstsOf c (q+1+e),d<N)(CO:∀d u,look E0 d=some u->d∉dstsOf c (q+1+e))(hM:oE xf)(hu:∀r∈f,∀s∈f,r.i=s.i->r=s)(M5:∀r∈f,r.i<q/\Spec P B c X E0 M0 c0 f Y xf r)(I6:∀i,i<q->∃r∈f,r.i=i)(M8:∀r∈f,iJ X q r.i=true\/oT P r=true\/Late P c Z r)(tO:Sat D w Z)(yQ:B<=w.heap.size)(K:∀l a' w',Pn c X q e N ds E0 f dq v ox vx l a'->(∀i,i<q+1+e->l.getD i false=true)->Fr (λ_=>False) w w'->w'.heap.size=w.heap.size->I (G (b.at a' (.inRegion c (bP (q+1+e) (c.size-(q+1+e)))::k)) O) w'):
 ∀(h t:Nat)(l:oI)(a:Act)(E:aj),Fr (λ_=>False) w E->E.heap.size=w.heap.size->Pn c X q e N ds E0 f dq v ox vx l a->(∃m,m+h=c.size/\(l.toList.filter id).length=m)->I (G (b.at a (.inRegion c (Region.linearise.go .any c h t l [])::k)) O) E:=by
 intro h;induction h with
 |zero=>
  intro t l a E W zS g ⟨m,hm,hc⟩;have o:∀i,i<q+1+e->l.getD i false=true:=λi hi=>by rw[cH χ false true];exact om g.size ω i ω
  rw[mj hp g.size (λj R Q=>g.late j ω Q) o ⟨m,hm,hc⟩];exact K l a E g o W zS
 |succ h ih=>
  intro t l a E W zS g ⟨m,hm,hc⟩;by_cases o:∀i,i<q+1+e->l.getD i false=true
  .rw[mj hp g.size (λj R Q=>g.late j ω Q) o ⟨m,hm,hc⟩];exact K l a E g o W zS
  .let⟨i,hi1,qN,f1,f2,t',hgo⟩:=Yi hp g.size g.down o (fuel:=h) (t:=t);rw[hgo];have M:i<l.size:=χ
   have V:i<q\/i=q+1/\e=1:=by
    have:i≠q:=λz=>by
     subst z;have:=g.base;grind
    omega
   have n:∀L,c[i]? =some L->∀j,j<c.size->iJ X i j=true->l.getD j false=true:=λL Qx j hj hb=>by
    let⟨_,e,he,R,Q⟩:=hp.Li i L j Qx hj hb;have M6:c[i]=L:=Option.some.inj ((iz qN).symm.trans Qx);have T:=f2 e χ R;rcases Q with rfl|Q
    .exact T
    .have aa1:=hp.low i L Qx e he R;exact g.down e.on j T ω hj Q
   have Nl:∀s∈f,∀d,s.o.dst=some d->d∈dstsOf c (q+1+e):=λs H d T=>by
    let⟨R,Q⟩:=M5 s H;exact u6.2 ⟨s.i,aZ.2 ω,by rw[Q.op];exact T⟩
   have hdx:e=1->∀d,ox.dst=some d->d∈dstsOf c (q+1+e):=λR d T=>u6.2 ⟨q+1,aZ.2 ω,χ⟩;have VI:∀i j d,i<q+1+e->j<q+1+e->(c[i]?).bind (·.dst)=some d->(c[j]?).bind (·.dst)=some d->i=j:=λi j d R Q h3 h4=>by
    have:=eZ.1 (eZ.1 CK i (aZ.2 R)) j (aZ.2 Q);grind
   have step:∀(L:Oper)(v':ay),c[i]? =some L->(∀s∈f,s.i=i->s.v=v')->(i=q+1->v'=vx)->(∀d,L.dst=some d->d∈dstsOf c (q+1+e))->∀w2,Fr (λ_=>False) E w2->w2.heap.size=E.heap.size->I (G (b.at (a.put L.dst v') (.inRegion c (Region.linearise.go .any c h t' (l.setIfInBounds i true) [])::k)) O) w2:=λL v' Qx XE Uz WH w2 YR tM=>by
    have x:∀(j C:Nat),j<q+1+e->j≠i->(c[j]?).bind (·.dst)=some C->∀u,a.tmps[C]? =some u->(a.put L.dst v').tmps[C]? =some u:=λj C hj hji Ni u h0=>by
     cases M7:L.dst with
     |none=>exact h0
     |some d2=>
      have qM:d2≠C:=λz=>hji (VI j i C hj ω Ni χ);simp only[Act.put];grind
    refine ih _ _ _ w2 (W.trans YR (λ_ z=>z.elim)) (tM.trans zS) ⟨by simp[g.size],λj R Q=>?_,λi' j R Q h3 h4=>?_,?_,?_,by rw[put_defers];exact g.DL,λs H T C A=>?_,λC u hl=>?_,λC A=>?_,λS T C A=>?_⟩ ⟨m+1,ω,?_⟩
    .rw[bp _ M,af ω];exact g.late j R Q
    .rw[bp _ M]at R ⊢;by_cases e:j=i
     .grind
     .rw[af e];by_cases e':i'=i
      .grind
      .rw[af e']at R;exact g.down i' j R Q h3 h4
    .rw[bp _ M];split
     .rfl
     .exact g.base
    .cases T:L.dst<;>simp[Act.put]<;>exact g.sz
    .by_cases e:s.i=i
     .have eo:s.o=L:=by have:=(M5 s H).2.op;grind
      rw[eo]at A;rw[A,XE s H e];simp only[Act.put];rw[LN,sJ (by rw[g.sz];grind)]
     .rw[bp _ M,af e]at T;exact x s.i C χ e (by rw[(M5 s H).2.op];exact A) _ (g.val s H T C A)
    .have h0:=g.old C u hl;cases M7:L.dst with
     |none=>exact h0
     |some d2=>
      have qM:d2≠C:=λz=>CO C u hl χ;simp only[Act.put];grind
    .exact x q C ω ω χ _ (g.own C A)
    .by_cases eq1:i=q+1
     .have eo:L=ox:=χ
      rw[eo,A,Uz eq1];simp only[Act.put];rw[LN,sJ (by rw[g.sz];grind)]
     .rw[bp _ M,af ω]at T;exact x (q+1) C ω ω χ _ (g.ext S T C A)
    .have h0:l[i]=false:=by have:=f1;simpa [Array.getD,M]using this
     rw[zd];exact hc▸gG l.toList i M h0
   rcases V with V|⟨V,S⟩
   .obtain⟨r,Xn,rfl⟩:=I6 i V;let⟨_,hs⟩:=M5 r Xn;have hA:aR r.E N a:=⟨g.sz,λd u hl=>by
     rcases hs.env d u hl with ⟨s,s1,s2,s3,s4⟩|z
     .rw[<-s4];exact g.val s s1 (n r.o hs.op s.i χ s2) d s3
     .exact g.old d u z⟩
    have hnq:iJ X q r.i=false:=by
     cases hz:iJ X q r.i with
     |false=>rfl
     |true=>
      have:=g.down q r.i g.base ω qN hz;grind
    have U:=step r.o r.v hs.op (λs H e=>χ) (λe=>ω) (Nl r Xn);rcases(M8 r Xn).resolve_left χ with hqt|⟨CG,y2,r1,r2,r3⟩
    .unfold oT at hqt;split at hqt
     .rename_i v' IY;have e2:r.o.guard=none:=by
       cases hgg:r.o.guard with
       |none=>rfl
       |some p=>grind
      let⟨e1,e3,e4⟩:=CA hs.run (hs.sub.met hM) e2 IY;subst e1;have Zp:execOp a.eval r.o=execOp (ev r.E) r.o:=execOp_congr e3 λy hy=>hA.eval (yJ.1 e4 y hy);have Na:=fV _ _ IY;refine F.op hs.op (by simp[Region.wanted,e2]) hk λd K' hK=>?_;have z2:(execOp a.eval r.o).run P (E.at d)=.ok (.value r.v) (E.at d):=by rw[Zp,<-fH (es:=#[]),Na]
      have z3:raw P a r.o (E.at d)=#[]:=by unfold raw Sem.events;grind
      rw[z2];exact hK _ E ⟨by rw[z3];exact DX.still d ψ,U E (Fr.refl _ _) rfl⟩
     .cases hqt
    .refine vL (B:=E.heap.size) F (λad wr z=>hB ad wr ω) hk hs.op (Ff r1 (by rw[r3];rfl) _) r2 hA ⟨(tO.keep W).ro,rfl⟩ λw2 q1 q2 q3=>U w2 (q2.Cc λad z=>uV z) ?_;have:=q1.sz;omega
   .subst V;let⟨Qv,_,Uw⟩:=hX S;have hA:aR Ex N a:=⟨g.sz,λd u hl=>by
     rcases Ux S d u hl with ⟨s,s1,s2,s3,s4⟩|z|⟨z1,z2⟩
     .rw[<-s4];exact g.val s s1 (n ox Qv s.i χ s2) d s3
     .exact g.old d u z
     .rw[<-z2];exact g.own d z1⟩
    refine F.op Qv (by simp[Region.wanted,Uw]) hk λd K' hK=>?_;let⟨z2,z3⟩:=Uv S a hA (E.at d);rw[z2];exact hK _ E ⟨by rw[z3];exact DX.still d ψ,step ox vx Qv (λs H e=>χ) (λ_=>rfl) (hdx S) E (Fr.refl _ _) rfl⟩
end
def Fz(M0:aW):Option (Nat×aH)->List aH
 |some (_,R)=>R::M0
 |none=>M0
def Ae(c0:Nat):Option (Nat×aH)->Nat
 |some _=>c0+1
 |none=>c0
def Tk(bm:Array Nat)(q:Nat):Option (Nat×aH)->Bool
 |some (p,_)=>iJ bm q p
 |none=>true
section
variable{D:dh}{I:gi}
def NY(F:aB P J (DX D) I)(hB:HB B D)(hk:b.kind≠.early){c:g8}{M:Array Nat}(KI:e<=1){ds:wN}{E0:Env}{M0:aW}{f:List Rec}{xf:cS}(ho:c[q]? =some o)(hX:e=1->c[q+1]? =some ox/\iJ M (q+1) q=true/\ox.guard=none)(Uv:∀v w,Post v w->e=1->∀a,aR (Ex v) N a->∀w,(execOp a.eval ox).run P w=.ok (.value (vx v)) w/\raw P a ox w=#[])(Ux:∀v w,Post v w->e=1->∀d u,look (Ex v) d=some u->(∃s∈f,iJ M (q+1) s.i=true/\s.o.dst=some d/\s.v=u)\/look E0 d=some u\/(o.dst=some d/\v=u))(hp:qn c M (q+1+e))(CK:jE c (q+1+e)=true)(hN:∀d∈dstsOf c (q+1+e),d<N)(CO:∀d u,look E0 d=some u->d∉dstsOf c (q+1+e))(hM:oE xf)(hu:∀r∈f,∀s∈f,r.i=s.i->r=s)(H:∀r∈f,r.i<q/\Spec P B c M E0 M0 c0 f Y xf r)(Jb:∀p R,Y=some (p,R)->p<q)(I6:∀i,i<q->∃r∈f,r.i=i)(S:∀r∈f,iJ M q r.i=true\/oT P r=true\/Late P c Z r)(Hg:Tk M q Y=true)(tO:∀v y,Post v y->Sat D y Z/\B<=y.heap.size)(U:∀a1 E rest,aR (iH M q f++E0) N a1->Sat D E (Fz M0 Y)->E.heap.size=B+Ae c0 Y->(∀v y,Post v y->I (G (b.at (a1.put o.dst v) (.inRegion c rest::k)) O) y)->I (G (b.at a1 (.inRegion c (q::rest)::k)) O) E)(K:∀v y l a' w3,Post v y->Pn c M q e N ds E0 f o.dst v ox (vx v) l a'->(∀i,i<q+1+e->l.getD i false=true)->Fr (λ_=>False) y w3->w3.heap.size=y.heap.size->I (G (b.at a' (.inRegion c (bP (q+1+e) (c.size-(q+1+e)))::k)) O) w3):
 ∀(n t:Nat)(l:oI)(a:Act)(E:aj),Lp D B c M (q+1+e) N ds E0 M0 c0 f Y w l a E->l.getD q true=false->(∃m,m+n=c.size/\(l.toList.filter id).length=m)->I (G (b.at a (.inRegion c (Region.linearise.go .any c n t l [])::k)) O) E:=by
 have UQ:q+e<c.size:=χ
 have OK:q<c.size:=ω
 intro n;induction n with
 |zero=>
  intro t l a E x T ⟨m,hm,hc⟩;rw[om x.size ω q OK]at T;cases T
 |succ n ih=>
  intro t l a E x T ⟨m,hm,hc⟩;let⟨i,_,qN,f1,f2,_,b⟩:=Yi hp x.size x.down (λz=>by
   grind) (fuel:=n) (t:=t)
  rw[b];have g:i<l.size:=χ
  have h:∀o',c[i]? =some o'->∀j,j<c.size->iJ M i j=true->l.getD j false=true:=λo' Qx j hj hb=>by
   let⟨_,e,he,Q,L⟩:=hp.Li i o' j Qx hj hb;have M6:c[i]=o':=Option.some.inj ((iz qN).symm.trans Qx);have C:=f2 e χ Q;rcases L with rfl|L
   .exact C
   .have b:=hp.low i o' Qx e he Q;exact x.down e.on j C ω hj L
  rcases Hu i q with V|V|V
  .obtain⟨r,Xn,rfl⟩:=I6 i V;let⟨_,b⟩:=H r Xn;have M6:c[r.i]=r.o:=Option.some.inj ((iz qN).symm.trans b.op);refine uN F hB hk hp CK hN CO hM hu (λs A=>⟨χ,(H s A).2⟩) (λp R z=>χ) x Xn f1 (λe he hb=>f2 e χ hb) _ λa' b b=>ih _ _ _ _ b (by rw[bp _ g,af ω];exact T) ⟨m+1,ω,?_⟩;have h0:l[r.i]=false:=by have:=f1;simpa [Array.getD,g]using this
   rw[zd];exact hc▸gG l.toList r.i g h0
  .subst V;have X:Sat D E (Fz M0 Y)/\E.heap.size=B+Ae c0 Y:=by
    rcases x.mem with ⟨p,R,b,e2,e3,k,_⟩|⟨b,e2,e3⟩
    .rw[b];exact⟨e3,by rw[k];rfl⟩
    .cases aaQ:Y with
     |none=>exact⟨e2,e3⟩
     |some pr=>
      let⟨p,R⟩:=pr;rw[aaQ]at Hg;have:=h o ho p χ Hg;grind
   refine U a E _ ⟨x.sz,λd u hl=>?_⟩ X.1 X.2 λv y a=>?_
   .rcases lK _ _ _ _ hl with z|z
    .let⟨s,p,n,k,b⟩:=jP M i f d u z;rw[<-b];exact x.val s p (h o ho s.i χ n) d k
    .exact x.old d u z
   .have b:∀s∈f,∀d,s.o.dst=some d->d∈dstsOf c (i+1+e):=λs A d C=>by
     let⟨Q,L⟩:=H s A;exact u6.2 ⟨s.i,aZ.2 ω,by rw[L.op];exact C⟩
    have b:∀d,o.dst=some d->d∈dstsOf c (i+1+e):=λd C=>u6.2 ⟨i,aZ.2 ω,χ⟩;refine NX (dq:=o.dst) (v:=v) (w:=y) (ox:=ox) (Ex:=Ex v) (vx:=vx v) F hB hk KI UQ hX (Uv v y a) (Ux v y a) hp CK (by rw[ho];rfl) hN CO hM hu H I6 S (tO v y a).1 (tO v y a).2 (λd a' w3 Q L c b=>K v y d a' w3 a Q L c b) _ _ _ _ y (Fr.refl _ _) rfl ⟨by simp[x.size],λj Q L=>?_,λa j Q L c b=>?_,?_,?_,by rw[put_defers];exact x.DL,λs A C dd W=>?_,λdd u hl=>?_,λdd W=>?_,λUO C dd W=>?_⟩ ⟨m+1,ω,?_⟩
    .rw[bp _ g,af ω];exact x.late j ω L
    .rw[bp _ g]at Q ⊢;by_cases e:j=i
     .grind
     .rw[af e];by_cases d:a=i
      .grind
      .rw[af d]at Q;exact x.down a j Q L c b
    .rw[bp _ g,sJ rfl]
    .cases C:o.dst<;>simp[Act.put]<;>exact x.sz
    .have a:s.i≠i:=χ
     rw[bp _ g,af a]at C;have h0:=x.val s A C dd W;cases hod:o.dst with
     |none=>exact h0
     |some d'=>
      have qM:d'≠dd:=λz=>by
       have:=eZ.1 (eZ.1 CK s.i (aZ.2 χ)) i (aZ.2 ω);rw[(H s A).2.op,ho]at this;grind
      simp only[Act.put];grind
    .have h0:=x.old dd u hl;cases hod:o.dst with
     |none=>exact h0
     |some d'=>
      have qM:d'≠dd:=λz=>CO dd u hl χ;simp only[Act.put];grind
    .rw[W];simp only[Act.put];rw[LN,sJ (by rw[x.sz];grind)]
    .exfalso;rw[bp _ g,af ω]at C;have:=x.down (i+1) i C ω OK (hX UO).2.1;grind
    .have h0:l[i]=false:=by have:=f1;simpa [Array.getD,g]using this
     rw[zd];exact hc▸gG l.toList i g h0
  .exfalso;grind
def AU(P:aG)(B N:Nat)(E:Env)(M:aW)(c:Nat)(hs:List Hint)(H:iK)(ops:g8)(q e:Nat):Option (List Rec×Option (Nat×aH)×cS):=
 bif oV ops (Region.before ops) (q+1+e)&&(dstsOf ops (q+1+e)).all (λd=>Nat.blt d N)then
  iZ P B ops (Region.before ops) (cq E (dstsOf ops (q+1+e))) M c (List.range q) [] none ⟨[],⟨hs,M,c,[],[]⟩,H,[],[]⟩
 else none
abbrev iD(P:aG)(B N:Nat)(E:Env)(M:aW)(c:Nat)(hs:List Hint)(H:iK)(ops:g8)(q:Nat):Option (List Rec×Option (Nat×aH)×cS):=AU P B N E M c hs H ops q 0
def aL(t:eC):Array Oper:=match t with
 |.code (.region _ ops true)::_=>ops
 |_=>#[]
def behind(t:eC):List Item:=match t with
 |.code (.region _ _ true)::k=>k
 |_=>[]
def mP(t:eC):Bool:=match t with
 |.code (.region _ _ true)::_=>true
 |_=>false
structure PX where
 E1:List (Option Value)
 E2:List (Option Value)
 M:List aH
 c:Nat
 cY:List (Bool×Bool)
 eK:List (Int×Nat)
 cW:List (Nat×Nat)
 ok:Bool
def GY(P:aG)(ops:g8)(Z:aW)(alt:List (Nat×List Hint))(r:Rec):Option (Value×cS):=match alt.find? (λp=>p.1==r.i)with
 |some (_,hs)=>wH P 0 ops r.E r.o (X1 hs (ro Z))
 |none=>none
def JO(P:aG)(ops:g8)(Z:aW)(alt:List (Nat×List Hint))(r:Rec):Bool:=match GY P ops Z alt r with
 |some (_,y)=>y.m.c==0&&rM y
 |none=>false
def tT(P:aG)(ops:g8)(Z:aW)(alt:List (Nat×List Hint))(s:Bool)(r:Option (List Rec×Option (Nat×aH)×cS)):List (Option (Value×List Addr)):=match r with
 |some (gL,_)=>gL.map λr=>(GY P ops Z alt r).map λp=>bif s then(p.1,p.2.m.eqs.map Prod.fst)else(r.v,p.2.m.eqs.map Prod.snd)
 |none=>[]
def mg(h:rM x=true)(a:x.m.eqs.map Prod.fst=x.m.eqs.map Prod.snd):oE x:=by
 unfold rM at h;simp only[bZ,List.isEmpty_iff]at h;exact⟨fB _ a,ξ,ξ,ξ⟩
def Ay(P:aG)(Z:aW)(alt:List (Nat×List Hint))(ops:g8)(q:Nat)(E:Env)(M:aW)(c c0:Nat)(FF FE:aN)(r:Option (List Rec×Option (Nat×aH)×cS)):Option PX:=match r with
 |some (gL,Y,y)=>some ⟨FF.map (look (iH (Region.before ops) q gL++cq E (dstsOf ops (q+1)))),FE.map (look (kO gL (cq E (dstsOf ops (q+1))))),NS (Ae c Y-c0) (Fz M Y),Ae c Y,y.cY,y.eK,y.m.cW,
  Tk (Region.before ops) q Y&&gL.all λr=>iJ (Region.before ops) q r.i||(oT P r||JO P ops Z alt r)⟩
 |none=>none
def K5(f:Addr×Addr->Addr)(r:Option (List Rec×Option (Nat×aH)×cS)):List Addr:=match r with
 |some (_,_,y)=>y.m.eqs.map f
 |none=>[]
def XT{alt:List (Nat×List Hint)}(F:aB P J (DX D) I)(Nd:P.follows .mixedOrders=true)(hB:HB B D)(Nh:b.kind≠.early){f:g8}{id:Nat}(KI:e<=1){hs:List Hint}{H:iK}{g:List Rec}(ho:f[q]? =some o)(A:AU P B N E M c hs H f q e=some (g,Y,y))(hM:oE y)(h8:Tk (Region.before f) q Y=true)(h9:(g.all λr=>iJ (Region.before f) q r.i||(oT P r||JO P f Z alt r))=true)(halt:tT P f Z alt true (some (g,Y,y))=tT P f Z alt false (some (g,Y,y)))(S:St D B N E M c a w)(tO:∀v h,Post v h->Sat D h Z/\B<=h.heap.size)(hX:e=1->f[q+1]? =some ox/\iJ (Region.before f) (q+1) q=true/\ox.guard=none)(X:∀v w,Post v w->e=1->∀a,aR (Ex v) N a->∀w,(execOp a.eval ox).run P w=.ok (.value (vx v)) w/\raw P a ox w=#[])(Ux:∀v w,Post v w->e=1->∀d u,look (Ex v) d=some u->(∃s∈g,iJ (Region.before f) (q+1) s.i=true/\s.o.dst=some d/\s.v=u)\/look (cq E (dstsOf f (q+1+e))) d=some u\/(o.dst=some d/\v=u))(U:∀a1 W rest,aR (iH (Region.before f) q g++cq E (dstsOf f (q+1+e))) N a1->Sat D W (Fz M Y)->W.heap.size=B+Ae c Y->(∀v h,Post v h->I (G (b.at (a1.put o.dst v) (.inRegion f rest::k)) O) h)->I (G (b.at a1 (.inRegion f (q::rest)::k)) O) W)(K:(∀r∈g,r.i<q)->∀v h l a' V,Post v h->Pn f (Region.before f) q e N a.defers (cq E (dstsOf f (q+1+e))) g o.dst v ox (vx v) l a'->(∀i,i<q+1+e->l.getD i false=true)->Fr (λ_=>False) h V->V.heap.size=h.heap.size->I (G (b.at a' (.inRegion f (bP (q+1+e) (f.size-(q+1+e)))::k)) O) V):I (G (b.at a (.code (.region id f true)::k)) O) w:=by
 unfold AU at A;let⟨hc,m⟩:=aE A;simp only[bZ,eZ]at hc;let⟨hpk,hN⟩:=hc;let⟨hp,CK⟩:=oU hpk;let⟨hu,_,UC,_,rZ,C,aaX⟩:=iY (List.range q) [] none _ g Y y m uo ψ ψ ψ;have t:∀r∈g,r.i<q/\Spec P B f (Region.before f) (cq E (dstsOf f (q+1+e))) M c g Y y r:=λr x=>by
  grind
 have L:∀p R,Y=some (p,R)->p<q:=λp R z=>by
  grind
 have Ra:Lp D B f (Region.before f) (q+1+e) N a.defers (cq E (dstsOf f (q+1+e))) M c g Y w (Array.replicate f.size false) a w:=by
  refine⟨ψ,λj _ hj=>by simp[Array.getD,hj],λi j Q h2 _ _=>?_,S.env.sz,rfl,λr _ Q=>?_,λd v hl=>S.env.val d v (gZ _ _ _ _ hl).1,Fr.refl _ _,.inr ⟨λp R _=>?_,S.sat,S.sz⟩⟩
  .simp[Array.getD,h2]at Q
  .exfalso;simp only[Array.getD]at Q;split at Q<;>simp at Q
  .simp only[Array.getD];simp
 refine F.step _ _ rfl λd=>⟨_,_,_,stepG_region_draw,F.idle _ _,?_,λz v _ _=>stepG_region_draw⟩
 show I _ (w.at (d+1));refine F.at' _ _ _ ?_;simp only[Region.schedule,Nd,ue,if_true,Region.linearise];exact NY (Post:=Post) (ox:=ox) (Ex:=Ex) (vx:=vx) (e:=e) F hB Nh KI ho hX X Ux hp CK (λe he=>by simpa using hN e he) (λe v hl=>(gZ _ _ _ _ hl).2) hM hu t L (λi hi=>C i (aZ.2 hi)) (Z:=Z) (λr x=>by
  have:=eZ.1 h9 r x;simp only[Ar]at this;refine this.imp_right λz=>z.imp_right λz=>?_;have T:=List.map_inj_left.1 halt r x;unfold JO at z;split at z
  .rename_i v' y' n;simp only[bZ,beq_iff_eq]at z;rw[n]at T;simp only[fI,cond_true,cond_false,Option.some.injEq,Prod.mk.injEq]at T;unfold GY at n;split at n
   .exact⟨_,y',by rw[<-T.1];exact n,mg z.2 T.2,z.1⟩
   .cases n
  .cases z) h8 tO U (K λr x=>(t r x).1) _ _ _ _ _ Ra (by have:=hp.le;simp[Array.getD];omega) ⟨0,ψ,ψ⟩
def X5(Z:aW)(alt:List (Nat×List Hint))(F:aB P J (DX D) I)(X:P.follows .mixedOrders=true)(hB:HB B D)(j:b.kind=.normal){f:eC}(q:Nat)(t:List Hint)(H:iK)(c0:Nat)(T x:Env)(M':aW)(c':Nat)(L:iK)(C:List (Int×Nat))(j:List (Nat×Nat))(W:mP f=true)(ho:(aL f)[q]? =some o)(h:Ay P Z alt (aL f) q E M c c0 (T.map Prod.fst) (x.map Prod.fst) (iD P B N E M c t H (aL f) q)=some ⟨T.map (λp=>some p.2),x.map (λp=>some p.2),M',c',L,C,j,true⟩)(hq:K5 Prod.fst (iD P B N E M c t H (aL f) q)=K5 Prod.snd (iD P B N E M c t H (aL f) q))(Va:∀d,o.dst=some d->d∉x.map Prod.fst)(halt:tT P (aL f) Z alt true (iD P B N E M c t H (aL f) q)=tT P (aL f) Z alt false (iD P B N E M c t H (aL f) q))(KN:∀p∈L,p.1=p.2)(L:∀p∈C,0<=p.1/\p.1<(p.2:Int))(C:∀p∈j,p.1<p.2)(S:St D B N E M c a w)(tO:∀v g,Post v g->Sat D g Z/\B<=g.heap.size)(U:∀Q R rest,St D B N T M' c' Q R->(∀v g,Post v g->I (G (b.at (Q.put o.dst v) (.inRegion (aL f) rest::behind f)) O) g)->I (G (b.at Q (.inRegion (aL f) (q::rest)::behind f)) O) R)(K:∀v g a2 A,Post v g->aR ((match o.dst with|some d=>[(d,v)]|none=>[])++x) N a2->a2.defers=a.defers->Fr (λ_=>False) g A->A.heap.size=g.heap.size->I (G (b.at a2 (.inRegion (aL f) (bP (q+1) ((aL f).size-(q+1)))::behind f)) O) A):I (G (b.at a f) O) w:=by
 have Nh:b.kind≠.early:=ξ
 have n:∃id,f=.code (.region id (aL f) true)::behind f:=by
  unfold mP at W;split at W
  .exact⟨_,rfl⟩
  .cases W
 let⟨id,n⟩:=n;generalize UY:aL f=V at*;generalize QX:behind f=k at*;cases r:iD P B N E M c t H V q with
 |none=>rw[r]at h;cases h
 |some rr=>
  let⟨a,Y,y⟩:=rr;rw[r]at h hq halt;simp only[Ay,Option.some.injEq,PX.mk.injEq,bZ]at h;let⟨h1,h2,h3,_,_,_,a,c,b⟩:=h;have a:oE y:=⟨fB _ hq,ξ,ξ,χ⟩;rw[n];refine XT (Post:=Post) (ox:=o) (Ex:=λ_=>[]) (vx:=λv=>v) F X hB Nh (gl 1) ho r a c b halt S tO (λz=>by cases z) (λ_ _ _ z=>by cases z) (λ_ _ _ z=>by cases z) (λQ R rest a m c b=>?_) (λd v g l a' A a m c b d=>?_)
  .exact U Q R rest ⟨⟨a.sz,λe u i=>a.val e u (ez T _ h1 e u i)⟩,by rw[<-h3];exact m.fg _,ω⟩ b
  .refine K v g a' A a ⟨m.sz,λe u i=>?_⟩ m.DL b d;have a:∀e u,look x e=some u->a'.tmps[e]? =some u:=λe u i=>by
    have:=ez x _ h2 e u i;rcases lM _ _ _ _ this with ⟨s,d,b,a⟩|z
    .rw[<-a];exact m.val s d (c s.i χ) e b
    .exact m.old e u z
   cases hd:o.dst with
   |none=>simp_all
   |some dq=>
    rw[hd]at i;simp only[um,List.nil_append,look]at i;cases he:(dq==e)with
    |true=>rw[he]at i;simp at he i;subst he;subst i;exact m.own _ hd
    |false=>simp_all
end
def upd{α:Type}(f:Nat->α)(i:Nat)(x:α):Nat->α:=λj=>if j=i then x else f j
def Sat.re{D:dh}(h:Sat D w M)(p:Nat)(B:nth M p=some r)(x:r.vs=[])(C:eX)(J:∀j,j<r.n->∀f,f<r.k->(C j).getD f undef=r.vl j f):Sat D w (cG M p {r with vl:=λj f=>(C j).getD f undef}):=by
 have key:∀q s,nth (cG M p {r with vl:=λj f=>(C j).getD f undef}) q=some s->∃a,nth M q=some a/\s.ad=a.ad/\s.n=a.n/\s.k=a.k/\s.wr=a.wr/\s.row=a.row/\∀j,a.has j->s.get j=a.get j:=λq s b=>by
  rw[dX]at b;split at b
  .rename_i e;subst e;rw[B]at b;simp at b;subst b;refine⟨r,B,rfl,rfl,rfl,rfl,rfl,λj c=>?_⟩;simp only[aH.get,x];exact J j.1 c.1 j.2 c.2
  simp_all
 refine⟨λq s b j c=>?_,λq s b j c=>?_,λq s A H b y N j I c o e=>?_,λq s b g e n E=>?_⟩
 .let⟨a,d,l,k,i,v,u,t⟩:=key q s b;have m:a.has j:=⟨by rw[<-k];exact c.1,by rw[<-i];exact c.2⟩;rw[l,t j m];exact h.val q a d j m
 .let⟨a,d,l,k,i,v,u,t⟩:=key q s b;rw[l,v];exact h.ok q a d j ⟨by rw[<-k];exact c.1,by rw[<-i];exact c.2⟩
 .let⟨a,d,l,k,i,v,u,t⟩:=key q s b;let⟨G,K,f1,f2,f3,f4,f5,f6⟩:=key A H y;rw[l,f1]at e;exact h.sep q a A G d K ξ j I ⟨by rw[<-k];exact c.1,by rw[<-i];exact c.2⟩ ⟨by rw[<-f2];exact o.1,by rw[<-f3];exact o.2⟩ e
 .let⟨a,d,l,k,i,v,u,t⟩:=key q s b;rw[u]at E;let⟨z,L,F⟩:=h.row q a d g e n E;exact⟨⟨by rw[k];exact z.1,by rw[i];exact z.2⟩,ξ,F⟩
def Qc(P:aG)(t e k bytes:Nat):Bool:=match P.underlying t,P.info? e with
 |some (.slice e'),some inf=>e'==e&&inf.size==k&&inf.bytes==bytes&&Nat.blt 0 k&&(match inf.zero with
  |some z=>z.cells.size==k
  |none=>false)
 |_,_=>false
def kv{k:Nat}(h:Qc P t e k bytes=true):∃inf z,P.underlying t=some (.slice e)/\P.info? e=some inf/\inf.zero=some z/\inf.size=k/\inf.bytes=bytes/\z.cells.size=k/\0<k:=by
 unfold Qc at h;split at h
 .rename_i b inf d c;simp only[bZ]at h;let⟨⟨⟨⟨l,j⟩,i⟩,g⟩,a⟩:=h;have f:b=e:=ξ
  split at a
  .simp_all
  .cases a
 .cases h
def aQ(t:eC):Oper:=match t with
 |.inRegion ops (i::_)::_=>(ops[i]?).getD default
 |_=>default
def jB(t:eC):List Item:=match t with
 |.inRegion ops (_::r)::k=>.inRegion ops r::k
 |_=>[]
def kI(t:eC):Bool:=match t with
 |.inRegion ops (i::_)::_=>(ops[i]?).isSome
 |_=>false
def dH{t:eC}(h:kI t=true):∃a i r k,t=.inRegion a (i::r)::k/\a[i]? =some (aQ t)/\jB t=.inRegion a r::k:=by
 unfold kI at h;split at h
 .rename_i a i r k;let⟨o,b⟩:=Option.isSome_iff_exists.1 h;exact⟨a,i,r,k,rfl,by simp only[aQ,b,cQ],rfl⟩
 .cases h
def oD(o:Oper)(s x d t:Nat):Bool:=o.guard.isNone&&(match o.dst with|some d'=>d'==d|none=>false)&&(match o.op with
 |.call c=>(match c.callee,c.args.toList,c.argTypes.toList with
  |.builtin .append,[.tmp s',.tmp x'],[t',t'']=>s'==s&&x'==x&&t'==t&&t''==t
  |_,_,_=>false)
 |_=>false)
def mh{s x:Nat}(h:oD o s x d t=true):o.guard=none/\o.dst=some d/\o.op=.call {callee:=.builtin .append,args:=#[.tmp s,.tmp x],argTypes:=#[t,t]}:=by
 unfold oD at h;simp only[bZ]at h;let⟨⟨q,p⟩,a⟩:=h;have g:o.guard=none:=by
  simp_all
 refine⟨g,?_,?_⟩
 .grind
 .split at a
  .rename_i c n;let⟨r,args,e⟩:=c;simp only at a;split at a
   .rename_i f x' m b w v;simp only[bZ,beq_iff_eq]at a;let⟨⟨⟨l,k⟩,j⟩,i⟩:=a;subst l;subst k;subst j;subst i;have u:args=#[.tmp f,.tmp x']:=χ
    have c3:e=#[b,b]:=χ
    simp_all
   .cases a
  .cases a
structure Un(D:dh)(w w':aj)(M:aW)(p p1 k:Nat)(e:TypeId)(X:eP)(len:Nat)(vl:eX)(V:iO)(g' cap':Nat)(XM vs':eX):Prop where
 sat:Sat D w' (cG (cG M p (vR (some ⟨g',0,none⟩) k XM (len+1) cap' e)) p1 (sR (some ⟨g',0,none⟩) k vs' (len+1) cap'))
 vc:Vc D (some ⟨g',0,none⟩) (len+1) cap'
 old:∀j,j<len->XM j=vl j
 new:XM len=V
 size:w.heap.size<=w'.heap.size
 blk:X=some ⟨g',0,none⟩\/w.heap.size<=g'
def Un.upd{α:Type}{C:α->List Value}{d:Nat->α}{x:α}{D:dh}{w g:aj}{M:aW}{p i k:Nat}{e:TypeId}{X:eP}{len l b:Nat}{a c:eX}(A:Un D w g M p i k e X len (λj=>C (d j)) (C x) l b a c)(j:Nat)(b:j<len+1)(f:Nat)(_:f<k):(C (upd d len x j)).getD f undef=(a j).getD f undef:=by
 congr 1;by_cases h:j=len
 .subst h;rw[A.new];simp[Go.Proofs.YtobagnjnbmgidabGreatDoor.upd]
 .rw[A.old j ω];simp[Go.Proofs.YtobagnjnbmgidabGreatDoor.upd,h]
def Un.keep{D:dh}{w f d:aj}{M:aW}{p h k:Nat}{e:TypeId}{X:eP}{len j a:Nat}{g c b:eX}{V:iO}(A:Un D w f M p h k e X len g V j a c b)(i:Fr (λ_=>False) f d):Un D w d M p h k e X len g V j a c b:=
 ⟨A.sat.keep i,A.vc,A.old,A.new,aT A.size i.size,A.blk⟩
def Sat.dB{D:dh}(h:Sat D w M)(c:∀i r,nth Z i=some r->r.wr=false/\∃k,nth M k=some r):Sat D w Z:=by
 refine⟨λi r a j d=>?_,λi r a j d=>?_,λi r b b a b b=>?_,λi r a g e n f=>?_⟩
 .let⟨_,k,b⟩:=c i r a;exact h.val k r b j d
 .let⟨_,k,b⟩:=c i r a;exact h.ok k r b j d
 .grind
 .let⟨_,k,b⟩:=c i r a;exact h.row k r b g e n f
section
variable{D:dh}{I:gi}
def apS(F:aB P J (DX D) I)(hB:HB B D)(hk:b.kind=.normal){t:eC}(s x d n e k bytes p o f:Nat)(A:Qc P n e k bytes=true){m:eX}(Z:kI t=true)(P:oD (aQ t) s x d n=true)(hd:d<N)(W:look E s=some (.slice X len T))(R:look E x=some (.slice (some ⟨nb,0,none⟩) 1 1))(Y:nth M p=some (vR X k m len T e))(L:nth M o=some (sR X k vs len T))(C:p≠o)(H:nth M f=some (bR nb V))(U:Vc D X len T)(y:∀j,j<len->(m j).length=k)(hl:V.length=k)(h1:∀u∈V,u.oneCell'=true)(u:B<=nb)(Q:len+1<=maxLen)(f:(len+1)*bytes<=140737488355328)(S:St D B N E M c a w)(K:∀l c h g a' j,Un D w j M p o k e X len m V l c h g->aR ((d,.slice (some ⟨l,0,none⟩) (len+1) c)::E) N a'->a'.defers=a.defers->I (G (b.at a' (jB t)) O) j):I (G (b.at a t) O) w:=by
 let⟨b,i,r,kk,w,d,B⟩:=dH Z;let⟨N,M,G⟩:=mh P;let⟨inf,z,t,r,p,o,m,k,i⟩:=kv A;have b:∀q v,look E q=some v->a.eval (.tmp q)=v:=λq v a=>by rw[S.env.eval (by simp[kn,a])];simp[ev,a]
 rw[w];refine F.aap hB d N hk (.tmp s) (.tmp x) n e G inf z t r p o m k i (b s _ W) (b x _ R) S.sat Y L C U y H hl h1 u (by rw[S.sz];omega) Q f λl c h g j i f e d b a=>?_;rw[<-B,M];exact K l c h g _ j ⟨i,f,e,d,b,a⟩ (S.env.put hd) (put_defers _ _ _)
def TM(Z:aW)(alt:List (Nat×List Hint))(F:aB P J (DX D) I)(Nd:P.follows .mixedOrders=true)(hB:HB B D)(hk:b.kind=.normal){y:Nat}{l:iy}{g:aN}(q:Nat)(hs:List Hint)(H:iK)(E2:Env)(Y:List aH->List aH)(c':Nat)(cY:iK)(eK:List (Int×Nat))(C:List (Nat×Nat))(s x d ty e k bytes p p1 p2:Nat)(YY:Qc P ty e k bytes=true){vl:eX}(ht:mP (pc P f y l g)=true)(R:((aL (pc P f y l g))[q]?).map (λo=>oD o s x d ty)=some true)(h:Ay P Z alt (aL (pc P f y l g)) q E M c c [s,x] (E2.map Prod.fst) (iD P B N E M c hs H (aL (pc P f y l g)) q)=some ⟨[some (.slice X len T),some (.slice (some ⟨nb,0,none⟩) 1 1)],E2.map (λp=>some p.2),Y M,c',cY,eK,C,true⟩)(hq:K5 Prod.fst (iD P B N E M c hs H (aL (pc P f y l g)) q)=K5 Prod.snd (iD P B N E M c hs H (aL (pc P f y l g)) q))(halt:tT P (aL (pc P f y l g)) Z alt true (iD P B N E M c hs H (aL (pc P f y l g)) q)=tT P (aL (pc P f y l g)) Z alt false (iD P B N E M c hs H (aL (pc P f y l g)) q))(hZ:∀i r,nth Z i=some r->r.wr=false/\∃k,k≠p/\k≠p1/\nth (Y M) k=some r)(Z0:(s==x)=false)(Va:(E2.map Prod.fst).contains d=false)(hd:d<N)(UU:.inRegion (aL (pc P f y l g)) (bP (q+1) ((aL (pc P f y l g)).size-(q+1)))::behind (pc P f y l g)=pc P f (y+1) l (g++[q+1]))(KN:∀p∈cY,p.1=p.2)(Vo:∀p∈eK,0<=p.1/\p.1<(p.2:Int))(Fj:∀p∈C,p.1<p.2)(S:St D B N E M c a w)(hp:nth (Y M) p=some (vR X k vl len T e))(Tq:nth (Y M) p1=some (sR X k vs len T))(Zd:p≠p1)(OI:nth (Y M) p2=some (bR nb V))(hv:Vc D X len T)(hvl:∀j,j<len->(vl j).length=k)(hl:V.length=k)(h1:∀u∈V,u.oneCell'=true)(o8:B<=nb)(VX:len+1<=maxLen)(W:(len+1)*bytes<=140737488355328)(K:∀Q m t n a' w' L,Un D L w' (Y M) p p1 k e X len vl V Q m t n->L.heap.size=B+c'->aR ((d,.slice (some ⟨Q,0,none⟩) (len+1) m)::E2) N a'->a'.defers=a.defers->I (G (b.at a' (pc P f (y+1) l (g++[q+1]))) O) w'):I (G (b.at a (pc P f y l g)) O) w:=by
 cases U:(aL (pc P f y l g))[q]? with
 |none=>rw[U]at R;cases R
 |some o=>
  rw[U]at R;let⟨g1,g2,g3⟩:=mh (Option.some.inj R);let⟨inf,z,y1,y2,y3,y4,y5,y6,y7⟩:=kv YY;refine X5 (Post:=λv w'=>∃Q m t n L,v=.slice (some ⟨Q,0,none⟩) (len+1) m/\L.heap.size=B+c'/\Un D L w' (Y M) p p1 k e X len vl V Q m t n) Z alt F Nd hB hk q hs H c [(s,.slice X len T),(x,.slice (some ⟨nb,0,none⟩) 1 1)] E2 (Y M) c' cY eK C ht U h hq (λa a=>?_) halt KN Vo Fj S (λv a A=>?_) (λa1 L rest S1 KK=>?_) (λv a a2 w3 A hA Hi Nk a=>?_)
  .simp_all
  .obtain⟨Q,m,t,n,L,rfl,z2,z3⟩:=A;refine⟨z3.sat.dB λi r c=>?_,by have:=z3.size;omega⟩;let⟨b,kk,a,u3,u4⟩:=hZ i r c;exact⟨b,kk,by rw[dX,af u3,dX,af a];exact u4⟩
  .have b:a1.eval (.tmp s)=.slice X len T:=by rw[S1.env.eval (by simp[kn,look])];simp[ev,look]
   have a:a1.eval (.tmp x)=.slice (some ⟨nb,0,none⟩) 1 1:=by rw[S1.env.eval (by simp[kn,look,Z0])];simp[ev,look,Z0]
   refine F.aap hB U g1 hk (.tmp s) (.tmp x) ty e g3 inf z y1 y2 y3 y4 y5 y6 y7 b a S1.sat hp Tq Zd hv hvl OI hl h1 o8 (by rw[S1.sz];omega) VX W λQ m t n w' f e d c b a=>KK _ _ ⟨Q,m,t,n,L,rfl,S1.sz,f,e,d,c,b,a⟩
  .obtain⟨Q,m,t,n,L,rfl,z2,z3⟩:=A;rw[UU];rw[g2]at hA;exact K Q m t n a2 w3 L (z3.keep Nk) z2 hA Hi
end
def opsOf(t:eC):Array Oper:=match t with
 |.inRegion ops _::_=>ops
 |_=>#[]
def V0(E:Env)(t:eC):Bool:=match (aQ t).guard with
 |none=>true
 |some (j,want)=>match ((opsOf t)[j]?).bind (·.dst)with
  |some d=>(match look E d with
   |some (.bool u)=>u==want
   |_=>false)
  |none=>false
def Zh{t:eC}{b:g8}{r:aN}(h:V0 E t=true)(o:aR E N a)(l:t=.inRegion b (i::r)::k):Region.wanted (aQ t) (yielded b a.tmps)=true:=by
 have m:opsOf t=b:=by rw[l];rfl
 unfold V0 at h;split at h
 .rename_i e;simp[Region.wanted,e]
 .rename_i j want e;split at h
  .rename_i d n;split at h
   .rename_i u g;have c:u=want:=by simpa using h
    have f:yielded b a.tmps j=some u:=by
     unfold yielded;rw[<-m,n];simp only[fJ];rw[o.val d _ g]
    simp[Region.wanted,e,f,c]
   .cases h
  .cases h
def lU(P:aG)(E:Env)(t:eC)(d:Nat):Option (Nat×Array Value):=
 bif kI t&&!lN (aQ t)&&V0 E t&&(aQ t).op.operands.all (kn E)&&(match (aQ t).dst with|some d'=>d'==d|none=>false)then
  (match cV P (execOp (ev E) (aQ t))with
  |some (.enter f args)=>some (f,args)
  |_=>none)
 else none
section
variable{D:dh}{I:gi}
def Af(F:aB P J (DX D) I)(U:b.kind=.normal){g:aN}(d h:Nat)(args:gd)(l:lU P E (pc P f n H g) d=some (h,args))(T:jB (pc P f n H g)=pc P f (n+1) H g)(X:d<N)(S:St D B N E M c a w)(K:∀W,(∀(j:gi) v t,(∀a',aR ((d,v)::E) N a'->a'.defers=a.defers->j (G (b.at a' (pc P f (n+1) H g)) O) t)->j (G (W.finish v) O) t)->I (G (Frame.enter P h args .normal) (W::O)) w):I (G (b.at a (pc P f n H g)) O) w:=by
 let⟨A,l⟩:=aE l;simp only[bZ,mA]at A;let⟨⟨⟨⟨h1,h2⟩,Z⟩,Y⟩,s⟩:=A;let⟨u,i,r,kk,C,L,x⟩:=dH h1;split at l
 .rename_i f' k R;simp only[Option.some.injEq,Prod.mk.injEq]at l;obtain⟨rfl,rfl⟩:=l;have V:=Zh Z S.env C;have q:(aQ (pc P f n H g)).dst=some d:=by
   split at s
   .rename_i d' z;rw[z];simp at s;rw[s]
   .cases s
  have e:execOp a.eval (aQ (pc P f n H g))=execOp (ev E) (aQ (pc P f n H g)):=execOp_congr h2 λy Q=>S.env.eval (yJ.1 Y y Q);have m:=fV _ _ R;have p:∀v,(b.at a (.inRegion u (i::r)::kk)).finish v=b.at (a.put (some d) v) (pc P f (n+1) H g):=λv=>by
   rw[bQ,L,<-T,x];simp only[fJ,q]
  generalize aQ (pc P f n H g)=o at*;rw[C];refine F.enter (f:=f') (args:=k) L V (by rw[U];decide) (λd=>?_) (λd=>?_) (K _ λj v t KK=>?_)
  .rw[e,<-fH (es:=#[]),m]
  .unfold Sem.events;rw[e,m]
  .rw[p];exact KK _ (S.env.put X) (put_defers _ _ _)
 .cases l
def Oc(F:aB P J (DX D) I)(i:b.kind=.normal){e:aN}(d h:Nat)(args:gd)(k:lU P E (pc P f n H e) d=some (h,args))(g:jB (pc P f n H e)=pc P f (n+1) H e)(j:d<N)(S:St D B N E M c a w)(K:∀W,(∀v c,(∀a',aR ((d,v)::E) N a'->a'.defers=a.defers->I (G (b.at a' (pc P f (n+1) H e)) O) c)->I (G (W.finish v) O) c)->I (G (Frame.enter P h args .normal) (W::O)) w):I (G (b.at a (pc P f n H e)) O) w:=
 Af F i d h args k g j S λW a=>K W (a I)
end
def CP(L:iO)(l f:Nat)(x:ay)(a:l<L.length):(L.set l x).getD f undef=if f=l then x else L.getD f undef:=by
 rw[ni,ni];by_cases e:f=l
 .subst e;rw[List.getElem?_set_self a];simp
 .rw[List.getElem?_set_ne (λz=>e z.symm),af e]
def fT{C:α->List Value}{g:Nat->α}{l:Nat}{x:ay}{r:α}(h:(C (g t)).set l x=C r)(b:l<(C (g t)).length)(j f:Nat):(C (upd g t r j)).getD f undef=JD (λj f=>(C (g j)).getD f undef) t l x j f:=by
 unfold JD upd;by_cases e:j=t
 .subst e;rw[sJ rfl,<-h,CP _ _ _ _ b];by_cases a:f=l
  .subst a;simp
  .have b:(f==l)=false:=by simpa using a
   simp[a,b]
 .have b:(j==t)=false:=by simpa using e
  simp[e,b]
def xj{C:α->List Value}{g:Nat->α}{d c b a:ay}{r:α}(h:C r=[d,c,b,a])(i:(C (g t)).length=4)(j f:Nat)(i:f<4):(C (upd g t r j)).getD f undef=JD (JD (JD (JD (λj f=>(C (g j)).getD f undef) t 0 d) t 1 c) t 2 b) t 3 a j f:=by
 unfold JD upd;by_cases e:j=t
 .subst e;rw[sJ rfl,h];rcases f with _|_|_|_|f
  .simp
  .simp
  .simp
  .simp
  .omega
 .have a:(j==t)=false:=by simpa using e
  simp[e,a]
def Sat.map{D:dh}(h:Sat D w M)(k:bU)(f:∀i b,nth M' i=some b->∃r,nth M (k i)=some r/\(b=r\/b={r with wr:=false}))(u:∀i j r,nth M' i=some r->r.wr=true->k i=k j->i=j):Sat D w M':=by
 refine⟨λi b a j d=>?_,λi b a j d=>?_,λi b p q a m l j t d o x=>?_,λi b a g e n v=>?_⟩
 .obtain⟨r,c,rfl|rfl⟩:=f i b a<;>exact h.val _ _ c j d
 .obtain⟨r,c,rfl|rfl⟩:=f i b a
  .exact h.ok _ _ c j d
  .exact⟨(h.ok _ r c j d).1,λz=>by cases z⟩
 .obtain⟨r,c,rfl|rfl⟩:=f i b a
  .obtain⟨s,y,rfl|rfl⟩:=f p q m<;>(have:=h.sep _ _ _ _ c y l j t d o x;exact⟨u i p _ a l this.1,this.2⟩)
  .cases l
 .obtain⟨r,c,rfl|rfl⟩:=f i b a<;>exact h.row _ _ c g e n v
def kR:∀(A C:aW)(i:Nat),nth (A++C) i=if i<A.length then nth A i else nth C (i-A.length)
 |[],C,i=>ψ
 |x::A,C,0=>by simp[nth]
 |x::A,C,i+1=>by
  simp only[um,nth,gB,kR A C i,Nat.add_lt_add_iff_right,Nat.add_sub_add_right]
def Sat.dup{D:dh}(h:Sat D w M)(g:nth M i=some r)(f:r.wr=false):Sat D w (r::M):=by
 refine h.map (λk=>if k=0 then i else k-1) (λk c d=>?_) (λk j c d a e=>?_)
 .rcases iB d with ⟨l,rfl,b⟩|⟨rfl,rfl⟩
  .exact⟨c,by simpa using b,.inl rfl⟩
  .exact⟨c,by simpa using g,.inl rfl⟩
 .rcases iB d with ⟨l,rfl,b⟩|⟨rfl,rfl⟩
  .simp only[Nat.add_one_ne_zero,if_false,eM]at e;split at e
   .subst e;rw[g]at b;cases b;rw[f]at a;cases a
   .omega
  .rw[f]at a;cases a
def Sat.G7{D:dh}(h:Sat D w M)(p:Nat)(E:nth M p=some r)(d:aH)(J:∀j,d.has j->r.has j/\d.ad j=r.ad j/\d.get j=r.get j)(v:d.wr=true->r.wr=true)(l:d.row=none):Sat D w (cG M p d):=by
 have key:∀q s,nth (cG M p d) q=some s->∃a,nth M q=some a/\(∀j,s.has j->a.has j/\s.ad j=a.ad j/\s.get j=a.get j)/\(s.wr=true->a.wr=true)/\(s.row=none\/s=a):=λq s b=>by
  rw[dX]at b;split at b
  .rename_i e;subst e;rw[E]at b;simp at b;subst b;exact⟨r,E,J,v,.inl l⟩
  .exact⟨s,b,λ_ z=>⟨z,rfl,rfl⟩,id,.inr rfl⟩
 refine⟨λq s b j m=>?_,λq s b j m=>?_,λq s B I b x v j C m y e=>?_,λq s b g e n A=>?_⟩
 .let⟨a,c,i,o,t⟩:=key q s b;let⟨f,k,u⟩:=i j m;rw[k,u];exact h.val q a c j f
 .let⟨a,c,i,o,t⟩:=key q s b;let⟨f,k,u⟩:=i j m;rw[k];exact⟨(h.ok q a c j f).1,λz=>(h.ok q a c j f).2 (o z)⟩
 .let⟨a,c,i,o,t⟩:=key q s b;let⟨H,L,K,P,O⟩:=key B I x;let⟨f,k,u⟩:=i j m;let⟨G,F,N⟩:=K C y;rw[k,F]at e;exact h.sep q a B H c L (o v) j C f G e
 .let⟨a,c,i,o,t⟩:=key q s b;rcases t with z|rfl
  .rw[z]at A;cases A
  .exact h.row q s c g e n A
def Sat.BC{D:dh}(h:Sat D w (A++(r::C))):Sat D w (A++C):=by
 refine h.map (λi=>if i<A.length then i else i+1) (λi b a=>?_) (λi j b a c e=>?_)
 .rw[kR]at a;split at a
  .rename_i z;simp only[z,if_true];exact⟨b,by rw[kR,sJ z];exact a,.inl rfl⟩
  .rename_i z;simp only[z,if_false];refine⟨b,?_,.inl rfl⟩;rw[kR,af ω,show i+1-A.length=(i-A.length)+1 by omega];exact a
 .split at e
  .split at e<;>omega
  .split at e<;>omega
def Sat.back{D:dh}(h:Sat D w (r::(A++C))):Sat D w (A++(r::C)):=by
 refine h.map (λi=>if i<A.length then i+1 else if i=A.length then 0 else i) (λi b a=>?_) (λi j b a g e=>?_)
 .rw[kR]at a;split at a
  .rename_i z;simp only[z,if_true];exact⟨b,by show nth (A++C) i=_;rw[kR,sJ z];exact a,.inl rfl⟩
  .rename_i z;simp only[z,if_false];by_cases e:i=A.length
   .subst e;simp[nth]at a;simp only[if_true];exact⟨r,rfl,.inl a.symm⟩
   .simp only[e,if_false];obtain⟨k,d⟩:∃k,i-A.length=k+1:=⟨i-A.length-1,ω⟩;rw[d]at a;refine⟨b,?_,.inl rfl⟩;obtain⟨m,rfl⟩:∃m,i=m+1:=⟨i-1,ω⟩
    show nth (A++C) m=_;rw[kR,af ω];have:m-A.length=k:=ω
    rw[this];exact a
 .split at e
  .split at e
   .omega
   .split at e<;>omega
  .rename_i f;split at e
   .rename_i c;split at e
    .omega
    .split at e<;>omega
   .rename_i c;split at e
    .omega
    .split at e<;>omega
def eU{Q:α->Prop}:∀p∈([]:List α),Q p:=λ_ h=>by cases h
def nK{Q:α->Prop}{a:α}{l:List α}(h:Q a)(c:∀p∈l,Q p):∀p∈a::l,Q p:=λp b=>by
 rcases ak.1 b with rfl|b
 .exact h
 .exact c p b
def bh(p:Nat)(j:Ix)(v:ay)(M:aW):List aH:=match nth M p with
 |some r=>cG M p (r.set j v)
 |none=>M
section
variable{D:dh}{I:gi}
def dR(F:aB P J (DX D) I)(u:P.follows .mixedOrders=true)(T:HB B0 D)(v:B0<=B)(Q:b.kind=.normal){ds:wN}(R:a.defers=ds){o:Nat}{g:iy}{e:aN}(n:Nat)(q:List Hint)(H:iK)(m:aN)(s:Env)(C:List aH->List aH)(r:Nat)(t:Nat)(l:iy)(i:aN)(k:iK)(j:List (Int×Nat))(d:List (Nat×Nat))(h:fin c (s.map Prod.fst) (bE P B n ⟨[⟨f,N,pc P f o g e,E⟩],⟨q,M,c,[],[]⟩,H,[],[]⟩ m)=some (N,pc P f t l i,s.map (λp=>some p.2),C M,r,k,j,d))(L:Hp (bE P B n ⟨[⟨f,N,pc P f o g e,E⟩],⟨q,M,c,[],[]⟩,H,[],[]⟩ m)=Ho (bE P B n ⟨[⟨f,N,pc P f o g e,E⟩],⟨q,M,c,[],[]⟩,H,[],[]⟩ m))(y:∀p∈k,p.1=p.2)(x:∀p∈j,0<=p.1/\p.1<(p.2:Int))(A:∀p∈d,p.1<p.2)(S:St D B N E M c a w)(K:∀a' c,St D B N s (C M) r a' c->a'.defers=ds->c.heap.size=B+r->w.heap.size<=c.heap.size->Fr (Wr M) w c->I (G (b.at a' (pc P f t l i)) O) c):I (G (b.at a (pc P f o g e)) O) w:=
 bk F u (λa wr z=>T a wr (aT v z)) Q n q H m s C r t l i k j d h L y x A S λa' c d a b _=>K a' c d (a.trans R) d.sz b.size b
def Ret(P:aG)(D:dh)(I:gi)(b:aC)(O:cO)(f n:Nat)(H:iy)(qs:aN)(N d:Nat)(E:Env)(ds:wN)(W:aC):Prop:=
 ∀v w' M,Sat D w' M->(∀a' B',St D B' N ((d,v)::E) M 0 a' w'->a'.defers=ds->w'.heap.size=B'->I (G (b.at a' (pc P f n H qs)) O) w')->I (G (W.finish v) O) w'
def clz(F:aB P J (DX D) I)(j:b.kind=.normal){ds:wN}(g:a.defers=ds){e:aN}(d h:Nat)(args:gd)(l:lU P E (pc P f n H e) d=some (h,args))(i:jB (pc P f n H e)=pc P f (n+1) H e)(k:d<N)(S:St D B N E M c a w)(K:∀W,Ret P D I b O f (n+1) H e N d E ds W->I (G (Frame.enter P h args .normal) (W::O)) w):I (G (b.at a (pc P f n H e)) O) w:=
 Oc F j d h args l i k S λW a=>K W λv b M' c KK=>a v b λa' b a=>KK a' _ ⟨b,c,rfl⟩ (a.trans g) rfl
end
structure Sp(P:aG)(ops:g8)(bm:Array Nat)(E0:Env)(Z:aW)(gL:List Rec)(r:Rec):Prop where
 op:ops[r.i]? =some r.o
 run:wH P 0 ops r.E r.o r.x=some (r.v,r.y)
 met:oE r.y
 env:∀d v,look r.E d=some v->(∃s∈gL,iJ bm r.i s.i=true/\s.o.dst=some d/\s.v=v)\/look E0 d=some v
 mem:r.x.m.M=ro Z/\r.x.m.c=0/\r.y.m.c=r.x.m.c
def Sp.mono{c:g8}{e:Array Nat}{f:Env}{b a:List Rec}{r:Rec}(h:Sp P c e f Z b r)(g:∀s∈b,s∈a):Sp P c e f Z a r:=
 ⟨h.op,h.run,h.met,λd v a=>(h.env d v a).imp (fun⟨s,b,a⟩=>⟨s,g s b,a⟩) id,h.mem⟩
structure Ht(D:dh)(ops:g8)(bm:Array Nat)(q N:Nat)(ds:wN)(E0:Env)(Z:aW)(gL:List Rec)(w:aj)(l:oI)(a':Act)(w':aj):Prop where
 size:l.size=ops.size
 late:∀j,q<=j->j<ops.size->l.getD j true=false
 down:∀i j,l.getD i false=true->i<ops.size->j<ops.size->iJ bm i j=true->l.getD j false=true
 sz:a'.tmps.size=N
 DL:a'.defers=ds
 val:∀r∈gL,l.getD r.i false=true->∀d,r.o.dst=some d->a'.tmps[d]? =some r.v
 old:∀d v,look E0 d=some v->a'.tmps[d]? =some v
 fr:Fr (λ_=>False) w w'
 M1:w'.heap.size=w.heap.size
 sat:Sat D w' Z
section
variable{D:dh}{I:gi}
def Lj{a:g8}(b:jE a q=true){j:Nat}(g:i<q)(f:j<q)(e:(a[i]?).bind (·.dst)=some d)(c:(a[j]?).bind (·.dst)=some d):i=j:=by
 have:=eZ.1 (eZ.1 b i (aZ.2 g)) j (aZ.2 f);rw[e,c]at this;simpa using this
def wA{D:dh}{b:g8}{g:Array Nat}{ds:wN}{t:Env}{c:List Rec}{r:aj}(h:qn b g q)(s:Ht D b g q N ds t Z c w l a r)(d:b[i]? =some o)(a:∀e∈o.after,Region.binds .any e=true->l.getD e.on false=true):∀j,j<b.size->iJ g i j=true->l.getD j false=true:=λj k g=>by
 have c:i<b.size:=(cU.1 d).1;let⟨_,e,m,p,f⟩:=h.Li i o j d k g;have n:=a e m p;rcases f with rfl|f
 .exact n
 .have a:=h.low i o d e m p;exact s.down e.on j n ω k f
def Ht.put{c:g8}{K:Array Nat}{q N:Nat}{ds:wN}{L:Env}{Z:aW}{b:List Rec}{w F E:aj}{l:oI}{a:Act}(M:qn c K q)(H:jE c q=true)(W:∀d∈dstsOf c q,d<N)(I:∀d v,look L d=some v->d∉dstsOf c q)(V:∀r∈b,∀s∈b,r.i=s.i->r=s)(h:∀r∈b,r.i<q/\c[r.i]? =some r.o)(f:Ht D c K q N ds L Z b w l a F){r:Rec}(B:r∈b)(u:∀e∈r.o.after,Region.binds .any e=true->l.getD e.on false=true)(Q:Fr (λ_=>False) F E)(U:E.heap.size=F.heap.size):Ht D c K q N ds L Z b w (l.setIfInBounds r.i true) (a.put r.o.dst r.v) E:=by
 let⟨t,O⟩:=h r B;have a:r.i<c.size:=ga t M.le;have p:r.i<l.size:=by rw[f.size];exact a
 have m:∀s∈b,∀d,s.o.dst=some d->d∈dstsOf c q:=λs g d x=>by
  let⟨y,J⟩:=h s g;exact u6.2 ⟨s.i,aZ.2 y,by rw[J];exact x⟩
 have G:=wA M f O u;refine⟨by simp[f.size],λj b a=>?_,λi j y J S R=>?_,?_,by rw[put_defers];exact f.DL,λs g x d k=>?_,λd v P=>?_,f.fr.trans Q (λ_ z=>z.elim),U.trans f.M1,f.sat.keep Q⟩
 .rw[bp _ p,af ω];exact f.late j b a
 .rw[bp _ p]at y ⊢;by_cases e:j=r.i
  .rw[sJ e]
  .rw[af e];by_cases T:i=r.i
   .subst T;exact G j S R
   .rw[af T]at y;exact f.down i j y J S R
 .cases x:r.o.dst with
  |none=>simp[Act.put];exact f.sz
  |some d=>simp[Act.put];exact f.sz
 .by_cases e:s.i=r.i
  .have:=V s g r B e;subst this;rw[k];simp only[Act.put];rw[LN,sJ (by rw[f.sz];exact W d (m _ B d k))]
  .rw[bp _ p,af e]at x;have A:=f.val s g x d k;cases n:r.o.dst with
   |none=>exact A
   |some C=>
    have o:C≠d:=λz=>e (Lj H (h s g).1 t (by rw[(h s g).2];exact k) (by rw[O];show r.o.dst=some d;rw[n,z]));simp only[Act.put];rw[ku o];exact A
 .have A:=f.old d v P;cases n:r.o.dst with
  |none=>exact A
  |some C=>
   have o:C≠d:=λz=>I d v P (by rw[<-z];exact m _ B C n);simp only[Act.put];rw[ku o];exact A
def AP(F:aB P J (DX D) I)(C:HB B0 D)(A:b.kind≠.early){f:g8}{n:Array Nat}{ds:wN}{o:Env}{c:List Rec}(p:qn f n q)(t:jE f q=true)(B:∀d∈dstsOf f q,d<N)(u:∀d v,look o d=some v->d∉dstsOf f q)(x:∀r∈c,∀s∈c,r.i=s.i->r=s)(j:∀r∈c,r.i<q/\f[r.i]? =some r.o){m:aj}(i:Ht D f n q N ds o Z c w l a m){r:Rec}(y:r∈c)(g:Sp P f n o Z c r)(h:B0<=w.heap.size)(h:∀e∈r.o.after,Region.binds .any e=true->l.getD e.on false=true)(rest:aN)(K:∀a' e,Ht D f n q N ds o Z c w (l.setIfInBounds r.i true) a' e->I (G (b.at a' (.inRegion f rest::k)) O) e):I (G (b.at a (.inRegion f (r.i::rest)::k)) O) m:=by
 have b:=wA p i g.op h;have k:aR r.E N a:=⟨i.sz,λd v a=>by
  rcases g.env d v a with ⟨s,a,f,e,c⟩|z
  .rw[<-c];exact i.val s a (b s.i (ga (j s a).1 p.le) f) d e
  .exact i.old d v z⟩
 have a:Sat D m r.x.m.M:=by rw[g.mem.1];exact i.sat.ro
 have b:=i.M1;have b:=g.mem.2.1;refine vL (B:=m.heap.size) F (λb wr z=>C b wr ω) A g.op (Ff g.run g.mem.2.2 _) g.met k ⟨a,ω⟩ λa c a d=>K _ _ (Ht.put p t B u x j i y h (a.Cc λb z=>?_) ?_)
 .rw[g.mem.1]at z;exact uV z
 .have:=c.sz;have:=g.mem.2.2;omega
def Dd(F:aB P J (DX D) I)(hB:HB B0 D)(X:b.kind≠.early){c:g8}{E:Array Nat}{ds:wN}{H:Env}{f:List Rec}(u:qn c E q)(S:jE c q=true)(Y:∀d∈dstsOf c q,d<N)(T:∀d v,look H d=some v->d∉dstsOf c q)(W:∀r∈f,∀s∈f,r.i=s.i->r=s)(x:∀r∈f,r.i<q/\c[r.i]? =some r.o)(d:q0<q)(M:∀r∈f,r.i≠q0->Sp P c E H Z f r)(B:∀i,i<q->∃r∈f,r.i=i)(U:B0<=w.heap.size)(K:∀l a' L,Ht D c E q N ds H Z f w l a' L->(∀i,i<q->l.getD i false=true)->I (G (b.at a' (.inRegion c (bP q (c.size-q))::k)) O) L):
 ∀(h t:Nat)(l:oI)(a:Act)(o:aj),Ht D c E q N ds H Z f w l a o->l.getD q0 false=true->(∃m,m+h=c.size/\(l.toList.filter id).length=m)->I (G (b.at a (.inRegion c (Region.linearise.go .any c h t l [])::k)) O) o:=by
 intro h;induction h with
 |zero=>
  intro t l a o j p ⟨m,R,C⟩;have g:∀i,i<q->l.getD i false=true:=λi b=>by have:=u.le;rw[cH (by rw[j.size];omega) false true];exact om j.size ω i ω
  rw[mj u j.size j.late g ⟨m,R,C⟩];exact K l a o j g
 |succ h V=>
  intro t l a o j p ⟨m,R,C⟩;by_cases g:∀i,i<q->l.getD i false=true
  .rw[mj u j.size j.late g ⟨m,R,C⟩];exact K l a o j g
  .let⟨i,a,A,f1,f2,_,b⟩:=Yi u j.size j.down g (fuel:=h) (t:=t);rw[b];obtain⟨r,Q,rfl⟩:=B i a;have n:r.i<l.size:=by rw[j.size];exact A
   have y:r.i≠q0:=λz=>by rw[<-z,cH n false true,f1]at p;cases p
   have a:c[r.i]=r.o:=Option.some.inj ((iz A).symm.trans (x r Q).2);refine AP F hB X u S Y T W x j Q (M r Q y) U (λe b c=>f2 e (by rw[a];exact b) c) _ λa' L a=>V _ _ _ _ a ?_ ⟨m+1,ω,?_⟩
   .rw[bp _ n,af (λz=>y z.symm)];exact p
   .have p:l[r.i]=false:=by have:=f1;simpa [Array.getD,n]using this
    rw[zd];exact C▸gG l.toList r.i n p
end
def I1(bm:Array Nat)(q q0:Nat):List Nat:=(List.range q).filter λi=>!(i==q0)&&!iJ bm i q0
def I2(bm:Array Nat)(q q0:Nat):List Nat:=(List.range q).filter λi=>iJ bm i q0
def oY{a:Array Nat}:i∈I1 a q q0↔i<q/\i≠q0/\iJ a i q0=false:=by
 unfold I1;simp
def vO{a:Array Nat}:i∈I2 a q q0↔i<q/\iJ a i q0=true:=by
 unfold I2;simp
def YP{b:g8}{f:Array Nat}{g:Env}{is:aN}{acc a:List Rec}{c:cS}(h:iZ P 0 b f g Z 0 is acc none x=some (a,none,c))(j:oE c)(d:is.Nodup)(l:∀r∈acc,r.i∉is)(k:∀r∈acc,∀s∈acc,r.i=s.i->r=s):
 (∀r∈a,∀s∈a,r.i=s.i->r=s)/\(∀r∈acc,r∈a)/\(∀i∈is,∃r∈a,r.i=i)/\(∀r∈a,r∈acc\/(r.i∈is/\Sp P b f g Z a r)):=by
 let⟨q,o,_,_,b,n,m⟩:=iY is acc none x a none c h d l (λp R z=>by cases z) k;refine⟨q,o,n,λr a=>(m r a).imp id fun⟨b,a⟩=>⟨b,a.op,a.run,a.sub.met j,a.env,?_⟩⟩;rcases a.mem with ⟨a,a,a⟩|⟨_,_,_,R,e,_⟩
 .simp_all
 .cases e
def RA{D:γ->Addr->Bool->Prop}{I:γ->Goroutine->World->Prop}(F:∀p,aB P J (DX (D p)) (I p))(Nd:P.follows .mixedOrders=true){Bd:γ->Nat}(hB:∀p (a:Addr) (wr:Bool),Bd p<=a.block->D p a wr)(hk:b.kind≠.early){c:g8}{id:Nat}{E0:Env}{Q:γ}{x0 x1:cS}{f:List Rec}(ho:c[q0]? =some o)(UT:oV c (Region.before c) q=true)(L:q0<q)(hN:∀d∈dstsOf c q,d<N)(CO:∀d v,look E0 d=some v->d∉dstsOf c q)(hA:aR E0 N a)(hS:Sat (D Q) w Z)(yQ:Bd Q<=w.heap.size)(I5:iZ P 0 c (Region.before c) E0 Z 0 (I1 (Region.before c) q q0) [] none x0=some (f,none,x1))(Ve:oE x1){Post:γ->Value->World->Prop}(U:∀Y w1 rest,aR (iH (Region.before c) q0 f++E0) N Y->Y.defers=a.defers->Fr (λ_=>False) w w1->w1.heap.size=w.heap.size->(∀p v M,Post p v M->I p (G (b.at (Y.put o.dst v) (.inRegion c rest::k)) O) M)->I Q (G (b.at Y (.inRegion c (q0::rest)::k)) O) w1)(K:∀p v M,Post p v M->Bd p<=M.heap.size/\Sat (D p) M Z/\∃x2 g x3,iZ P 0 c (Region.before c) E0 Z 0 (I2 (Region.before c) q q0) (⟨q0,o,[],x0,v,x0⟩::f) none x2=some (g,none,x3)/\oE x3/\
 ∀a2 w3,aR (kO g E0) N a2->a2.defers=a.defers->Fr (λ_=>False) M w3->w3.heap.size=M.heap.size->I p (G (b.at a2 (.inRegion c (bP q (c.size-q))::k)) O) w3):
 I Q (G (b.at a (.code (.region id c true)::k)) O) w:=by
 let⟨hp,CK⟩:=oU UT;generalize hbm:Region.before c=bm at*;have UR:=hp.le;have E:q0<c.size:=ω
 let⟨u1,_,c1,s1⟩:=YP I5 Ve (uo.filter _) ψ ψ;have H:∀r∈f,r.i∈I1 bm q q0/\Sp P c bm E0 Z f r:=λr h=>(s1 r h).resolve_left ψ;have x:∀r∈f,r.i<q/\c[r.i]? =some r.o:=λr h=>⟨(oY.1 (H r h).1).1,(H r h).2.op⟩
 have bqq:iJ bm q0 q0=false:=by
  cases hz:iJ bm q0 q0 with
  |false=>rfl
  |true=>have:=(hp.Li q0 o q0 ho E hz).1;omega
 have J:∀(y t:Nat)(l:oI)(Y:Act)(w1:aj),Ht (D Q) c bm q N a.defers E0 Z f w l Y w1->l.getD q0 false=false->(∃m,m+y=c.size/\(l.toList.filter _root_.id).length=m)->I Q (G (b.at Y (.inRegion c (Region.linearise.go .any c y t l [])::k)) O) w1:=by
  intro y;induction y with
  |zero=>
   intro t l Y w1 n h0 ⟨m,hm,hc⟩;exfalso;have a:l.toList.length=c.size:=by rw[za];exact n.size
   have a:(l.toList.filter _root_.id).length=l.toList.length:=ω
   have:=TS.1 a;have a:q0<l.size:=by rw[n.size];exact E
   have h3:=this l[q0] ψ;simp only[Array.getD,a,mJ]at h0;have C:l[q0]=false:=h0;rw[C]at h3;cases h3
  |succ y ih=>
   intro t l Y w1 n h0 ⟨m,hm,hc⟩;let⟨i,FY,qN,f1,f2,t',hgo⟩:=Yi hp n.size n.down (λz=>by have:=z q0 L;rw[h0]at this;cases this) (fuel:=y) (t:=t);rw[hgo];have B:i<l.size:=by rw[n.size];exact qN
   have U2:c[i]? =some c[i]:=iz qN;have QZ:=wA hp n U2 f2;have QW:((l.setIfInBounds i true).toList.filter _root_.id).length=m+1:=by
    have h0:l[i]=false:=by have:=f1;simpa [Array.getD,B]using this
    rw[zd];exact hc▸gG l.toList i B h0
   by_cases e:i=q0
   .subst e;have a:c[i]=o:=Option.some.inj (U2.symm.trans ho);refine U Y w1 _ ⟨n.sz,λd v hl=>?_⟩ n.DL n.fr n.M1 λp v M k=>?_
    .rcases lK _ _ d v hl with z|z
     .let⟨s,W,h2,h3,h4⟩:=jP bm i f d v z;rw[<-h4];exact n.val s W (QZ s.i (ga (x s W).1 UR) h2) d h3
     .exact n.old d v z
    .let⟨Bl,T0,x2,g,x3,b,a,K2⟩:=K p v M k;have QB:∀r∈f,r.i≠i:=λr h=>(oY.1 (H r h).1).2.1;let⟨u2,R,c2,s2⟩:=YP b a (uo.filter _) (λr h=>by
      rw[vO];rcases ak.1 h with rfl|h
      .rintro ⟨_,z⟩;rw[bqq]at z;cases z
      .rintro ⟨_,z⟩;rw[(oY.1 (H r h).1).2.2]at z;cases z) (λr h s X DD=>by
      rcases ak.1 h with rfl|h<;>rcases ak.1 X with rfl|X
      .rfl
      .exact absurd DD.symm (QB s X)
      .exact absurd DD (QB r h)
      .exact u1 r h s X DD)
     have S:∀s∈f,s∈g:=λs X=>R s (aP _ X);have T:∀r∈g,r.i<q/\c[r.i]? =some r.o:=λr h=>by
      rcases s2 r h with z|⟨z1,z2⟩
      .rcases ak.1 z with rfl|z
       .exact⟨L,ho⟩
       .exact x r z
      .exact⟨(vO.1 z1).1,z2.op⟩
     refine Dd (q0:=i) (w:=M) (Z:=Z) (F p) (hB p) hk hp CK hN CO u2 T L (λr h V=>?_) (λj hj=>?_) Bl (λa a' w' A KM=>K2 a' w' ⟨A.sz,λd u hl=>?_⟩ A.DL A.fr A.M1) y t' _ _ M ?_ (by rw[bp _ B,sJ rfl]) ⟨m+1,ω,QW⟩
     .rcases s2 r h with z|⟨z1,z2⟩
      .rcases ak.1 z with rfl|z
       .exact absurd rfl V
       .exact(H r z).2.mono S
      .exact z2
     .by_cases ej:j=i
      .exact⟨_,R _ (bI ..),ej.symm⟩
      .cases hz:iJ bm j i with
       |false=>let⟨r,h,e⟩:=c1 j (oY.2 ⟨hj,ej,hz⟩);exact⟨r,S r h,e⟩
       |true=>exact c2 j (vO.2 ⟨hj,hz⟩)
     .rcases lM g E0 d u hl with ⟨s,W,h2,h3⟩|z
      .rw[<-h3];exact A.val s W (KM s.i (T s W).1) d h2
      .exact A.old d u z
     .refine⟨by simp[n.size],λj hj a=>?_,λi' j W h2 h3 h4=>?_,?_,by rw[put_defers];exact n.DL,λs X hd d QS=>?_,λd u hl=>?_,Fr.refl _ _,rfl,T0⟩
      .rw[bp _ B,af ω];exact n.late j hj a
      .rw[bp _ B]at W ⊢;by_cases e:j=i
       .rw[sJ e]
       .rw[af e];by_cases e':i'=i
        .subst e';exact QZ j h3 h4
        .rw[af e']at W;exact n.down i' j W h2 h3 h4
      .cases hd:o.dst with
       |none=>simp[Act.put];exact n.sz
       |some d=>simp[Act.put];exact n.sz
      .rw[bp _ B]at hd;by_cases es:s.i=i
       .have hsf:s=⟨i,o,[],x0,v,x0⟩:=u2 s X _ (R _ (bI ..)) es;subst hsf;have a:o.dst=some d:=QS;rw[a];simp only[Act.put];rw[LN,sJ (by rw[n.sz];exact hN d (u6.2 ⟨i,aZ.2 L,by rw[ho];exact a⟩))]
       .rw[af es]at hd;rcases s2 s X with z|⟨z1,z2⟩
        .rcases ak.1 z with rfl|z
         .exact absurd rfl es
         .have C:=n.val s z hd d QS;cases M7:o.dst with
          |none=>exact C
          |some d'=>
           have V:d'≠d:=λa=>es (Lj CK (x s z).1 L (by rw[(x s z).2];exact QS) (by rw[ho];show o.dst=some d;rw[M7,a]));simp only[Act.put];rw[ku V];exact C
        .exfalso;have:=n.down s.i i hd (by have:=(T s X).1;omega) qN (vO.1 z1).2;rw[h0]at this;cases this
      .have C:=n.old d u hl;cases M7:o.dst with
       |none=>exact C
       |some d'=>
        have V:d'≠d:=λz=>CO d u hl (by rw[<-z];exact u6.2 ⟨i,aZ.2 L,by rw[ho];exact M7⟩);simp only[Act.put];rw[ku V];exact C
   .have o8:iJ bm i q0=false:=by
     cases hz:iJ bm i q0 with
     |false=>rfl
     |true=>have:=QZ q0 E hz;rw[h0]at this;cases this
    obtain⟨r,h,rfl⟩:=c1 i (oY.2 ⟨FY,e,o8⟩);have a:c[r.i]=r.o:=Option.some.inj (U2.symm.trans (x r h).2);refine AP (F Q) (hB Q) hk hp CK hN CO u1 x n h (H r h).2 yQ (λe b f=>f2 e (by rw[a];exact b) f) _ λa' w' A=>ih _ _ _ _ A ?_ ⟨m+1,ω,QW⟩;rw[bp _ B,af (λz=>e z.symm)];exact h0
 refine(F Q).step _ _ rfl λd=>⟨_,_,_,stepG_region_draw,(F Q).idle _ _,?_,λz v _ _=>stepG_region_draw⟩
 show I Q _ (w.at (d+1));refine(F Q).at' _ _ _ ?_;simp only[Region.schedule,Nd,ue,if_true,Region.linearise];refine J _ _ _ _ _ ⟨ψ,λj _ hj=>by simp[Array.getD,hj],λi j W h2=>?_,hA.sz,rfl,λr h hd=>?_,hA.val,Fr.refl _ _,rfl,hS⟩ (by simp[Array.getD,E]) ⟨0,ψ,ψ⟩
 .simp[Array.getD,h2]at W
 .have:r.i<c.size:=by have:=(x r h).1;omega
  simp[Array.getD,this]at hd
def ends(c:aC):Value ⊕ Value->Frame
 |.inl v=>c.finish v
 |.inr v=>c.raise (je v)
structure O0(b:aC)(f:Nat):Prop where
 k:b.kind=.normal
 f:b.fn=f
 m:b.mode=.run
 r:b.roundOf=none
def raise_at(c:b.mode=.run)(a:Act)(t:eC)(ch:List PanicEntry):(b.at a t).raise ch={b.at a t with mode:=.panicking ch}:=by
 rfl
section
variable{D:dh}{I:gi}
def cJ{fn:Func}(c:P.funcs[f]? =some fn){code:Code}(d:Sat D w M)(N:Nat)(K:∀b a B,O0 b f->b.kind=.normal->b.fn=f->a.defers=[]->St D B N (ru args.toList 0) M 0 a w->w.heap.size=B->I (G (Frame.at b a (pc P f 0 [] [])) O) w)(b:fn.body=some code:=by exact rfl)(e:args.size+(fn.ntmps-args.size)=N:=by kernel_rfl):I (G (Frame.enter P f args .normal) O) w:=by
 let⟨a,j,i,h⟩:=jy (args:=args) c b;have g:pc P f 0 [] []=[.code code]:=by unfold pc Io sD;rw[c];simp only[fJ,b,cQ]
 rw[j,<-g];exact K _ a _ ⟨rfl,rfl,rfl,rfl⟩ rfl rfl h ⟨e▸i,d,rfl⟩ rfl
def GB(E:Env)(t:eC)(f:Nat)(T:iO):Bool:=kI t&&(aQ t).guard.isNone&&(aQ t).dst.isNone&&(match (aQ t).op with
 |.defer c=>(match c.callee,c.args.toList with
  |.value r,[]=>kn E r&&(match ev E r with
   |.func (.func g) fst cp=>g==f&&fst.size==0&&cp.size==T.length
   |_=>false)
  |_,_=>false)
 |_=>false)
def BD(E:Env)(t:eC):Array Value:=match (aQ t).op with
 |.defer c=>(match c.callee with
  |.value r=>(match ev E r with
   |.func _ _ cp=>cp
   |_=>#[])
  |_=>#[])
 |_=>#[]
def Wc(F:aB P J (DX D) I)(y:O0 b f){ds:wN}(s:a.defers=ds){e:aN}(g:Nat)(T:iO)(u:GB E (pc P f n H e) g T=true)(d:BD E (pc P f n H e)=T.toArray)(C:jB (pc P f n H e)=pc P f (n+1) H e)(S:St D B N E M c a w)(K:∀a',St D B N E M c a' w->a'.defers=mV g T.toArray::ds->I (G (b.at a' (pc P f (n+1) H e)) O) w):I (G (b.at a (pc P f n H e)) O) w:=by
 unfold GB at u;simp only[bZ]at u;let⟨⟨⟨W,h2⟩,h3⟩,h⟩:=u;let⟨A,i,r,kk,L,Q,k⟩:=dH W;have R:(aQ (pc P f n H e)).guard=none:=by
  simp_all
 have U:(aQ (pc P f n H e)).dst=none:=by
  simp_all
 rw[C]at k;unfold BD at d;generalize aQ (pc P f n H e)=o at*;split at h
 .rename_i x j;split at h
  .rename_i z t v;simp only[bZ]at h;let⟨V,q⟩:=h;rw[j]at d;simp only[t]at d;split at q
   .rename_i X fst cp m;simp only[bZ,beq_iff_eq]at q;let⟨⟨e1,Z⟩,e3⟩:=q;rw[m]at d;simp only at d;subst e1;have Y:fst=#[]:=Array.eq_empty_of_size_eq_zero Z;subst Y;subst d;have l:a.eval z=.func (.func X) #[] T.toArray:=by rw[S.env.eval V];exact m
    have p:x.args=#[]:=ξ
    rw[L];refine F.GD Q (by simp[Region.wanted,R]) (by rw[y.k];decide) y.r (ats:=x.argTypes) (by rw[j];let⟨x1,x2,x3⟩:=x;simp_all) l ?_;rw[U,<-k];exact K _ ⟨⟨S.env.sz,S.env.val⟩,S.sat,S.sz⟩ (by simp only[Act.put];rw[s])
   .cases q
  .cases h
 .cases h
def K8(E:Env)(t:eC)(f:Nat):Bool:=kI t&&(aQ t).guard.isNone&&(aQ t).dst.isNone&&(match (aQ t).op with
 |.defer c=>(match c.callee with
  |.value (.func g)=>g==f&&c.args.all (kn E)
  |_=>false)
 |_=>false)
def GC(E:Env)(t:eC):Array Value:=match (aQ t).op with
 |.defer c=>c.args.map (ev E)
 |_=>#[]
def dfy(F:aB P J (DX D) I)(Q:O0 b f){ds:wN}(y:a.defers=ds){h:aN}(g:Nat)(args:iO)(z:K8 E (pc P f n H h) g=true)(e:GC E (pc P f n H h)=args.toArray)(t:jB (pc P f n H h)=pc P f (n+1) H h)(S:St D B N E M c a w)(K:∀a' d,St D B N E M c a' w->a'.defers=d::ds->DC d g args.toArray->I (G (b.at a' (pc P f (n+1) H h)) O) w):I (G (b.at a (pc P f n H h)) O) w:=by
 unfold K8 at z;simp only[bZ]at z;let⟨⟨⟨A,Y⟩,X⟩,k⟩:=z;let⟨l,i,r,kk,L,C,m⟩:=dH A;have R:(aQ (pc P f n H h)).guard=none:=by
  simp_all
 have U:(aQ (pc P f n H h)).dst=none:=by
  simp_all
 rw[t]at m;unfold GC at e;generalize aQ (pc P f n H h)=o at*;split at k
 .rename_i W j;rw[j]at e;simp only at e;split at k
  .rename_i s q;simp only[bZ,beq_iff_eq]at k;obtain⟨rfl,V⟩:=k;have v:W.args.map a.eval=args.toArray:=by
    rw[<-e];refine Array.map_congr_left λx t=>S.env.eval (yJ.1 V x t)
   rw[L];refine F.ctl (λw=>?_) (K ⟨a.tmps,⟨.fn (.func s) #[],args.toArray⟩::a.defers⟩ ⟨.fn (.func s) #[],args.toArray⟩ ⟨⟨S.env.sz,S.env.val⟩,S.sat,S.sz⟩ (by rw[y]) ⟨#[],rfl,ψ⟩);have A:(execOp a.eval o).run P w=.ok (.defer ⟨.fn (.func s) #[],args.toArray⟩) w:=by
    unfold execOp;simp[j,resolve,q,Deferred.ofValue,v,Act.eval]
   have T:(execOp a.eval o).events P w #[]=#[]:=by
    unfold execOp;simp[j,resolve,q,Deferred.ofValue,Act.eval]
   have p:(b.at ⟨a.tmps,⟨.fn (.func s) #[],args.toArray⟩::a.defers⟩ (.inRegion l (i::r)::kk)).finish undef=b.at ⟨a.tmps,⟨.fn (.func s) #[],args.toArray⟩::a.defers⟩ (.inRegion l r::kk):=by rw[bQ,C];simp[U,Act.put]
   have u:(b.kind==CallKind.early)=false:=by rw[Q.k];rfl
   rw[m,stepG_oper C (by simp[Region.wanted,R]),<-p];simp[stepG.apply,A,T,G,Frame.at,u,GStep.after,seen_none]
  .cases k
 .cases k
def Mj(F:aB P J (DX D) I){e:eC}(i:iE e=true){T:iO}{ds:wN}{d:Deferred}(k:a.defers=d::ds)(h:DC d g T.toArray)(fn:Func)(j:P.funcs[g]? =some fn)(code:Code)(m:fn.body=some code)(d:(fn.name== "runtime.NumGoroutine")=false)(N:Nat)(o:T.length+(fn.ntmps-T.length)=N){o:Nat}(S:St D B o E M c a w)(K:∀a':Act,St D B N (ru T 0) M c a' w->a'.defers=[]->I (G ((baseD g).at a' (pc P g 0 [] [])) ({b.at ⟨a.tmps,ds⟩ e with mode:=.returning}::O)) w):I (G (b.at a e) O) w:=by
 have c:pc P g 0 [] []=[.code code]:=by unfold pc Io sD;simp_all
 have f:I (G {b.at a e with mode:=.returning} O) w:=by
  refine F.HK k h j d m ?_;rw[<-c];refine K _ ⟨⟨θ,λn v a=>?_⟩,S.sat,S.sz⟩ rfl;let⟨_,b⟩:=lY _ 0 n v a;grind
 have:e=[]\/∃l,e=.code .ret::l:=by
  unfold iE at i;grind
 rcases this with rfl|⟨l,rfl⟩
 .exact F.ctl (λ_=>stepG_end) f
 .exact F.ctl (λ_=>stepG_ret') f
def Tc(F:aB P J (DX D) I){c:eC}{ch:List PanicEntry}{T:iO}{ds:wN}{d:Deferred}(h:a.defers=d::ds)(e:DC d g T.toArray)(fn:Func)(f:P.funcs[g]? =some fn)(code:Code)(i:fn.body=some code)(d:(fn.name== "runtime.NumGoroutine")=false)(N:Nat)(j:T.length+(fn.ntmps-T.length)=N)(j:Sat D w M)(K:∀(a':Act) B,St D B N (ru T 0) M 0 a' w->a'.defers=[]->w.heap.size=B->I (G ((baseD g).at a' (pc P g 0 [] [])) ({b.at ⟨a.tmps,ds⟩ c with mode:=.panicking ch}::O)) w):I (G {b.at a c with mode:=.panicking ch} O) w:=by
 have a:pc P g 0 [] []=[.code code]:=by unfold pc Io sD;simp_all
 refine F.Zy h e f d i ?_;rw[<-a];refine K _ _ ⟨⟨θ,λn v a=>?_⟩,j,rfl⟩ rfl rfl;let⟨_,b⟩:=lY _ 0 n v a;grind
def recAt(t:eC)(d:Nat):Bool:=kI t&&(aQ t).guard.isNone&&(match (aQ t).dst with|some d'=>d'==d|none=>false)&&(match (aQ t).op with
 |.call c=>(match c.callee,c.args.toList with
  |.builtin .recover,[]=>true
  |_,_=>false)
 |_=>false)
def Y0{t:eC}(h:recAt t d=true):∃a i r k j,t=.inRegion a (i::r)::k/\a[i]? =some (aQ t)/\jB t=.inRegion a r::k/\(aQ t).guard=none/\(aQ t).dst=some d/\(aQ t).op=.call {callee:=.builtin .recover,args:=#[],argTypes:=j}:=by
 unfold recAt at h;simp only[bZ]at h;let⟨⟨⟨s,x⟩,w⟩,e⟩:=h;let⟨a,i,r,kk,n,q,f⟩:=dH s;refine⟨a,i,r,kk,?_⟩;generalize aQ t=o at*;split at e
 .rename_i u p;split at e
  .rename_i g b;let⟨v,m,l⟩:=u;simp only at g b;have c:m=#[]:=ξ
   refine⟨l,n,q,f,?_,?_,ξ⟩
   .simp_all
   grind
  .cases e
 .cases e
def Td(F:aB P J (DX D) I){b:aN}(d:Nat)(t:recAt (pc P g n H b) d=true)(j:jB (pc P g n H b)=pc P g (n+1) H b)(s:d<N)(p:W.mode=.returning)(S:St D B N E M c a w)(K:∀a',St D B N ((d,.nilIface)::E) M c a' w->a'.defers=a.defers->I (G ((baseD g).at a' (pc P g (n+1) H b)) (W::O)) w):I (G ((baseD g).at a (pc P g n H b)) (W::O)) w:=by
 let⟨_,i,r,k,a,l,m,e,q,f,h⟩:=Y0 t;rw[j]at e;generalize aQ (pc P g n H b)=o at*;rw[l];refine F.zC m (by simp[Region.wanted,q]) rfl rfl h p ?_;rw[<-e,f];exact K _ ⟨S.env.put s,S.sat,S.sz⟩ (put_defers _ _ _)
def rcp(F:aB P J (DX D) I){b:aN}(d:Nat)(t:recAt (pc P g n H b) d=true)(j:jB (pc P g n H b)=pc P g (n+1) H b)(s:d<N)(p:W.mode=.panicking (je v))(S:St D B N E M c a w)(K:∀a',St D B N ((d,v)::E) M c a' w->a'.defers=a.defers->I (G ((baseD g).at a' (pc P g (n+1) H b)) ({W with mode:=.panicking (pG v)}::O)) w):I (G ((baseD g).at a (pc P g n H b)) (W::O)) w:=by
 let⟨_,i,r,k,a,l,m,e,q,f,h⟩:=Y0 t;rw[j]at e;generalize aQ (pc P g n H b)=o at*;rw[l];refine F.recover m (by simp[Region.wanted,q]) rfl rfl h p ?_;rw[<-e,f];exact K _ ⟨S.env.put s,S.sat,S.sz⟩ (put_defers _ _ _)
def vi(F:aB P J (DX D) I){c:eC}(d:iE c=true)(h:I (G {b.at a c with mode:=.returning} O) w):I (G (b.at a c) O) w:=by
 have:c=[]\/∃l,c=.code .ret::l:=by
  unfold iE at d;grind
 rcases this with rfl|⟨l,rfl⟩
 .exact F.ctl (λ_=>stepG_end) h
 .exact F.ctl (λ_=>stepG_ret') h
def NW(F:aB P J (DX D) I){c:eC}(d:iE c=true)(i:a.defers=[])(fn:Func)(f:P.funcs[g]? =some fn)(e:fn.results=#[])(h:I (G {b.at a' todo' with mode:=.returning} O) w):I (G ((baseD g).at a c) ({b.at a' todo' with mode:=.returning}::O)) w:=
 vi F d (F.leaveD rfl i f (resultsC_none e _) rfl h)
def BC(F:aB P J (DX D) I){c:eC}(d:iE c=true)(i:a.defers=[])(fn:Func)(f:P.funcs[g]? =some fn)(e:fn.results=#[]){v:ay}(h:I (G {b.at a' todo' with mode:=.returning} O) w):I (G ((baseD g).at a c) ({b.at a' todo' with mode:=.panicking (pG v)}::O)) w:=
 vi F d (F.MQ rfl i f (resultsC_none e _) rfl h)
def G6(F:aB P J (DX D) I)(l:aR E N a)(k:Sat D w M)(g:b.kind=.normal)(j:b.fn=f)(i:a.defers=[])(c:List Hint)(v:ay)(h:(iV P ⟨f,N,[],E⟩ ⟨c,M,0,[],[]⟩).map (λp=>(p.1,p.2.cW))=some (v,[]))(e:(iV P ⟨f,N,[],E⟩ ⟨c,M,0,[],[]⟩).map (λp=>p.2.eqs.map Prod.fst)=(iV P ⟨f,N,[],E⟩ ⟨c,M,0,[],[]⟩).map (λp=>p.2.eqs.map Prod.snd))(K:I (G (W.finish v) O) w):I (G {b.at a todo' with mode:=.returning} (W::O)) w:=by
 cases d:iV P ⟨f,N,[],E⟩ ⟨c,M,0,[],[]⟩with
 |none=>rw[d]at h;cases h
 |some p=>
  let⟨_,a⟩:=p;rw[d]at h e;simp only[fI,Option.some.injEq,Prod.mk.injEq]at h e;obtain⟨rfl,a⟩:=h;let⟨fn,_,b,a,_,c⟩:=qD d (fB _ e) ξ l k;exact F.vS g i ξ b a K
def Kr(E:Env)(t:eC):Option Value:=bif kI t&&(aQ t).guard.isNone then(match (aQ t).op with
 |.panic r=>bif kn E r then some (ev E r)else none
 |_=>none)else none
def ZK(F:aB P J (DX D) I)(k:O0 b f){g:aN}(t:TypeId)(x:ay)(d:Kr E (pc P f n H g)=some (.iface t x))(fn:Func)(v:P.funcs[f]? =some fn)(y:a.defers=[])(S:St D B N E M c a w)(K:I (G (W.raise (je (.iface t x))) O) w):I (G (b.at a (pc P f n H g)) (W::O)) w:=by
 unfold Kr at d;cases h:(kI (pc P f n H g)&&(aQ (pc P f n H g)).guard.isNone)with
 |false=>rw[h]at d;cases d
 |true=>
  rw[h]at d;simp only[cond_true]at d;simp only[bZ]at h;let⟨m,i,r,kk,p,q,s⟩:=dH h.1;have u:(aQ (pc P f n H g)).guard=none:=by
   simp_all
  generalize aQ (pc P f n H g)=o at*;split at d
  .rename_i l j;cases e:kn E l with
   |false=>rw[e]at d;cases d
   |true=>
    rw[e]at d;simp only[cond_true,Option.some.injEq]at d;rw[p];exact F.panic q (by simp[Region.wanted,u]) k.m j (by rw[S.env.eval e];exact d) (F.lJ y (by rw[k.f];exact v) K)
  .cases d
end
def aK:Tryz.prog.follows .mixedOrders=true:=ρ
def uy(P:aG)(N:Nat)(E:Env)(Z:aW)(hs:List Hint)(ops:g8)(q q0:Nat):Option (List Rec×cS):=
 bif oV ops (Region.before ops) q&&(dstsOf ops q).all (λd=>Nat.blt d N)&&Nat.blt q0 q then
  (match iZ P 0 ops (Region.before ops) (cq E (dstsOf ops q)) Z 0 (I1 (Region.before ops) q q0) [] none (X0 hs Z)with
  |some (gL,none,y)=>some (gL,y)
  |_=>none)
 else none
def lH(P:aG)(N:Nat)(E:Env)(Z:aW)(hs CG:List Hint)(ops:g8)(q q0:Nat)(v:ay):Option (List Rec×cS):=match uy P N E Z hs ops q q0,ops[q0]? with
 |some (gL,_),some o=>(match iZ P 0 ops (Region.before ops) (cq E (dstsOf ops q)) Z 0 (I2 (Region.before ops) q q0) (⟨q0,o,[],X0 hs Z,v,X0 hs Z⟩::gL) none (X0 CG Z)with
  |some (Pv,none,y)=>some (Pv,y)
  |_=>none)
 |_,_=>none
def J7(E:Env)(ops:g8)(q q0:Nat)(live:aN)(r:Option (List Rec×cS)):Option (List (Option Value)×Bool):=r.map λr=>(live.map (look (iH (Region.before ops) q0 r.1++cq E (dstsOf ops q))),rM r.2)
def Eh(E:Env)(ops:g8)(q:Nat)(live:aN)(r:Option (List Rec×cS)):Option (List (Option Value)×Bool):=r.map λr=>(live.map (look (kO r.1 (cq E (dstsOf ops q)))),rM r.2)
def Fu(f:Addr×Addr->Addr)(r:Option (List Rec×cS)):List Addr:=match r with
 |some (_,y)=>y.m.eqs.map f
 |none=>[]
def Lb(P:aG)(E:Env)(ops:g8)(q0 d:Nat):Option (Nat×Array Value):=match ops[q0]? with
 |some o=>bif !lN o&&o.guard.isNone&&o.op.operands.all (kn E)&&(match o.dst with|some d'=>d'==d|none=>false)then
  (match cV P (execOp (ev E) o)with
  |some (.enter f args)=>some (f,args)
  |_=>none)
  else none
 |none=>none
section
variable{D:γ->Addr->Bool->Prop}{I:γ->Goroutine->World->Prop}
structure Wu(P:aG)(D:γ->Addr->Bool->Prop)(I:γ->Goroutine->World->Prop)(Bd:γ->Nat)(b:aC)(O:cO)(f n:Nat)(H:iy)(qs:aN)(q q0 N:Nat)(E:Env)(Z:aW)(hs:List Hint)(ds:wN)(W:aC):Prop where
 ret:∀p v w2 (CG:List Hint) (E2:Env) (M2:aW),Bd p<=w2.heap.size->Sat (D p) w2 Z->Sat (D p) w2 M2->
  Eh E (aL (pc P f n H qs)) q (E2.map Prod.fst) (lH P N E Z hs CG (aL (pc P f n H qs)) q q0 v)=some (E2.map (λp=>some p.2),true)->
  Fu Prod.fst (lH P N E Z hs CG (aL (pc P f n H qs)) q q0 v)=Fu Prod.snd (lH P N E Z hs CG (aL (pc P f n H qs)) q q0 v)->
  (∀a2 w3 B3,St (D p) B3 N E2 M2 0 a2 w3->a2.defers=ds->w3.heap.size=B3->w3.heap.size=w2.heap.size->I p (G (b.at a2 (pc P f (n+1) H (qs++[q]))) O) w3)->I p (G (W.finish v) O) w2
 NO:∃a1 t1,W=b.at a1 t1/\a1.defers=ds/\aR (cq E (dstsOf (aL (pc P f n H qs)) q)) N a1
def TL(F:∀p,aB P J (DX (D p)) (I p))(Nd:P.follows .mixedOrders=true)(hB:∀p (a:Addr) (wr:Bool),Bd p<=a.block->D p a wr)(hk:b.kind=.normal){m:aN}(q q0:Nat)(Z:aW)(L:List Hint)(E1:Env)(d g:Nat)(args:gd){p0:γ}(ht:mP (pc P f n H m)=true)(UU:.inRegion (aL (pc P f n H m)) (bP q ((aL (pc P f n H m)).size-q))::behind (pc P f n H m)=pc P f (n+1) H (m++[q]))(hv:J7 E (aL (pc P f n H m)) q q0 (E1.map Prod.fst) (uy P N E Z L (aL (pc P f n H m)) q q0)=some (E1.map (λp=>some p.2),true))(hq:Fu Prod.fst (uy P N E Z L (aL (pc P f n H m)) q q0)=Fu Prod.snd (uy P N E Z L (aL (pc P f n H m)) q q0))(V:Lb P E1 (aL (pc P f n H m)) q0 d=some (g,args))(S:St (D p0) B N E M c a w)(tO:Sat (D p0) w Z)(yQ:Bd p0<=w.heap.size)(K:∀W w1,Sat (D p0) w1 M->w1.heap.size=w.heap.size->Wu P D I Bd b O f n H m q q0 N E Z L a.defers W->I p0 (G (Frame.enter P g args .normal) (W::O)) w1):I p0 (G (b.at a (pc P f n H m)) O) w:=by
 have UK:∃id k,pc P f n H m=.code (.region id (aL (pc P f n H m)) true)::k/\behind (pc P f n H m)=k:=by
  unfold mP at ht;split at ht
  .rename_i id e k h;exact⟨id,k,by rw[h];rfl,by rw[h];rfl⟩
  .cases ht
 let⟨id,k,e1,e2⟩:=UK;generalize U:aL (pc P f n H m)=e at*;cases j:uy P N E Z L e q q0 with
 |none=>rw[j]at hv;cases hv
 |some rx=>
  let⟨aaW,x1⟩:=rx;have US:=j;rw[j]at hv hq;simp only[J7,fI,Option.some.injEq,Prod.mk.injEq]at hv;have Na:x1.m.eqs.map Prod.fst=x1.m.eqs.map Prod.snd:=hq;unfold uy at j;let⟨hb,j⟩:=aE j;simp only[bZ]at hb;let⟨⟨Zv,Nl⟩,qN⟩:=hb;have M9:q0<q:=ξ
  split at j
  .rename_i gL y A;cases j;have hN:∀d∈dstsOf e q,d<N:=λd hd=>ξ
   unfold Lb at V;split at V
   .rename_i o ho;let⟨I8,V⟩:=aE V;simp only[bZ,mA]at I8;let⟨⟨⟨h2,h3⟩,h4⟩,h5⟩:=I8;have hg:o.guard=none:=by
     simp_all
    split at V
    .rename_i f' X6 IY;cases V;rw[e1]
     refine RA F Nd hB ξ ho Zv M9 hN (λd v C=>(gZ E _ d v C).2) ⟨S.env.sz,λd v C=>S.env.val d v (gZ E _ d v C).1⟩ tO yQ A (mg hv.2 Na)
      (Post:=λp v Y=>Bd p<=Y.heap.size/\Sat (D p) Y Z/\∃(t:List Hint)(E2:Env)(M2:aW),Sat (D p) Y M2/\Eh E e q (E2.map Prod.fst) (lH P N E Z L t e q q0 v)=some (E2.map (λp=>some p.2),true)/\Fu Prod.fst (lH P N E Z L t e q q0 v)=Fu Prod.snd (lH P N E Z L t e q q0 v)/\
        (∀a2 X B3,St (D p) B3 N E2 M2 0 a2 X->a2.defers=a.defers->X.heap.size=B3->X.heap.size=Y.heap.size->I p (G (b.at a2 (pc P f (n+1) H (m++[q]))) O) X))
      (λa1 w1 rest R Nt I5 zS Zu=>?_) (λp v Y ⟨p1,p2,t,E2,M2,p3,p4,p5,p6⟩=>?_)
     .have Q:aR E1 N a1:=⟨R.sz,λd v C=>R.val d v (ez E1 _ hv.1 d v C)⟩
      have Zp:execOp a1.eval o=execOp (ev E1) o:=execOp_congr h2 λy hy=>Q.eval (yJ.1 h4 y hy);have Tp:=fV _ _ IY;refine(F p0).enter ho (by simp[Region.wanted,hg]) χ (λd=>?_) (λd=>?_) (K _ w1 (S.sat.keep I5) zS ⟨λp v Y t E2 M2 r1 r2 r3 r4 r5 r6=>?_,a1,_,rfl,Nt,?_⟩)
      .rw[Zp,<-fH (es:=#[]),Tp]
      .unfold Sem.events;grind
      .rw[bQ,ho];rw[U]at r4 r5;exact Zu p v Y ⟨r1,r2,t,E2,M2,r3,r4,r5,r6⟩
      .rw[U];refine⟨R.sz,λd v C=>R.val d v ?_⟩;have:∀(l:List Rec)(i:Nat),(∀r∈l,∀dd,r.o.dst=some dd->dd∈dstsOf e q)->look (iH (Region.before e) i l) d=none:=by
        intro l i Vh;cases hz:look (iH (Region.before e) i l) d with
        |none=>rfl
        |some u=>
         let⟨s,s1,s2,s3,s4⟩:=jP (Region.before e) i l d u hz;exact absurd (Vh s s1 d s3) (gZ E _ d v C).2
       have Qp:∀(T Wz:Env),look T d=none->look (T++Wz) d=look Wz d:=by
        intro T Wz h0;induction T with
        |nil=>rfl
        |cons x l ih=>
         let⟨k1,v1⟩:=x;simp only[look]at h0;cases Zk:(k1==d)with
         |true=>grind
         |false=>rw[Zk]at h0;simp only[um,look,Zk];exact ih h0
       rw[Qp _ _ (this _ _ ?_)]
       .exact C
       .let⟨_,_,_,s1⟩:=YP A (mg hv.2 Na) (uo.filter _) ψ ψ;intro r hr dd QS;let⟨z1,z2⟩:=(s1 r hr).resolve_left ψ;exact u6.2 ⟨r.i,aZ.2 (oY.1 z1).1,by rw[z2.op];exact QS⟩
     .refine⟨p1,p2,?_⟩;cases z:lH P N E Z L t e q q0 v with
      |none=>rw[z]at p4;cases p4
      |some r2=>
       let⟨Pv,x3⟩:=r2;rw[z]at p4 p5;simp only[Eh,fI,Option.some.injEq,Prod.mk.injEq]at p4;have ZM:x3.m.eqs.map Prod.fst=x3.m.eqs.map Prod.snd:=p5;unfold lH at z;rw[US,ho]at z;simp only at z;split at z
       .rename_i r2 y2 YR;cases z;refine⟨X0 t Z,Pv,x3,YR,mg p4.2 ZM,λa2 X Q DF Nk YF=>?_⟩;rw[<-e2,UU];exact p6 a2 X X.heap.size ⟨⟨Q.sz,λd v C=>Q.val d v (ez E2 _ p4.1 d v C)⟩,p3.keep Nk,rfl⟩ DF rfl YF
       .cases z
    .cases V
   .cases V
  .cases j
end
section
variable{D:dh}{I:gi}
def bkd(F:aB P J (DX D) I)(u:P.follows .mixedOrders=true)(T:HB B0 D)(v:B0<=B){ds:wN}(R:a.defers=ds){q:Nat}{e:iy}{d:aN}(n:Nat)(r:List Hint)(H:iK)(o:aN)(t:Env)(C:List aH->List aH)(s:Nat)(L:Nat)(m:iy)(l:aN)(k:iK)(j:List (Int×Nat))(b:List (Nat×Nat))(h:fin c (t.map Prod.fst) (bE P B n ⟨[⟨f,N,pc P f q e d,E⟩],⟨r,M,c,[],[]⟩,H,[],[]⟩ o)=some (N,pc P f L m l,t.map (λp=>some p.2),C M,s,k,j,b))(Q:Hp (bE P B n ⟨[⟨f,N,pc P f q e d,E⟩],⟨r,M,c,[],[]⟩,H,[],[]⟩ o)=Ho (bE P B n ⟨[⟨f,N,pc P f q e d,E⟩],⟨r,M,c,[],[]⟩,H,[],[]⟩ o))(y:∀p∈k,p.1=p.2)(x:∀p∈j,0<=p.1/\p.1<(p.2:Int))(A:∀p∈b,p.1<p.2)(S:St D B N E M c a w)(K:∀a' i,St D B N t (C M) s a' i->a'.defers=ds->i.heap.size=B+s->w.heap.size<=i.heap.size->Fr (Wr M) w i->I (G ((baseD g).at a' (pc P f L m l)) O) i):I (G ((baseD g).at a (pc P f q e d)) O) w:=
 blk F u (λa wr z=>T a wr (aT v z)) (by show CallKind.deferred≠.early;decide) n f r H o c t (C M) s _ k j b h Q y x A S λa' i c a b _=>K a' i c (a.trans R) c.sz b.size b
def RM(F:aB P J (DX D) I){k:Nat}{ds:wN}(q:a.defers=ds){b:aN}(d h:Nat)(args:gd)(g:lU P E (pc P f n H b) d=some (h,args))(L:jB (pc P f n H b)=pc P f (n+1) H b)(R:d<N)(S:St D B N E M c a w)(K:∀W,Ret P D I (baseD k) O f (n+1) H b N d E ds W->I (G (Frame.enter P h args .normal) (W::O)) w):I (G ((baseD k).at a (pc P f n H b)) O) w:=by
 unfold lU at g;let⟨z,g⟩:=aE g;simp only[bZ,mA]at z;let⟨⟨⟨⟨Y,X⟩,V⟩,U⟩,h5⟩:=z;let⟨l,i,r,kk,t,u,p⟩:=dH Y;split at g
 .rename_i f' s C;cases g;have Q:=Zh V S.env t;have x:(aQ (pc P f n H b)).dst=some d:=by
   grind
  have e:execOp a.eval (aQ (pc P f n H b))=execOp (ev E) (aQ (pc P f n H b)):=execOp_congr X λy A=>S.env.eval (yJ.1 U y A);have m:=fV _ _ C;have j:∀v,((baseD k).at a (.inRegion l (i::r)::kk)).finish v=(baseD k).at (a.put (some d) v) (pc P f (n+1) H b):=λv=>by
   rw[bQ,u,<-L,p];simp_all
  generalize aQ (pc P f n H b)=o at*;rw[t];refine F.enter (f:=h) (args:=args) u Q (by show CallKind.deferred≠.early;decide) (λd=>?_) (λd=>?_) (K _ λv Z M' T KK=>?_)
  .rw[e,<-fH (es:=#[]),m]
  .simp_all
  .rw[j];exact KK _ _ ⟨S.env.put R,T,rfl⟩ ((put_defers _ _ _).trans q) rfl
 .cases g
structure Wt(P:aG)(b:aC)(O:cO)(f n:Nat)(H:iy)(qs:aN)(N d:Nat)(E:Env)(ds:wN)(W:aC):Prop where
 ret:∀(D:dh)(I:gi) v w' M,Sat D w' M->(∀a' B',St D B' N ((d,v)::E) M 0 a' w'->a'.defers=ds->w'.heap.size=B'->I (G (b.at a' (pc P f n H qs)) O) w')->I (G (W.finish v) O) w'
 NO:∃a1 t1,W=b.at a1 t1/\a1.defers=ds/\aR E N a1
def GM(F:aB P J (DX D) I)(hk:b.kind=.normal){ds:wN}(l:a.defers=ds){e:aN}(d h:Nat)(args:gd)(j:lU P E (pc P f n H e) d=some (h,args))(Q:jB (pc P f n H e)=pc P f (n+1) H e)(T:d<N)(S:St D B N E M c a w)(K:∀W,Wt P b O f (n+1) H e N d E ds W->I (G (Frame.enter P h args .normal) (W::O)) w):I (G (b.at a (pc P f n H e)) O) w:=by
 unfold lU at j;let⟨z,j⟩:=aE j;simp only[bZ,mA]at z;let⟨⟨⟨⟨Z,Y⟩,X⟩,V⟩,h5⟩:=z;let⟨m,i,r,kk,t,u,q⟩:=dH Z;split at j
 .rename_i f' s L;cases j;have R:=Zh X S.env t;have x:(aQ (pc P f n H e)).dst=some d:=by
   grind
  have g:execOp a.eval (aQ (pc P f n H e))=execOp (ev E) (aQ (pc P f n H e)):=execOp_congr Y λy C=>S.env.eval (yJ.1 V y C);have p:=fV _ _ L;have k:∀v,(b.at a (.inRegion m (i::r)::kk)).finish v=b.at (a.put (some d) v) (pc P f (n+1) H e):=λv=>by
   rw[bQ,u,<-Q,q];simp_all
  generalize aQ (pc P f n H e)=o at*;rw[t];refine F.enter (f:=h) (args:=args) u R ξ (λd=>?_) (λd=>?_) (K _ ⟨λWy A v w' M' U KK=>?_,a,_,rfl,l,S.env⟩)
  .rw[g,<-fH (es:=#[]),p]
  .simp_all
  .rw[k];exact KK _ _ ⟨S.env.put T,U,rfl⟩ ((put_defers _ _ _).trans l) rfl
 .cases j
end
structure xE(D:dh)(w:aj)(r:aH):Prop where
 val:∀j,r.has j->w.cell? (r.ad j)=some (r.get j)
 ok:∀j,r.has j->D (r.ad j) false/\(r.wr=true->D (r.ad j) true/\w.frozen? (r.ad j)=false)
 inj:r.wr=true->∀j j',r.has j->r.has j'->r.ad j=r.ad j'->j=j'
 row:∀g e n,r.row=some (g,e,n)->r.has (0,0)/\(r.ad (0,0)).block=g/\pI w g e n
def Dj(r r':aH):Prop:=r.wr=true\/r'.wr=true->∀j j',r.has j->r'.has j'->r.ad j≠r'.ad j'
def Dj.symm{r a:aH}(h:Dj r a):Dj a r:=λb j a d c e=>h b.symm a j c d e.symm
def dF:∀(M:aW)(i:Nat),nth M i=M[i]?
 |[],i=>by simp[nth]
 |x::M,0=>rfl
 |x::M,i+1=>by simp[nth,dF M i]
def sat_iff{D:dh}:Sat D w M↔(∀r∈M,xE D w r)/\M.Pairwise Dj:=by
 constructor
 .intro h;refine⟨λr t=>?_,?_⟩
  .let⟨i,c⟩:=u9 t;rw[<-dF]at c;exact⟨h.val i r c,h.ok i r c,λd j m g k e=>(h.sep i r i r c c d j m g k e).2,h.row i r c⟩
  .rw[HA];intro i j c n t d a b g k e;have u:nth M i=some M[i]:=by rw[dF,mZ c]
   have t:nth M j=some M[j]:=by rw[dF,mZ n]
   rcases d with d|d
   .have:=(h.sep i _ j _ u t d a b g k e).1;omega
   .have:=(h.sep j _ i _ t u d b a k g e.symm).1;omega
 .rintro ⟨g,k⟩;have a:∀i r,nth M i=some r->r∈M:=λi r c=>by rw[dF]at c;exact sQ c
  refine⟨λi r c=>(g r (a i r c)).val,λi r c=>(g r (a i r c)).ok,λi r o b c f d j m n l e=>?_,λi r c=>(g r (a i r c)).row⟩;rw[HA]at k;have p:=a i r c;rw[dF]at c f;let⟨s,x⟩:=lg.1 c;let⟨q,v⟩:=lg.1 f;rcases Hu i o with z|z|z
  .have:=k i o s q z;rw[x,v]at this;exact absurd e (this (.inl d) j m n l)
  .subst z;rw[c]at f;cases f;exact⟨rfl,(g r p).inj d j m n l e⟩
  .have:=k o i q s z;rw[x,v]at this;exact absurd e.symm (this (.inr d) m j l n)
def Sat.perm{D:dh}(h:Sat D w M)(a:M.Perm M'):Sat D w M':=by
 rw[sat_iff]at h ⊢;exact⟨λr b=>h.1 r (a.mem_iff.2 b),(a.pairwise_iff (λh=>Dj.symm h)).1 h.2⟩
def Sat.sub{D:dh}(h:Sat D w M)(a:M'.Sublist M):Sat D w M':=by
 rw[sat_iff]at h ⊢;exact⟨λr b=>h.1 r (a.subset b),h.2.sublist a⟩
def Sat.mem{D:dh}(h:Sat D w M)(a:r∈M):xE D w r:=(sat_iff.1 h).1 r a
def St.dB{D:dh}(S:St D B N E M c a w)(b:Env)(h:(b.map Prod.fst).map (look E)=b.map (λp=>some p.2)):St D B N b M c a w:=⟨⟨S.env.sz,λd u a=>S.env.val d u (ez b E h d u a)⟩,S.sat,S.sz⟩
def Sat.qj{D:dh}(h:Sat D w M)(i:r.n=0)(f:r.row=none):Sat D w (r::M):=by
 rw[sat_iff]at h ⊢;have b:∀j,¬r.has j:=λj a=>by have:=a.1;omega
 refine⟨λx c=>?_,iG.2 ⟨λx _ _ j i a=>absurd a (b j),h.2⟩⟩;rcases ak.1 c with rfl|c
 .exact⟨λj a=>absurd a (b j),λj a=>absurd a (b j),λ_ j _ a=>absurd a (b j),λg e n d=>by rw[f]at d;cases d⟩
 .exact h.1 x c
section
variable{D:dh}
def rI{b k:Nat}{f:eX}(h:∀j,j<n->∀i,i<k->w.cell? ⟨b,j*k+i,none⟩=some ((f j).getD i undef)/\w.frozen? ⟨b,j*k+i,none⟩=false)(o:∀(a:Addr)(wr:Bool),a.block=b->D a wr):xE D w (fR ⟨b,0,none⟩ k f n true):=by
 have l:∀j:Ix,(fR ⟨b,0,none⟩ k f n true).ad j=⟨b,j.1*k+j.2,none⟩:=λj=>by show((⟨b,0,none⟩:Addr).add (j.1*k)).add j.2=_;rw[add_add]
 refine⟨λj d=>by rw[l];exact(h j.1 d.1 j.2 d.2).1,λj d=>?_,λ_ j c d m e=>?_,λg e n z=>(by cases z)⟩
 .rw[l];exact⟨o _ _ rfl,λ_=>⟨o _ _ rfl,(h j.1 d.1 j.2 d.2).2⟩⟩
 .rw[l,l]at e;have b:j.2<k:=d.2;have a:c.2<k:=m.2;have p:j.1*k+j.2=c.1*k+c.2:=by have:=cT Addr.off e;exact this
  have d1:(j.1*k+j.2) / k=j.1:=by rw[ug,As ω,Av b];rfl
  have d2:(c.1*k+c.2) / k=c.1:=by rw[ug,As ω,Av a];rfl
  have d3:j.1=c.1:=by rw[<-d1,<-d2,p]
  have a:j.2=c.2:=by rw[d3]at p;omega
  exact YC d3 a
end
section
variable{D:dh}{I:gi}
abbrev ET(P:aG)(B N:Nat)(E:Env)(M:aW)(c:Nat)(hs:List Hint)(H:iK)(ops:g8)(q:Nat):Option (List Rec×Option (Nat×aH)×cS):=AU P B N E M c hs H ops q 1
def J6(P:aG)(Z:aW)(alt:List (Nat×List Hint))(ops:g8)(q:Nat)(E:Env)(M:aW)(c c0:Nat)(FF FE PW:aN)(r:Option (List Rec×Option (Nat×aH)×cS)):Option (PX×List (Option Value)×Bool):=match r with
 |some (gL,Y,y)=>some (⟨FF.map (look (iH (Region.before ops) q gL++cq E (dstsOf ops (q+2)))),FE.map (look (kO gL (cq E (dstsOf ops (q+2))))),NS (Ae c Y-c0) (Fz M Y),Ae c Y,y.cY,y.eK,y.m.cW,
  Tk (Region.before ops) q Y&&gL.all λr=>iJ (Region.before ops) q r.i||(oT P r||JO P ops Z alt r)⟩,PW.map (look (iH (Region.before ops) (q+1) gL++cq E (dstsOf ops (q+2)))),iJ (Region.before ops) (q+1) q)
 |none=>none
end
end Go.Proofs.YtobagnjnbmgidabGreatDoor
