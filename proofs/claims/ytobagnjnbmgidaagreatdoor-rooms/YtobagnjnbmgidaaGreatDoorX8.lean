import Derived.Test.YtobagnjnbmgidaaGreatDoorChecked
import Derived.Test.YtobagnjnbmgidaaGreatDoorZ1
import Derived.Conc.TokenWords
import Derived.Laws.AppendOwn
import Derived.Maps.AppendAt
set_option linter.all false
set_option maxRecDepth 100000
namespace Go.Proofs.YtobagnjnbmgidaaGreatDoor
open Tryz Go.Conc Go.RowKit
variable{γ:Type}{t:TypeId}{A:gi}{b:aC}{D:yW}{r:aN}{E:cO}{c:gd}{k:eC}
variable{B:Bool}{Ok:dh}{L M:aN}{C N:List Addr}{w' q T:aj}{p Q O a3 a4 a5:Addr}{v H S R v3 v4 U:ay}{o:Obj}{n i:Nat}
theorem mixed:prog.follows .mixedOrders=true:=by kernel_rfl
theorem aB.OA{P:aG}{a:Act}{w:aj}(F:aB P B D A){c:cm}{o:Oper}(g:c[i]? =some o)(f:Region.wanted o (yielded c a.tmps)=true)(j:b.kind≠.early)(h:∀d,∀K:Act->World->Prop,(∀e w',D (w.at d) w' (raw P a o (w.at d))/\A (G (b.at e (.inRegion c r::k)) E) w'->K e w')->uponK o a K ((execOp a.eval o).run P (w.at d))):
 A (G (b.at a (.inRegion c (i::r)::k)) E) w:=
 F.W6 g f j h
structure Kp(L:aN)(w w':aj)(C:List Addr:=[]):Prop where
 size:w.heap.size<=w'.heap.size
 cellC:∀(a:Addr)(v:ay),a.block∉L->a∉C->w.cell? a=some v->w'.cell? a=some v
 Q6:∀(a:Addr)(v:ay),a.block∉L->a∉C->w.cell? a=some v->w'.frozen? a=w.frozen? a
 blk:∀(k:Nat)(c:gd)(t:TypeId)(f:Nat×Nat),k∉L->(∀x∈C,x.block≠k)->w.heap[k]? =some (.cells c t f)->w'.heap[k]? =some (.cells c t f)
section
variable{w:aj}{a:Addr}
theorem Kp.cell(h:Kp L w w')(a:Addr)(v:ay)(b:a.block∉L)(c:w.cell? a=some v):w'.cell? a=some v:=h.cellC a v b (by simp) c
theorem Kp.Rn(h:Kp L w w')(a:Addr)(v:ay)(b:a.block∉L)(c:w.cell? a=some v):w'.frozen? a=w.frozen? a:=h.Q6 a v b (by simp) c
theorem Kp.refl(w:aj):Kp L w w C:=⟨az _,λ_ _ _ _ h=>h,λ_ _ _ _ _=>rfl,λ_ _ _ _ _ _ h=>h⟩
theorem Kp.pX(k:Kp L w w' C)(h:Kp M w' q N)(l:∀x∈M,x∈L\/w.heap.size<=x)(m:∀x∈N,x∈C\/x.block∈L\/w.heap.size<=x.block):Kp L w q C:=by
 have j:∀(a:Addr)(v:ay),a.block∉L->a∉C->w.cell? a=some v->a.block∉M/\a∉N:=λa v j d i=>⟨λz=>(l _ z).elim j λy=>absurd (au i) (wT.2 y),λz=>(m _ z).elim d λy=>y.elim j λy=>absurd (au i) (wT.2 y)⟩
 exact⟨aT k.size h.size,λa v d g i=>h.cellC a v (j a v d g i).1 (j a v d g i).2 (k.cellC a v d g i),λa v d g i=>(h.Q6 a v (j a v d g i).1 (j a v d g i).2 (k.cellC a v d g i)).trans (k.Q6 a v d g i),λb c t f g a d=>h.blk b c t f (λz=>(l _ z).elim g λy=>absurd (cU.1 d).1 (wT.2 y)) (λx h e=>(m x h).elim (λy=>a x y e) λy=>y.elim (λy=>g (e▸y)) λy=>absurd (cU.1 d).1 (wT.2 (e▸y))) (k.blk b c t f g a d)⟩
theorem Kp.RY(k:Kp L w w' C)(h:Kp M w' q)(a:∀x∈M,x∈L\/w.heap.size<=x):Kp L w q C:=k.pX h a (by simp)
theorem Kp.old(h:Kp L w w' C)(a:∀x∈L,x∈M\/w.heap.size<=x)(b:∀x∈C,x∈N\/x.block∈M\/w.heap.size<=x.block):Kp M w w' N:=(Kp.refl w).pX h a b
theorem kS(b:a.block<w.heap.size):(w.alloc o).frozen? a=w.frozen? a:=World.frozen?_alloc_old w o a (iS b)
theorem Kp.alloc(e:w.alloc o=q):Kp L w q:=by
 subst e;exact⟨by simp,λa v _ _ b=>(Hx _ _ _ (au b)).trans b,λa v _ _ b=>kS (au b),λk c t f _ _ h=>(Below.heap_alloc _ _ _ (cU.1 h).1).trans h⟩
theorem Kp.H8(e:w.setCell p v=q):Kp [] w q [p]:=by
 subst e;exact⟨by simp,λa x _ b d=>(qa _ _ _ _ (λz=>b (by simp[z]))).trans d,λa x _ _ _=>YB _ _ _ _,λk c t f _ b h=>by simp only[World.setCell,sU,b p (by simp),if_false];exact h⟩
theorem Kp.yT(k:Kp L w w' C)(e:w'.alloc o=q):Kp L w q C:=k.pX (Kp.alloc (L:=[]) e) (by simp) (by simp)
theorem Kp.Ch(k:Kp L w w' C)(e:w'.setCell p v=q)(a:p.block∈L\/p∈C\/w.heap.size<=p.block):Kp L w q C:=
 k.pX (Kp.H8 e) (by simp) (by grind)
theorem bN(h:w.cell? a=some v)(e:w.alloc o=q):q.cell? a=some v:=by subst e;exact(Hx _ _ _ (au h)).trans h
theorem dP(z:w.frozen? a=false)(h:w.cell? a=some v)(e:w.alloc o=q):q.frozen? a=false:=by subst e;exact(kS (au h)).trans z
theorem rC(e:w.alloc o=q)(a:w.heap.size=n):q.heap.size=n+1:=by subst e;simp_all
theorem aY(e:w.alloc (.cells c t)=q)(a:w.heap.size=n)(b:c[i]? =some v):q.cell? ⟨n,i,none⟩=some v:=by subst e;subst a;simp_all
theorem cy(e:w.alloc (.cells c t)=q)(a:w.heap.size=n)(i:Nat):q.frozen? ⟨n,i,none⟩=false:=by subst e;subst a;simp
theorem ny(e:w.alloc o=q)(a:w.heap.size=n):q.heap[n]? =some o:=by subst e;subst a;show(w.heap.push o)[w.heap.size]? =_;simp
theorem dQ(h:w.cell? a=some v)(e:w.setCell p H=q)(b:p≠a):q.cell? a=some v:=by subst e;exact(qa _ _ _ _ b).trans h
theorem kP(h:w.cell? a=some v)(e:w.setCell a H=q):q.cell? a=some H:=by subst e;exact D6 _ _ _ h
theorem eF(z:w.frozen? a=false)(e:w.setCell p H=q):q.frozen? a=false:=by subst e;simp_all
theorem Kg(e:w.setCell p H=q):q.heap.size=w.heap.size:=by subst e;simp
theorem lu(e:w.setCell p H=q):w.heap.size<=q.heap.size/\q.heap.size<=w.heap.size:=by have:=Kg e;omega
theorem gH(e:w.alloc o=q)(a:w.heap.size=n):n<q.heap.size/\q.heap.size<=n+1:=by have:=rC e a;omega
end
theorem DX.Pg{Ok:dh}{es:dS}(d:Nat):∀(l:oJ)(w:aj),(∀x∈l,Ok x.1 true)->(∀e∈es,G4 Ok ((l.foldl (λw x=>w.setCell x.1 x.2) w).at d) e)->DX Ok (w.at d) ((l.foldl (λw x=>w.setCell x.1 x.2) w).at d) es
 |[],w,_,h=>DX.still d h
 |x::l,w,ok,h=>by
  have e:=DX.Pg d l (w.setCell x.1 x.2) (λy b=>ok y (aP _ b)) h;have b:DX Ok (w.at d) ((w.setCell x.1 x.2).at d) #[]:=DX.set d (ok x (bI ..)) (by simp);exact⟨e.ev,aT b.size e.size,λc o f d=>e.obj c o (b.obj c o f d) d,λa f c=>by
   have g:=b.cell a f c;have g:=e.cell a f (c7 c b.size);simp_all,λk a d=>(e.blk k (c7 a b.size) d).trans (b.blk k a d),e.rest.1.trans b.rest.1,e.rest.2.1.trans b.rest.2.1,e.rest.2.2.trans b.rest.2.2⟩
section
variable{es:dS}{w:aj}
theorem DX.Ud(d:Nat)(b:Ok Q true)(a:Ok O true)(h:∀e∈es,G4 Ok (((w.setCell Q S).setCell O R).at d) e):DX Ok (w.at d) (((w.setCell Q S).setCell O R).at d) es:=
 DX.Pg d [(Q,S),(O,R)] w (by simp[b,a]) h
end
section
variable(P:aG)(w:aj)(es:dS)(a:Addr)(m:Mode)
theorem fD(b:eP)(n c:Nat):(store a (.slice b n c) m).events P w es=storedEv P w es a (.slice b n c) m:=events_store P w es a _ m rfl
theorem ig(b:eP):(store a (.pointer b) m).events P w es=storedEv P w es a (.pointer b) m:=events_store P w es a _ m rfl
theorem fE(t:TypeId)(v:ay):(store a (.iface t v) m).events P w es=storedEv P w es a (.iface t v) m:=events_store P w es a _ m rfl
theorem jc:(store a .nilIface m).events P w es=storedEv P w es a .nilIface m:=events_store P w es a _ m rfl
theorem gP(b:Bool):(store a (.bool b) m).events P w es=storedEv P w es a (.bool b) m:=events_store P w es a _ m rfl
end
def cw(v:ay):List Nat:=match v.ownBlock with|some g=>[g]|none=>[]
theorem bS{g:Nat}:g∈cw v↔v.ownBlock=some g:=by
 unfold cw;grind
theorem Kp.grown{w:aj}(h:w.grownBy w' v.ownBlock):Kp (cw v) w w':=by
 have e:∀(a:Addr)(x:ay),a.block∉cw v->w.cell? a=some x->w'.heap[a.block]? =w.heap[a.block]? :=λa x b d=>h.block _ (au d) λz=>b (bS.2 z.symm);exact⟨h.size,λa x b _ d=>(World.cell?_of_block (e a x b d)).trans d,λa x b _ d=>World.frozen?_of_block (e a x b d),λk c t f b _ a=>(h.block k (cU.1 a).1 λz=>b (bS.2 z.symm)).trans a⟩
theorem aB.append{P:aG}{a:Act}{w:aj}(F:aB P B (DX Ok) A){L:cm}{o:Oper}(ho:L[i]? =some o)(hw:Region.wanted o (yielded L a.tmps)=true)(hk:b.kind≠.early)(s x:Operand)(t e:TypeId)(W:o.op=.call {callee:=.builtin .append,args:=#[s,x],argTypes:=#[t,t]})(inf:TypeInfo)(z:ay)(base size bytes:Nat)(ht:P.underlying t=some (.slice e))(hi:P.info? e=some inf)(hz:inf.zero=some z)(D:inf.size=size)(Y:inf.bytes=bytes)(YN:z.cells.size=size)(M1:0<size){M:Nat}{T f:iO}(hs:a.eval s=v)(hx:a.eval x=.slice (some ⟨M,0,none⟩) 1 1)(J:w.ownsRow base e size v n T)(O:f.length=size)(O:∀j u,f[j]? =some u->w.cell? ⟨M,j,none⟩=some u)(h1:∀u∈f,u.oneCell'=true)(Z:n+1<=maxLen)(y:(n+1)*bytes<=140737488355328)(S:base<=w.heap.size)(o8:M<w.heap.size)(l:∀(C:Addr)(wr:Bool),some C.block=v.ownBlock->Ok C wr)(U:∀C:Addr,C.block=M->Ok C false)(h:∀H w',w'.ownsRow base e size H (n+1) (T++f)->w.grownBy w' v.ownBlock->(H.ownBlock=v.ownBlock\/H.ownBlock=some w.heap.size)->A (G (b.at (a.put o.dst H) (.inRegion L r::k)) E) w'):
 A (G (b.at a (.inRegion L (i::r)::k)) E) w:=by
 refine F.OA ho hw hk λd K hK=>?_;have I:(w.at d).ownsRow base e size v n T:=J;have p:∀j u,f[j]? =some u->(w.at d).cell? ((⟨M,0,none⟩:Addr).add j)=some u:=λj u a=>by rw[ey,bK];exact O j u a
 obtain⟨H,w',hr,Qx,q,_,hb⟩:=run_append_own_at (P:=P) (w:=w.at d) base t o.type e inf z size bytes ht hi hz D Y YN M1 v n T I ⟨M,0,none⟩ 1 1 f (by omega) p h1 Z y S;have V:∀g,v.ownBlock=some g->g<w.heap.size:=λg X=>by
  rcases J.2 with ⟨rfl,_⟩|⟨g',cap,cur,rfl,_,hh,_⟩
  .cases X
  .simp[Value.ownBlock]at X;grind
 refine uponK_append s x t W hs hx hr (hK _ w' ⟨⟨λev g=>?_,q.size,λc ob N a=>?_,λC NC R=>?_,λi b a=>q.block i b (λz=>a ⟨i,0,none⟩ rfl (l _ _ z)),q.os,q.tape,q.output⟩,h H w' Qx ⟨q.os,q.tape,q.output,q.size,q.block⟩ hb⟩)
 .have hm:=mem_listed g;rw[events_append_op s x t W hs hx]at hm;rcases events_append_where (P:=P) (w.at d) base t o.type e inf z size bytes ht hi hz D Y v n T I ⟨M,0,none⟩ 1 1 f (by omega) p h1 Z y ev hm with ⟨C,b,⟨a,d⟩|a⟩|⟨m,b,a⟩
  .exact .inl ⟨C,b,rfl,by rw[a];exact U C d,by rw[d];exact c7 o8 q.size⟩
  .exact .inl ⟨C,b,rfl,l C _ a,c7 (V _ a.symm) q.size⟩
  .exact .inr (by rw[b,show m=.noRoom from a];rfl)
 .have R:c<w.heap.size:=(cU.1 N).1;have Q:some c≠v.ownBlock:=λz=>by
   rcases J.2 with ⟨rfl,_⟩|⟨g',cap,cur,rfl,_,hh,_⟩
   .cases z
   .simp[Value.ownBlock]at z;subst z;have:w.heap[c]? =some ob:=N;grind
  exact(q.block c R Q).trans N
 .have Q:some C.block≠v.ownBlock:=λz=>NC (l C true z);have:=q.block _ R Q;exact⟨World.cell?_of_block this,World.frozen?_of_block this⟩
def dB(b:Bool)(x y:ay):Value:=match b with|true=>x|false=>y
def tick(b:qS)(i:Nat):Nat->Bool:=λj=>if j=i then true else b j
theorem all_cons{p:p8}{k:Nat}(h:p k)(a:∀i,k+1<=i->i<n->p i):∀i,k<=i->i<n->p i:=λi c b=>by
 rcases kR k i with z|z
 .exact a i z b
 .have:i=k:=Nat.le_antisymm z c;subst this;exact h
theorem all_nil{p:p8}:∀i,n<=i->i<n->p i:=λi b a=>absurd a (wT.2 b)
def Ab(ops:cm)(Dp:List (List Nat)):Bool:=
 (List.range ops.size).all λi=>match ops[i]? with
   |some o=>o.after.toList.all (λe=>!Region.binds .any e||decide (e.on<i))&&(Dp.getD i []).all (λj=>o.after.toList.any λe=>decide (e.on=j)&&Region.binds .any e)
   |none=>false
theorem aB.K7{P:aG}{y:aC}{c:cm}{id:Nat}{a:Act}{w:aj}(F:aB P B D A)(M:P.follows .mixedOrders=true)(p:List (List Nat))(L:c.size=n)(O:Ab c p=true)(I:(Nat->Bool)->Act->World->Prop)(Q:I (λ_=>false) a w)(d:∀i,0<=i->i<n->∀(b:qS)(a:Act)(w:aj),I b a w->(∀x,x<n->b x=true->∀j∈p.getD x [],b j=true)->b i=false->(∀j∈p.getD i [],b j=true)->∀r,((∀x,x<n->x≠i->b x=true)->r=[])->
 (∀z w',I (tick b i) z w'->A (G (y.at z (.inRegion c r::k)) E) w')->A (G (y.at a (.inRegion c (i::r)::k)) E) w)(t:∀b a w,I b a w->(∀i,i<n->b i=true)->A (G (y.at a (.inRegion c []::k)) E) w):
 A (G (y.at a (.code (.region id c true)::k)) E) w:=by
 subst L;have k:∀i o,c[i]? =some o->(∀e∈o.after,Region.binds .any e=true->e.on<i)/\∀j∈p.getD i [],∃e∈o.after,e.on=j/\Region.binds .any e=true:=by
  intro i o b;have v:i<c.size:=(cU.1 b).1;have:=eZ.1 O i (aZ.2 v);grind
 let m:Array Bool->Nat->Bool:=λl j=>l.getD j false
 refine F.draw M (λl a w=>l.size=c.size/\I (m l) a w/\∀x,x<c.size->m l x=true->∀j∈p.getD x [],m l j=true) (λi o b=>(k i o b).1) (λl a w h=>h.1) ⟨by simp,?_,λx K h=>?_⟩ (λl a w i o g b e e r C N=>?_) (λl a w g e=>?_)
 .have:m (Array.replicate c.size false)=λ_=>false:=by
   funext j;simp only[m,Array.getD];simp
  rw[this];exact Q
 .have:m (Array.replicate c.size false) x=false:=by
   simp only[m,Array.getD];simp
  grind
 .have v:i<c.size:=(cU.1 b).1;have J:i<l.size:=by omega
  have s:m (l.setIfInBounds i true)=tick (m l) i:=by
   funext j;simp only[m,tick,Array.getD,zb];by_cases f:j=i
   .subst f;simp[J]
   .by_cases b:j<l.size
    .simp[b,f,Array.getElem_setIfInBounds];omega
    grind
  have b:m l i=false:=by
   grind
  have u:∀j∈p.getD i [],m l j=true:=λj f=>by
   grind
  refine d i (gl _) v (m l) a w g.2.1 g.2.2 b u r (λh=>C λj f H=>by
   grind) λz w' b=>N z w' ⟨by simp[g.1],by rw[s];exact b,?_⟩
  rw[s];intro x K h j f;by_cases q:x=i
  .subst q;by_cases H:j=x
   .grind
   .have:=u j f;simp[tick,this]
  .have b:m l x=true:=by simpa [tick,q]using h
   have:=g.2.2 x K b j f;simp[tick,this]
 .refine t (m l) a w g.2.1 λi v=>?_;grind
def tG(a:Act)(l:List (Nat×Value)):Act:=⟨l.foldl (λt x=>t.setIfInBounds x.1 x.2) a.tmps,a.defers⟩
theorem pu:(∀(a:Act)(l:List (Nat×Value)),tG a l=⟨l.foldl (λt x=>t.setIfInBounds x.1 x.2) a.tmps,a.defers⟩)/\
 (∀(f:Array Value->Nat×Value->Array Value)(t:gd),[].foldl f t=t)/\(∀(f:Array Value->Nat×Value->Array Value)(t:gd)(x:Nat×Value)(l:List (Nat×Value)),(x::l).foldl f t=l.foldl f (f t x))/\
 (∀(b:qS)(i j:Nat),tick b i j=if j=i then true else b j)/\(∀n:Nat,0+n=n)/\(∀x y:Value,dB true x y=x)/\(∀x y:Value,dB false x y=y)/\
 (∀(l:iO)(i:Nat)(v:ay),l.toArray.setIfInBounds i v=(l.set i v).toArray)/\(∀(x:ay)(l:iO)(i:Nat)(v:ay),(x::l).set (i+1) v=x::l.set i v)/\(∀(x:ay)(l:iO)(v:ay),(x::l).set 0 v=v::l)/\
 ((0=1)=False)/\((1=0)=False):=
 ⟨λ_ _=>rfl,λ_ _=>rfl,λ_ _ _ _=>rfl,λ_ _ _=>rfl,bK,λ_ _=>rfl,λ_ _=>rfl,λ_ _ _=>by simp,λ_ _ _ _=>rfl,λ_ _ _=>rfl,by simp,by simp⟩
theorem aB.RB{P:aG}{o:aC}{d:cm}{id:Nat}{a:Act}{w:aj}(F:aB P B D A)(y:P.follows .mixedOrders=true)(p:List (List Nat))(v:d.size=n)(D:Ab d p=true)(c:(Nat->Bool)->γ->List (Nat×Value))(J:(Nat->Bool)->γ->World->Prop)(u:γ)(L:tG a (c (λ_=>false) u)=a)(l:J (λ_=>false) u w)(e:∀i,0<=i->i<n->∀(b:qS)(g:γ)(w:aj),J b g w->(∀x,x<n->b x=true->∀j∈p.getD x [],b j=true)->b i=false->(∀j∈p.getD i [],b j=true)->∀r,((∀x,x<n->x≠i->b x=true)->r=[])->
 (∀m w',J (tick b i) m w'->A (G (o.at (tG a (c (tick b i) m)) (.inRegion d r::k)) E) w')->A (G (o.at (tG a (c b g)) (.inRegion d (i::r)::k)) E) w)(f:∀b g w,J b g w->(∀i,i<n->b i=true)->A (G (o.at (tG a (c b g)) (.inRegion d []::k)) E) w):
 A (G (o.at a (.code (.region id d true)::k)) E) w:=by
 refine F.K7 y p v D (λb d w=>∃g,d=tG a (c b g)/\J b g w) ⟨u,L.symm,l⟩ (λi K I b d w t s H C r q z=>?_) (λb d w t h=>?_)
 .obtain⟨g,rfl,l⟩:=t;exact e i K I b g w l s H C r q λm w' a=>z _ _ ⟨m,rfl,a⟩
 .obtain⟨g,rfl,l⟩:=t;exact f b g w l h
theorem aB.yw{P:aG}{h:aC}{d:cm}{id:Nat}{a:Act}{w:aj}(F:aB P B D A)(p:P.follows .mixedOrders=true)(l:List (List Nat))(o:d.size=n)(s:Ab d l=true)(c:(Nat->Bool)->γ->List (Nat×Value))(J:(Nat->Bool)->γ->World->Prop)(m:γ)(t:tG a (c (λ_=>false) m)=a)(q:J (λ_=>false) m w)(e:∀i,0<=i->i<n->∀(b:qS)(g:γ)(w:aj),J b g w->(∀x j,(decide (x<n)&&(l.getD x []).contains j)=true->b x=true->b j=true)->b i=false->(∀j,(l.getD i []).contains j=true->b j=true)->∀r,((∀x,x<n->x≠i->b x=true)->r=[])->
 (∀f w',J (tick b i) f w'->A (G (h.at (tG a (c (tick b i) f)) (.inRegion d r::k)) E) w')->A (G (h.at (tG a (c b g)) (.inRegion d (i::r)::k)) E) w)(f:∀b g w,J b g w->(∀i,i<n->b i=true)->A (G (h.at (tG a (c b g)) (.inRegion d []::k)) E) w):
 A (G (h.at a (.code (.region id d true)::k)) E) w:=
 F.RB p l o s c J m t q (λi k h b g w d a c a=>e i k h b g w d (λx j b b=>by
  grind) c (λj b=>a j (by grind))) f
theorem dZ:prog.underlying 100=some (.slice 128):=by kernel_rfl
theorem lO:∃inf z,prog.info? 128=some inf/\inf.zero=some z/\inf.size=2/\inf.bytes=16/\z.cells.size=2:=⟨_,_,rfl,rfl,rfl,rfl,rfl⟩
end Go.Proofs.YtobagnjnbmgidaaGreatDoor
