import Derived.Test.YtobagnjnbmgidaaGreatDoorChecked
import Derived.Test.YtobagnjnbmgidaaGreatDoorZ1
import Derived.Conc.TokenWords
import Derived.Laws.AppendOwn
import Derived.Maps.AppendAt
set_option linter.all false
set_option maxRecDepth 100000
namespace Go.Proofs.YtobagnjnbmgidaaGreatDoor
open Tryz Go.Conc Go.RowKit
variable{γ:Type}{t:TypeId}{Ψ:gi}{b:aE}{D:zx}{rest:aP}{cs:cW}{c:fW}{k:eF}
variable{main:Bool}{Ok:dw}{L L':aP}{C C':List Addr}{w' q E:aj}{p a1 a2 a3 a4 a5:Addr}{v r B A N M H:ay}{o:Obj}{n i:Nat}
theorem mixed:prog.follows .mixedOrders=true:=by kernel_rfl
theorem aC.NO{P:aI}{a:Act}{w:aj}(F:aC P main D Ψ){e:b9}{o:Oper}(ho:e[i]? =some o)(f:Region.wanted o (yielded e a.tmps)=true)(hk:b.kind≠.early)(h:∀d,∀K:Act->World->Prop,(∀a' w',D (w.at d) w' (raw P a o (w.at d))/\Ψ (G (b.at a' (.inRegion e rest::k)) cs) w'->K a' w')->uponK o a K ((execOp a.eval o).run P (w.at d))):
 Ψ (G (b.at a (.inRegion e (i::rest)::k)) cs) w:=
 F.ZD ho f hk h
structure Kp(L:aP)(w w':aj)(C:List Addr:=[]):Prop where
 size:w.heap.size<=w'.heap.size
 cellC:∀(a:Addr)(v:ay),a.block∉L->a∉C->w.cell? a=some v->w'.cell? a=some v
 jR:∀(a:Addr)(v:ay),a.block∉L->a∉C->w.cell? a=some v->w'.frozen? a=w.frozen? a
 blk:∀(k:Nat)(c:fW)(t:TypeId)(f:Nat×Nat),k∉L->(∀x∈C,x.block≠k)->w.heap[k]? =some (.cells c t f)->w'.heap[k]? =some (.cells c t f)
section
variable{w:aj}{a:Addr}
theorem Kp.cell(h:Kp L w w')(a:Addr)(v:ay)(d:a.block∉L)(hc:w.cell? a=some v):w'.cell? a=some v:=h.cellC a v d (by simp) hc
theorem Kp.O2(h:Kp L w w')(a:Addr)(v:ay)(d:a.block∉L)(hc:w.cell? a=some v):w'.frozen? a=w.frozen? a:=h.jR a v d (by simp) hc
theorem Kp.refl(w:aj):Kp L w w C:=⟨az _,λ_ _ _ _ h=>h,λ_ _ _ _ _=>rfl,λ_ _ _ _ _ _ h=>h⟩
theorem Kp.qk(k:Kp L w w' C)(h:Kp L' w' q C')(F:∀x∈L',x∈L\/w.heap.size<=x)(G:∀x∈C',x∈C\/x.block∈L\/w.heap.size<=x.block):Kp L w q C:=by
 have j:∀(a:Addr)(v:ay),a.block∉L->a∉C->w.cell? a=some v->a.block∉L'/\a∉C':=λa v j s hc=>⟨λz=>(F _ z).elim j λy=>absurd (au hc) (xw.2 y),λz=>(G _ z).elim s λy=>y.elim j λy=>absurd (au hc) (xw.2 y)⟩
 exact⟨aT k.size h.size,λa v d g hc=>h.cellC a v (j a v d g hc).1 (j a v d g hc).2 (k.cellC a v d g hc),λa v d g hc=>(h.jR a v (j a v d g hc).1 (j a v d g hc).2 (k.cellC a v d g hc)).trans (k.jR a v d g hc),λb c t f u l ho=>h.blk b c t f (λz=>(F _ z).elim u λy=>absurd (cH.1 ho).1 (xw.2 y)) (λx I e=>(G x I).elim (λy=>l x y e) λy=>y.elim (λy=>u (e▸y)) λy=>absurd (cH.1 ho).1 (xw.2 (e▸y))) (k.blk b c t f u l ho)⟩
theorem Kp.Mo(k:Kp L w w' C)(h:Kp L' w' q)(d:∀x∈L',x∈L\/w.heap.size<=x):Kp L w q C:=k.qk h d (by simp)
theorem Kp.old(h:Kp L w w' C)(d:∀x∈L,x∈L'\/w.heap.size<=x)(e:∀x∈C,x∈C'\/x.block∈L'\/w.heap.size<=x.block):Kp L' w w' C':=(Kp.refl w).qk h d e
theorem kV(hc:a.block<w.heap.size):(w.alloc o).frozen? a=w.frozen? a:=World.frozen?_alloc_old w o a (xx hc)
theorem Kp.alloc(e:w.alloc o=q):Kp L w q:=by
 subst e;exact⟨by simp,λa v _ _ hc=>(Iv _ _ _ (au hc)).trans hc,λa v _ _ hc=>kV (au hc),λk c t f _ _ h=>(Below.heap_alloc _ _ _ (cH.1 h).1).trans h⟩
theorem Kp.I7(e:w.setCell p v=q):Kp [] w q [p]:=by
 subst e;exact⟨by simp[World.setCell],λa x _ d hc=>(qu _ _ _ _ (λz=>d (by simp[z]))).trans hc,λa x _ _ _=>rB _ _ _ _,λk c t f _ d h=>by simp only[World.setCell,rA,d p (by simp),if_false];exact h⟩
theorem Kp.zb(k:Kp L w w' C)(e:w'.alloc o=q):Kp L w q C:=k.qk (Kp.alloc (L:=[]) e) (by simp) (by simp)
theorem Kp.Bv(k:Kp L w w' C)(e:w'.setCell p v=q)(f:p.block∈L\/p∈C\/w.heap.size<=p.block):Kp L w q C:=
 k.qk (Kp.I7 e) (by simp) (by intro x d;simp at d;subst d;rcases f with z|z|z;exact .inr (.inl z);exact .inl z;exact .inr (.inr z))
theorem bz(h:w.cell? a=some v)(e:w.alloc o=q):q.cell? a=some v:=by subst e;exact(Iv _ _ _ (au h)).trans h
theorem dG(z:w.frozen? a=false)(h:w.cell? a=some v)(e:w.alloc o=q):q.frozen? a=false:=by subst e;exact(kV (au h)).trans z
theorem p9(e:w.alloc o=q)(d:w.heap.size=n):q.heap.size=n+1:=by subst e;subst d;simp
theorem aV(e:w.alloc (.cells c t)=q)(f:w.heap.size=n)(d:c[i]? =some v):q.cell? ⟨n,i,none⟩=some v:=by subst e;subst f;exact(World.cell?_alloc_new w c t i).trans d
theorem bY(e:w.alloc (.cells c t)=q)(d:w.heap.size=n)(i:Nat):q.frozen? ⟨n,i,none⟩=false:=by subst e;subst d;exact World.frozen?_alloc_new w c t i
theorem nv(e:w.alloc o=q)(d:w.heap.size=n):q.heap[n]? =some o:=by subst e;subst d;show(w.heap.push o)[w.heap.size]? =_;simp
theorem dK(h:w.cell? a=some v)(e:w.setCell p r=q)(d:p≠a):q.cell? a=some v:=by subst e;exact(qu _ _ _ _ d).trans h
theorem jC(h:w.cell? a=some v)(e:w.setCell a r=q):q.cell? a=some r:=by subst e;exact EO _ _ _ h
theorem dV(z:w.frozen? a=false)(e:w.setCell p r=q):q.frozen? a=false:=by subst e;rw[rB];exact z
theorem Fh(e:w.setCell p r=q):q.heap.size=w.heap.size:=by subst e;simp[World.setCell]
theorem lI(e:w.setCell p r=q):w.heap.size<=q.heap.size/\q.heap.size<=w.heap.size:=by have:=Fh e;omega
theorem gr(e:w.alloc o=q)(d:w.heap.size=n):n<q.heap.size/\q.heap.size<=n+1:=by have:=p9 e d;omega
end
theorem DX.Rb{Ok:dw}{es:dL}(d:Nat):∀(l:oX)(w:aj),(∀x∈l,Ok x.1 true)->(∀e∈es,Ir Ok ((l.foldl (λw x=>w.setCell x.1 x.2) w).at d) e)->DX Ok (w.at d) ((l.foldl (λw x=>w.setCell x.1 x.2) w).at d) es
 |[],w,_,h=>DX.still d h
 |x::l,w,ok,h=>by
  have g:=DX.Rb d l (w.setCell x.1 x.2) (λy u=>ok y (aO _ u)) h;have f:DX Ok (w.at d) ((w.setCell x.1 x.2).at d) #[]:=DX.set d (ok x (bS ..)) (by simp)
  exact⟨g.ev,aT f.size g.size,λc o ho j=>g.obj c o (f.obj c o ho j) j,λa s hl=>by
   have e1:=f.cell a s hl;have e2:=g.cell a s (c7 hl f.size);exact⟨e2.1.trans e1.1,e2.2.trans e1.2⟩,λk hk j=>(g.blk k (c7 hk f.size) j).trans (f.blk k hk j),g.rest.1.trans f.rest.1,g.rest.2.1.trans f.rest.2.1,g.rest.2.2.trans f.rest.2.2⟩
section
variable{es:dL}{w:aj}
theorem DX.V6(d:Nat)(o1:Ok a1 true)(o2:Ok a2 true)(h:∀e∈es,Ir Ok (((w.setCell a1 B).setCell a2 A).at d) e):DX Ok (w.at d) (((w.setCell a1 B).setCell a2 A).at d) es:=
 DX.Rb d [(a1,B),(a2,A)] w (by simp[o1,o2]) h
end
section
variable(P:aI)(w:aj)(es:dL)(a:Addr)(m:Mode)
theorem ey(b:eN)(n c:Nat):(store a (.slice b n c) m).events P w es=storedEv P w es a (.slice b n c) m:=events_store P w es a _ m rfl
theorem fQ(b:eN):(store a (.pointer b) m).events P w es=storedEv P w es a (.pointer b) m:=events_store P w es a _ m rfl
theorem ez(t:TypeId)(v:ay):(store a (.iface t v) m).events P w es=storedEv P w es a (.iface t v) m:=events_store P w es a _ m rfl
theorem gW:(store a .nilIface m).events P w es=storedEv P w es a .nilIface m:=events_store P w es a _ m rfl
theorem fF(b:Bool):(store a (.bool b) m).events P w es=storedEv P w es a (.bool b) m:=events_store P w es a _ m rfl
end
def bU(v:ay):List Nat:=match v.ownBlock with|some g=>[g]|none=>[]
theorem bq{g:Nat}:g∈bU v↔v.ownBlock=some g:=by
 unfold bU;cases v.ownBlock with
 |none=>simp
 |some x=>simp[eq_comm]
theorem Kp.grown{w:aj}(h:w.grownBy w' v.ownBlock):Kp (bU v) w w':=by
 have e:∀(a:Addr)(x:ay),a.block∉bU v->w.cell? a=some x->w'.heap[a.block]? =w.heap[a.block]? :=λa x d hc=>h.block _ (au hc) λz=>d (bq.2 z.symm)
 exact⟨h.size,λa x d _ hc=>(World.cell?_of_block (e a x d hc)).trans hc,λa x d _ hc=>World.frozen?_of_block (e a x d hc),λk c t f d _ ho=>(h.block k (cH.1 ho).1 λz=>d (bq.2 z.symm)).trans ho⟩
theorem aC.append{P:aI}{a:Act}{w:aj}(F:aC P main (DX Ok) Ψ){R:b9}{o:Oper}(ho:R[i]? =some o)(hw:Region.wanted o (yielded R a.tmps)=true)(hk:b.kind≠.early)(s x:Operand)(t e:TypeId)(JP:o.op=.call {callee:=.builtin .append,args:=#[s,x],argTypes:=#[t,t]})(inf:TypeInfo)(z:ay)(base size bytes:Nat)(ht:P.underlying t=some (.slice e))(hi:P.info? e=some inf)(hz:inf.zero=some z)(J:inf.size=size)(Vs:inf.bytes=bytes)(Wu:z.cells.size=size)(kI:0<size){nb:Nat}{xs news:iG}(hs:a.eval s=v)(hx:a.eval x=.slice (some ⟨nb,0,none⟩) 1 1)(Q:w.ownsRow base e size v n xs)(hl:news.length=size)(T:∀j u,news[j]? =some u->w.cell? ⟨nb,j,none⟩=some u)(h1:∀u∈news,u.oneCell'=true)(Mc:n+1<=maxLen)(I:(n+1)*bytes<=140737488355328)(X:base<=w.heap.size)(pO:nb<w.heap.size)(f:∀(ad:Addr)(wr:Bool),some ad.block=v.ownBlock->Ok ad wr)(Y:∀ad:Addr,ad.block=nb->Ok ad false)(h:∀r w',w'.ownsRow base e size r (n+1) (xs++news)->w.grownBy w' v.ownBlock->(r.ownBlock=v.ownBlock\/r.ownBlock=some w.heap.size)->Ψ (G (b.at (a.put o.dst r) (.inRegion R rest::k)) cs) w'):
 Ψ (G (b.at a (.inRegion R (i::rest)::k)) cs) w:=by
 refine F.NO ho hw hk λd K hK=>?_
 have O:(w.at d).ownsRow base e size v n xs:=Q;have l:∀j u,news[j]? =some u->(w.at d).cell? ((⟨nb,0,none⟩:Addr).add j)=some u:=λj u hj=>by rw[dJ,bD];exact T j u hj
 obtain⟨r,w',hr,GI,y,_,hb⟩:=run_append_own_at (P:=P) (w:=w.at d) base t o.type e inf z size bytes ht hi hz J Vs Wu kI v n xs O ⟨nb,0,none⟩ 1 1 news (by simpa using hl) l h1 Mc I X
 have Z:∀g,v.ownBlock=some g->g<w.heap.size:=λg W=>by
  rcases Q.2 with ⟨rfl,_⟩|⟨g',cap,cur,rfl,_,hh,_⟩
  .cases W
  .simp[Value.ownBlock]at W
   subst W;exact(cH.1 hh).1
 refine uponK_append s x t JP hs hx hr (hK _ w' ⟨⟨λev hev=>?_,y.size,λc ob S hn=>?_,λad Ax V=>?_,λkk GN hnn=>y.block kk GN (λz=>hnn ⟨kk,0,none⟩ rfl (f _ _ z)),y.os,y.tape,y.output⟩,h r w' GI ⟨y.os,y.tape,y.output,y.size,y.block⟩ hb⟩)
 .have hm:=mem_listed hev
  rw[events_append_op s x t JP hs hx]at hm;rcases events_append_where (P:=P) (w.at d) base t o.type e inf z size bytes ht hi hz J Vs v n xs O ⟨nb,0,none⟩ 1 1 news (by simpa using hl) l h1 Mc I ev hm with ⟨ad,e1,⟨e2,e3⟩|e2⟩|⟨m,e1,e2⟩
  .exact .inl ⟨ad,e1,rfl,by rw[e2];exact Y ad e3,by rw[e3];exact c7 pO y.size⟩
  .exact .inl ⟨ad,e1,rfl,f ad _ e2,c7 (Z _ e2.symm) y.size⟩
  .exact .inr (by rw[e1,show m=.noRoom from e2];rfl)
 .have V:c<w.heap.size:=(cH.1 S).1
  have U:some c≠v.ownBlock:=λz=>by
   rcases Q.2 with ⟨rfl,_⟩|⟨g',cap,cur,rfl,_,hh,_⟩
   .cases z
   .simp[Value.ownBlock]at z
    subst z;have:w.heap[c]? =some ob:=S;rw[hh]at this;exact hn _ _ _ (Option.some.inj this).symm
  exact(y.block c V U).trans S
 .have U:some ad.block≠v.ownBlock:=λz=>Ax (f ad true z)
  have:=y.block _ V U;exact⟨World.cell?_of_block this,World.frozen?_of_block this⟩
def dD(b:Bool)(x y:ay):Value:=match b with|true=>x|false=>y
def tick(b:rm)(i:Nat):Nat->Bool:=λj=>if j=i then true else b j
theorem all_cons{p:qo}{k:Nat}(h:p k)(d:∀i,k+1<=i->i<n->p i):∀i,k<=i->i<n->p i:=λi f e=>by
 rcases kR k i with z|z
 .exact d i z e
 .have:i=k:=Nat.le_antisymm z f
  subst this;exact h
theorem all_nil{p:qo}:∀i,n<=i->i<n->p i:=λi e d=>absurd d (xw.2 e)
def AR(ops:b9)(Dp:List (List Nat)):Bool:=
 (List.range ops.size).all λi=>match ops[i]? with
   |some o=>o.after.toList.all (λe=>!Region.binds .any e||decide (e.on<i))&&(Dp.getD i []).all (λj=>o.after.toList.any λe=>decide (e.on=j)&&Region.binds .any e)
   |none=>false
theorem aC.Mj{P:aI}{U:aE}{d:b9}{id:Nat}{a:Act}{w:aj}(F:aC P main D Ψ)(hm:P.follows .mixedOrders=true)(O:List (List Nat))(hn:d.size=n)(hD:AR d O=true)(I:(Nat->Bool)->Act->World->Prop)(h0:I (λ_=>false) a w)(y:∀i,0<=i->i<n->∀(b:rm)(a:Act)(w:aj),I b a w->(∀x,x<n->b x=true->∀j∈O.getD x [],b j=true)->b i=false->(∀j∈O.getD i [],b j=true)->∀rest,((∀x,x<n->x≠i->b x=true)->rest=[])->
 (∀a' w',I (tick b i) a' w'->Ψ (G (U.at a' (.inRegion d rest::k)) cs) w')->Ψ (G (U.at a (.inRegion d (i::rest)::k)) cs) w)(S:∀b a w,I b a w->(∀i,i<n->b i=true)->Ψ (G (U.at a (.inRegion d []::k)) cs) w):
 Ψ (G (U.at a (.code (.region id d true)::k)) cs) w:=by
 subst hn
 have u:∀i o,d[i]? =some o->(∀e∈o.after,Region.binds .any e=true->e.on<i)/\∀j∈O.getD i [],∃e∈o.after,e.on=j/\Region.binds .any e=true:=by
  intro i o ho;have K:i<d.size:=(cH.1 ho).1;have:=eP.1 hD i (bp.2 K);rw[ho]at this;simp only[cq,decide_eq_true_eq,eP,List.any_eq_true,Array.mem_toList_iff]at this;exact⟨λe W Y=>(by have:=this.1 e W;simpa [Y]using this),this.2⟩
 let m:Array Bool->Nat->Bool:=λl j=>l.getD j false
 refine F.draw hm (λl a w=>l.size=d.size/\I (m l) a w/\∀x,x<d.size->m l x=true->∀j∈O.getD x [],m l j=true) (λi o ho=>(u i o ho).1) (λl a w h=>h.1) ⟨by simp,?_,λx hx h=>?_⟩ (λl a w i o s ho hl hd rest V hk=>?_) (λl a w s hf=>?_)
 .have:m (Array.replicate d.size false)=λ_=>false:=by
   funext j
   simp only[m,Array.getD]
   split<;>simp
  rw[this];exact h0
 .have:m (Array.replicate d.size false) x=false:=by
   simp only[m,Array.getD]
   split<;>simp
  rw[this]at h;cases h
 .have K:i<d.size:=(cH.1 ho).1
  have g:i<l.size:=by rw[s.1];exact K
  have R:m (l.setIfInBounds i true)=tick (m l) i:=by
   funext j
   simp only[m,tick,Array.getD,zD]
   by_cases hj:j=i
   .subst hj;simp[g]
   .by_cases f:j<l.size
    .simp[f,hj,Array.getElem_setIfInBounds]
     exact λz=>absurd z.symm hj
    .simp[f,hj]
  have Y:m l i=false:=by
   simp only[m,Array.getD,g,mM]at hl ⊢;exact hl
  have T:∀j∈O.getD i [],m l j=true:=λj hj=>by
   obtain⟨e,W,rfl,X⟩:=(u i o ho).2 j hj;exact hd e W X
  refine y i (iN _) K (m l) a w s.2.1 s.2.2 Y T rest (λh=>V λj hj J=>by
   have:=h j hj J;have f:j<l.size:=by rw[s.1];exact hj
   simp only[m,Array.getD,f,mM]at this ⊢;exact this) λa' w' Z=>hk a' w' ⟨by simp[s.1],by rw[R];exact Z,?_⟩
  rw[R];intro x hx h j hj
  by_cases Q:x=i
  .subst Q
   by_cases J:j=x
   .simp[tick,J]
   .have:=T j hj
    simp[tick,this]
  .have h':m l x=true:=by simpa [tick,Q]using h
   have:=s.2.2 x hx h' j hj;simp[tick,this]
 .refine S (m l) a w s.2.1 λi K=>?_
  have:=hf i K;have g:i<l.size:=by rw[s.1];exact K
  simp only[m,Array.getD,g,mM]at this ⊢;exact this
def tU(a:Act)(l:List (Nat×Value)):Act:=⟨l.foldl (λt x=>t.setIfInBounds x.1 x.2) a.tmps,a.defers⟩
theorem pu:(∀(a:Act)(l:List (Nat×Value)),tU a l=⟨l.foldl (λt x=>t.setIfInBounds x.1 x.2) a.tmps,a.defers⟩)/\
 (∀(f:Array Value->Nat×Value->Array Value)(t:fW),[].foldl f t=t)/\(∀(f:Array Value->Nat×Value->Array Value)(t:fW)(x:Nat×Value)(l:List (Nat×Value)),(x::l).foldl f t=l.foldl f (f t x))/\
 (∀(b:rm)(i j:Nat),tick b i j=if j=i then true else b j)/\(∀n:Nat,0+n=n)/\(∀x y:Value,dD true x y=x)/\(∀x y:Value,dD false x y=y)/\
 (∀(l:iG)(i:Nat)(v:ay),l.toArray.setIfInBounds i v=(l.set i v).toArray)/\(∀(x:ay)(l:iG)(i:Nat)(v:ay),(x::l).set (i+1) v=x::l.set i v)/\(∀(x:ay)(l:iG)(v:ay),(x::l).set 0 v=v::l)/\
 ((0=1)=False)/\((1=0)=False):=
 ⟨λ_ _=>rfl,λ_ _=>rfl,λ_ _ _ _=>rfl,λ_ _ _=>rfl,bD,λ_ _=>rfl,λ_ _=>rfl,λ_ _ _=>by simp,λ_ _ _ _=>rfl,λ_ _ _=>rfl,by simp,by simp⟩
theorem aC.T6{P:aI}{u:aE}{e:b9}{id:Nat}{a:Act}{w:aj}(F:aC P main D Ψ)(S:P.follows .mixedOrders=true)(y:List (List Nat))(R:e.size=n)(V:AR e y=true)(d:(Nat->Bool)->γ->List (Nat×Value))(J:(Nat->Bool)->γ->World->Prop)(Q:γ)(Y:tU a (d (λ_=>false) Q)=a)(s:J (λ_=>false) Q w)(f:∀i,0<=i->i<n->∀(b:rm)(g:γ)(w:aj),J b g w->(∀x,x<n->b x=true->∀j∈y.getD x [],b j=true)->b i=false->(∀j∈y.getD i [],b j=true)->∀rest,((∀x,x<n->x≠i->b x=true)->rest=[])->
 (∀g' w',J (tick b i) g' w'->Ψ (G (u.at (tU a (d (tick b i) g')) (.inRegion e rest::k)) cs) w')->Ψ (G (u.at (tU a (d b g)) (.inRegion e (i::rest)::k)) cs) w)(h:∀b g w,J b g w->(∀i,i<n->b i=true)->Ψ (G (u.at (tU a (d b g)) (.inRegion e []::k)) cs) w):
 Ψ (G (u.at a (.code (.region id e true)::k)) cs) w:=by
 refine F.Mj S y R V (λb a' w=>∃g,a'=tU a (d b g)/\J b g w) ⟨Q,Y.symm,s⟩ (λi X W b a' w O I U T rest z hk=>?_) (λb a' w O l=>?_)
 .obtain⟨g,rfl,s⟩:=O
  exact f i X W b g w s I U T rest z λg' w' K=>hk _ _ ⟨g',rfl,K⟩
 .obtain⟨g,rfl,s⟩:=O
  exact h b g w s l
theorem aC.yT{P:aI}{l:aE}{e:b9}{id:Nat}{a:Act}{w:aj}(F:aC P main D Ψ)(Q:P.follows .mixedOrders=true)(s:List (List Nat))(O:e.size=n)(U:AR e s=true)(d:(Nat->Bool)->γ->List (Nat×Value))(J:(Nat->Bool)->γ->World->Prop)(K:γ)(X:tU a (d (λ_=>false) K)=a)(S:J (λ_=>false) K w)(f:∀i,0<=i->i<n->∀(b:rm)(g:γ)(w:aj),J b g w->(∀x j,(decide (x<n)&&(s.getD x []).contains j)=true->b x=true->b j=true)->b i=false->(∀j,(s.getD i []).contains j=true->b j=true)->∀rest,((∀x,x<n->x≠i->b x=true)->rest=[])->
 (∀g' w',J (tick b i) g' w'->Ψ (G (l.at (tU a (d (tick b i) g')) (.inRegion e rest::k)) cs) w')->Ψ (G (l.at (tU a (d b g)) (.inRegion e (i::rest)::k)) cs) w)(h:∀b g w,J b g w->(∀i,i<n->b i=true)->Ψ (G (l.at (tU a (d b g)) (.inRegion e []::k)) cs) w):
 Ψ (G (l.at a (.code (.region id e true)::k)) cs) w:=
 F.T6 Q s O U d J K X S (λi W V b g w T z I y=>f i W V b g w T (λx j u R=>by
  simp only[cq,decide_eq_true_eq,MH]at u;exact z x u.1 R j u.2) I (λj hj=>y j (by simpa using hj))) h
theorem cQ:prog.underlying 100=some (.slice 128):=by kernel_rfl
theorem kH:∃inf z,prog.info? 128=some inf/\inf.zero=some z/\inf.size=2/\inf.bytes=16/\z.cells.size=2:=⟨_,_,rfl,rfl,rfl,rfl,rfl⟩
end Go.Proofs.YtobagnjnbmgidaaGreatDoor
