import Derived.Test.YtobagnjnbmgidabGreatDoorA6
set_option linter.all false
set_option maxHeartbeats 0
namespace Go.Proofs.YtobagnjnbmgidabGreatDoor
variable{Y a d l:Int}{c m:Nat}{E:Nat->Option Nat}{N J:bU}
variable{nl p t u k w i:Nat}{ly:Nat->ju}{D:Nat->Lm}{V:Ev0}{X':Nat->Int}{I I':bU}{L L':LS}{b:Bk}{ob:Option Bk}{T:Int}
structure Cf where
 a:Nat->Int
 k:Nat
 ob:Option Bk
 T:Int
 u:Int
structure Rs where
 o:Option (Bk×Int)
 u:Int
def mv(nl:Nat)(ly:Nat->ju)(D:Nat->Lm)(q:Cf):Cf:=match q.ob with
 |none=>if q.k=nl then{q with ob:=some (cN (D q.u.toNat)),T:=q.T+(D q.u.toNat).t,u:=q.u+1}
  else if(ly q.k).k=1 then{q with a:=upd q.a q.k 1,k:=q.k+1} else{q with k:=q.k+1}
 |some b=>
  if(ly (q.k-1)).k=1 then
   if b.k≠2\/cE b 2=true\/cE b 5=true then{q with k:=q.k-1}
   else if q.a (q.k-1)=(ly (q.k-1)).a then{q with k:=q.k-1,ob:=some ⟨2,0,⟨7,(q.k-1:Nat),0⟩::b.ch⟩}
   else⟨upd q.a (q.k-1) (q.a (q.k-1)+1),q.k-1+1,none,q.T+(if aI (ly (q.k-1)) (q.a (q.k-1))>0 then aI (ly (q.k-1)) (q.a (q.k-1))else 0),q.u⟩
  else if(ly (q.k-1)).k=2/\b.k=3 then{q with k:=q.k-1,ob:=some (c9 6 (q.k-1:Nat) b.n)}
  else{q with k:=q.k-1}
def co(k:Nat)(a:Nat->Int)(d:Int)(s:Rs):Cf:=match s.o with
 |some x=>⟨a,k,some x.1,x.2,s.u⟩
 |none=>⟨a,k,some (c9 4 k 0),d,s.u⟩
structure EvC(nl:Nat)(ly:Nat->ju)(D:Nat->Lm)(R:Nat->Int->Cf->Rs->Prop):Prop where
 cut:∀{p X q},X<=q.T->R p X q ⟨none,q.u⟩
 fin:∀{p X q b},q.T<X->q.k=p->q.ob=some b->R p X q ⟨some (b,q.T),q.u⟩
 Tn:∀{p X q s r},q.T<X->q.k<nl->(ly q.k).k=6->q.ob=none->R (q.k+1) (min X (q.T+(ly q.k).a)) ⟨λ_=>0,q.k+1,none,q.T,q.u⟩ s->R p X (co q.k q.a (q.T+(ly q.k).a) s) r->R p X q r
 go:∀{p X q r},q.T<X->(q.ob=none->q.k<nl->(ly q.k).k≠6)->(q.ob≠none->q.k≠p)->R p X (mv nl ly D q) r->R p X q r
def Ev(nl:Nat)(ly:Nat->ju)(D:Nat->Lm)(p:Nat)(X:Int)(q:Cf)(r:Rs):Prop:=∀R,EvC nl ly D R->R p X q r
section
variable{X:Int}{q:Cf}{r H s:Rs}
def aaa:EvC nl ly D (Ev nl ly D):=⟨λh R C=>C.cut h,λc b a R C=>C.fin c b a,λc b a d f e R C=>C.Tn c b a d (f R C) (e R C),λc b a d R C=>C.go c b a (d R C)⟩
def Ev.cut(h:X<=q.T):Ev nl ly D p X q ⟨none,q.u⟩:=aaa.cut h
def Ev.Tn(f:q.T<X)(e:q.k<nl)(d:(ly q.k).k=6)(c:q.ob=none)(b:Ev nl ly D (q.k+1) (min X (q.T+(ly q.k).a)) ⟨λ_=>0,q.k+1,none,q.T,q.u⟩ s)(a:Ev nl ly D p X (co q.k q.a (q.T+(ly q.k).a) s) r):Ev nl ly D p X q r:=aaa.Tn f e d c b a
def Ev.fin{b:Bk}(d:q.T<X)(c:q.k=p)(a:q.ob=some b):Ev nl ly D p X q ⟨some (b,q.T),q.u⟩:=aaa.fin d c a
def Ev.go(d:q.T<X)(c:q.ob=none->q.k<nl->(ly q.k).k≠6)(b:q.ob≠none->q.k≠p)(a:Ev nl ly D p X (mv nl ly D q) r):Ev nl ly D p X q r:=aaa.go d c b a
def EvI(nl:Nat)(ly:Nat->ju)(D:Nat->Lm)(p:Nat)(X:Int)(q:Cf)(r:Rs):Prop:=
 (X<=q.T/\r=⟨none,q.u⟩)\/(∃b,q.T<X/\q.k=p/\q.ob=some b/\r=⟨some (b,q.T),q.u⟩)\/
 (∃s,q.T<X/\q.k<nl/\(ly q.k).k=6/\q.ob=none/\Ev nl ly D (q.k+1) (min X (q.T+(ly q.k).a)) ⟨λ_=>0,q.k+1,none,q.T,q.u⟩ s/\Ev nl ly D p X (co q.k q.a (q.T+(ly q.k).a) s) r)\/
 (q.T<X/\(q.ob=none->q.k<nl->(ly q.k).k≠6)/\(q.ob≠none->q.k≠p)/\Ev nl ly D p X (mv nl ly D q) r)
def Ev.inv(h:Ev nl ly D p X q r):EvI nl ly D p X q r:=(h (λp X q r=>Ev nl ly D p X q r/\EvI nl ly D p X q r) ⟨λh=>⟨.cut h,.inl ⟨h,rfl⟩⟩,λc b a=>⟨.fin c b a,.inr (.inl ⟨_,c,b,a,rfl⟩)⟩,λc b a d f e=>⟨.Tn c b a d f.1 e.1,.inr (.inr (.inl ⟨_,c,b,a,d,f.1,e.1⟩))⟩,λc b a d=>⟨.go c b a d.1,.inr (.inr (.inr ⟨c,b,a,d.1⟩))⟩⟩).2
def Ev.det(h:Ev nl ly D p X q r)(f:Ev nl ly D p X q H):r=H:=by
 revert H;refine h (λp X q r=>∀{H},Ev nl ly D p X q H->r=H) ⟨?_,?_,?_,?_⟩
 .intro p X q k H f;rcases f.inv with ⟨_,z⟩|⟨b,z,_⟩|⟨s,z,_⟩|⟨z,_⟩
  .exact z.symm
  all_goals omega
 .intro p X q b k i g H f;rcases f.inv with ⟨z,_⟩|⟨o,e,d,a,c⟩|⟨s,e,d,a,c,_⟩|⟨e,d,a,_⟩
  .omega
  .rw[g]at a;cases a;exact c.symm
  .rw[g]at c;cases c
  .exact absurd i (a (by rw[g];simp))
 .intro p X q s r k i g n j u H f;rcases f.inv with ⟨z,_⟩|⟨o,e,d,a,c⟩|⟨t,e,d,a,c,m,l⟩|⟨e,d,a,_⟩
  .omega
  .rw[n]at a;cases a
  .cases j m;exact u l
  .exact absurd g (d n i)
 .intro p X q r k i g j H f;rcases f.inv with ⟨z,_⟩|⟨o,e,d,a,c⟩|⟨t,e,d,a,c,m,l⟩|⟨e,d,a,c⟩
  .omega
  .exact absurd d (g (by rw[a];simp))
  .exact absurd a (i c d)
  .exact j c
end
def zG(a:Nat->qy):∀n,cj a n=-1->∀j,j<n->(a j).o=true
 |0,h,j,b=>ω
 |n+1,h,j,b=>by
  have:=zG a n;unfold cj at h;grind
def Eu(a:Nat->qy):∀n (i:Nat),cj a n=i->∀j,j<n->(a j).o=false->(a i).a<=(a j).a
 |0,i,h,j,g,b=>ω
 |n+1,i,h,j,g,b=>by
  have:=Eu a n;have c:=rS a n;have f:=zG a n;unfold cj at h;split at h
  .rename_i z;obtain rfl:i=n:=ω
   by_cases e:j=i
   .subst e;exact Int.le_refl _
   .rcases c with c|⟨k,l,d⟩
    .have:=f c j ω;rw[b]at this;cases this
    .have:=this k d j ω b;rw[d]at z;simp only[mY]at z;omega
  .rename_i z;by_cases e:j=n
   .subst e;rw[h]at z;simp only[mY]at z;have:¬((a j).a<(a i).a):=λy=>z ⟨b,.inr y⟩;omega
   .exact this i h j ω b
def nu(a:Nat->qy):∀n (i:Nat),cj a n=i->∀j,j<i->(a j).o=false->(a i).a<(a j).a
 |0,i,h,j,_,_=>by unfold cj at h;omega
 |n+1,i,h,j,c,b=>by
  unfold cj at h;split at h
  .rename_i e;obtain rfl:n=i:=ω
   rcases e.2 with d|d
   .rcases rS a n with z|⟨k,_,z⟩
    .have:=zG a n z j c;rw[b]at this;cases this
    .omega
   .rcases rS a n with z|⟨k,_,z⟩
    .have:=zG a n z j c;rw[b]at this;cases this
    .rw[z,mY]at d;have:=Eu a n k z j c b;omega
  .exact nu a n i h j c b
def Iv(V:Ev0)(K:Nat->Rs->Prop)(X:Nat->Int)(L:LS)(t k:Nat)(ob:Option Bk)(T:Int):Prop:=
 ∀r,Ev V.nl V.ly (aU V (L.tk t).c.toNat) (L.tk t).p (X t) ⟨(L.tk t).a,k,ob,T,L.us (L.tk t).c.toNat⟩ r->K t r
structure Fa(V:Ev0)(K:Nat->Rs->Prop)(X:Nat->Int)(I:bU)(L:LS)(t w u:Nat):Prop where
 f:(L.tk t).f=w
 wl:w<L.wl
 wt:(L.wt w).t=u
 ut:u<t
 x:(L.wt w).x=false
 e:(L.wt w).e=false
 ux:(L.tk u).x=false
 c:(L.tk u).c=(L.tk t).c
 p:(L.tk t).p≠0/\(L.wt w).l=((L.tk t).p-1:Nat)/\(L.tk t).p-1<V.nl/\(V.ly ((L.tk t).p-1)).k=6
 il:I t<L.al
 io:(L.ag (I t)).o=false
 ic:(L.ag (I t)).c=1/\(L.ag (I t)).w=w/\(L.ag (I t)).t=u
 xm:X t=min (X u) (L.ag (I t)).a
 km:∀s r,K t s->Ev V.nl V.ly (aU V (L.tk u).c.toNat) (L.tk u).p (X u) (co ((L.tk t).p-1) (L.tk u).a (L.ag (I t)).a s) r->K u r
 ii:∀i,i<L.al->(L.ag i).t=t->I t<i
def LW(V:Ev0)(L:LS)(t:Nat):Prop:=∃w k:Nat,w<L.wl/\(L.wt w).t=t/\(L.wt w).x=false/\(L.wt w).e=false/\(L.wt w).l=k/\k<V.nl/\(V.ly k).k=6
def DV(V:Ev0)(c:Nat)(r:Rs):Prop:=Ev V.nl V.ly (aU V c) 0 1000000000000 ⟨λ_=>0,0,none,V.st c,0⟩ r
structure En(V:Ev0)(K:Nat->Rs->Prop)(X:Nat->Int)(L:LS)(y:qy):Prop where
 e0:y.c=0->∀t:Nat,y.t=t->(L.tk t).x=false/\(L.tk t).e=false/\(L.tk t).w<0/\y.a<X t/\Iv V K X L t (L.tk t).p none y.a
 e1:y.c=1->∀w:Nat,y.w=w->w<L.wl/\((L.wt w).x=false->(L.wt w).e=false->∀t:Nat,(L.wt w).t=t->(L.tk t).x=false->((L.wt w).l=V.nl->∀y' ch,(L.wt w).b.ch=y'::ch->Iv V K X L t V.nl (some ⟨(L.wt w).b.k,(L.wt w).b.n,ch⟩) y.a)/\∀k:Nat,(L.wt w).l=k->k<V.nl->(V.ly k).k=1->Iv V K X L t (k+1) none y.a)
 e2:y.c=2->∀w:Nat,y.w=w->w<L.wl/\(L.wt w).x=true/\((L.wt w).e=false->∀t:Nat,(L.wt w).t=t->(L.tk t).x=false->∀k:Nat,(L.wt w).l=k->Iv V K X L t k (some (L.wt w).b) y.a)
def Un(V:Ev0)(L:LS):Prop:=∀t u,t<L.tl->u<L.tl->(L.tk t).x=false->(L.tk t).e=false->(L.tk u).x=false->(L.tk u).e=false->(L.tk t).c=(L.tk u).c->¬LW V L t->¬LW V L u->t=u
structure J0(V:Ev0)(K:Nat->Rs->Prop)(X:Nat->Int)(I:bU)(L:LS):Prop where
 nc:V.nc<=L.tl
 ro:∀t,t<V.nc->(L.tk t).c=t/\(L.tk t).p=0/\(L.tk t).x=false/\X t=1000000000000
 rk:∀t,t<V.nc->∀r,K t r->DV V t r
 tp:∀t,V.nc<=t->t<L.tl->(L.tk t).p≠0
 ou:∀c,c<V.nc->(L.tk c).e=true->∃u,K c ⟨some ((L.ou c).b,(L.ou c).a),u⟩
 fa:∀t,V.nc<=t->t<L.tl->(L.tk t).x=false->(L.tk t).e=false->∃w u:Nat,Fa V K X I L t w u
 wo:∀w,w<L.wl->∃u:Nat,(L.wt w).t=u/\u<L.tl
 ww:∀w,w<L.wl->(L.wt w).e=false->∀u:Nat,(L.wt w).t=u->(L.tk u).w=w/\(L.tk u).e=false/\((L.wt w).l<V.nl->(L.tk u).o=w)
 oo:∀t,t<L.tl->∀w:Nat,(L.tk t).o=w->w<L.wl/\(L.wt w).t=t
 ch:∀w,w<L.wl->(L.wt w).x=false->(L.wt w).e=false->∀k:Nat,(L.wt w).l=k->k<V.nl->(V.ly k).k=6->∃j,V.nc<=j/\j<L.tl/\(L.tk j).f=w/\(L.tk j).x=false/\(L.tk j).e=false
 z2:∀w,w<L.wl->(L.wt w).e=false->(L.wt w).l<V.nl->∀u:Nat,(L.wt w).t=u->(L.tk u).x=true->(L.wt w).x=true
 z3:∀w,w<L.wl->(L.wt w).e=false->(L.wt w).x=true->(L.wt w).z=3->∀u:Nat,(L.wt w).t=u->(L.tk u).x=true
 zf:∀t,t<L.tl->(L.tk t).x=true->∀w:Nat,(L.tk t).f=w->w<L.wl/\((L.wt w).x=true\/(L.wt w).e=true)
 ti:∀i,i<L.al->∃t:Nat,(L.ag i).t=t/\t<L.tl
 en:∀i,i<L.al->(L.ag i).o=false->En V K X L (L.ag i)
 un:Un V L
structure Cb(L:LS)(t:Nat):Prop where
 tl:t<L.tl
 w:(L.tk t).w<0
 e:(L.tk t).e=false
 n:∀i,i<L.al->(L.ag i).o=false->(L.ag i).c=0->(L.ag i).t≠t
structure Cu(V:Ev0)(K:Nat->Rs->Prop)(X:Nat->Int)(L:LS)(t k:Nat)(ob:Option Bk):Prop extends Cb L t where
 a:(L.tk t).x=false->L.now<X t/\Iv V K X L t k ob L.now
 z:(L.tk t).x=true->ob≠none
def JA(V:Ev0)(cur:Option (Nat×Nat×Option Bk))(L:LS):Prop:=∃K X I,J0 V K X I L/\∀t k ob,cur=some (t,k,ob)->Cu V K X L t k ob
structure Mq(V:Ev0)(K:Nat->Rs->Prop)(X:Nat->Int)(I:bU)(K':Nat->Rs->Prop)(X':Nat->Int)(I':bU)(t:Nat)(L L':LS):Prop where
 tl:L.tl<=L'.tl
 wl:L.wl<=L'.wl
 al:L.al<=L'.al
 g:∀u,u<L.tl->K' u=K u/\X' u=X u/\I' u=I u
 tk:∀u,u<L.tl->(L'.tk u).c=(L.tk u).c/\(L'.tk u).f=(L.tk u).f/\(L'.tk u).p=(L.tk u).p/\((L.tk u).x=true->(L'.tk u).x=true)/\((L.tk u).e=true->(L'.tk u).e=true)
 tu:∀u,u<L.tl->u≠t->(L'.tk u).e=(L.tk u).e/\(L'.tk u).o=(L.tk u).o/\(L'.tk u).w=(L.tk u).w/\(L'.tk u).a=(L.tk u).a
 to:∀w:Nat,t<L.tl->(L'.tk t).o=w->(L.tk t).o=w\/(L.wl<=w/\w<L'.wl)
 rx:∀u,u<V.nc->(L'.tk u).x=(L.tk u).x
 us:∀u,u<L.tl->u≠t->(L.tk u).x=false->(L.tk u).e=false->¬LW V L u->L'.us (L.tk u).c.toNat=L.us (L.tk u).c.toNat
 ou:∀c,c<V.nc->(L.tk c).e=true->L'.ou c=L.ou c
 oe:∀c,c<V.nc->(L.tk c).e=false->(L'.tk c).e=true->∃u,K c ⟨some ((L'.ou c).b,(L'.ou c).a),u⟩
 wt:∀w,w<L.wl->(L'.wt w).t=(L.wt w).t/\(L'.wt w).l=(L.wt w).l/\((L.wt w).x=true->(L'.wt w).x=true)/\((L.wt w).e=true->(L'.wt w).e=true)
 ws:∀w,w<L.wl->(L'.wt w).e=false->(L.wt w).x=(L'.wt w).x->(L'.wt w).z=(L.wt w).z/\(L'.wt w).b=(L.wt w).b
 wf:∀w,w<L.wl->(L'.wt w).e=false->(L.wt w).x=false->(L'.wt w).x=true->(L'.wt w).z=3->∀u:Nat,(L.wt w).t=u->(L'.tk u).x=true
 nw:∀w,w<L.wl->(L.wt w).t=t->(L'.wt w).e=true
 fo:∀v w u,v<L.tl->(L'.tk v).x=false->(L'.tk v).e=false->Fa V K X I L v w u->(L'.wt w).x=false/\(L'.wt w).e=false/\(L'.tk u).x=false/\u≠t/\L'.ag (I v)=L.ag (I v)
 co:∀w,w<L.wl->(L'.wt w).x=false->(L'.wt w).e=false->∀j,V.nc<=j->j<L.tl->(L.tk j).f=w->(L.tk j).x=false->(L.tk j).e=false->(L'.tk j).x=false/\(L'.tk j).e=false
 z2:∀w,w<L.wl->(L'.wt w).e=false->(L.wt w).l<V.nl->∀u:Nat,(L.wt w).t=u->(L.tk u).x=false->(L'.tk u).x=true->(L'.wt w).x=true
 zf:∀v,v<L.tl->(L.tk v).x=false->(L'.tk v).x=true->∀w:Nat,(L.tk v).f=w->w<L.wl/\((L'.wt w).x=true\/(L'.wt w).e=true)
 ag:∀i,i<L.al->(L'.ag i).a=(L.ag i).a/\(L'.ag i).t=(L.ag i).t/\(L'.ag i).w=(L.ag i).w/\(L'.ag i).c=(L.ag i).c/\((L.ag i).o=true->(L'.ag i).o=true)
 e0:∀i,i<L.al->(L'.ag i).o=false->(L.ag i).c=0->∀v:Nat,(L.ag i).t=v->v<L.tl->(L'.tk v).x=false/\v≠t
 nt:∀v,L.tl<=v->v<L'.tl->(L'.tk v).p≠0/\(L'.tk v).x=false/\(L'.tk v).o<0/\∃w u,Fa V K' X' I' L' v w u
 nv:∀w,L.wl<=w->w<L'.wl->(L'.wt w).t=t/\t<L.tl/\(L'.wt w).x=false/\(L'.tk t).x=false/\(L'.tk t).e=false/\(L'.tk t).w=w/\((L'.wt w).l<V.nl->(L'.tk t).o=w)/\∀k:Nat,(L'.wt w).l=k->k<V.nl->(V.ly k).k=6->∃j,V.nc<=j/\j<L'.tl/\(L'.tk j).f=w/\(L'.tk j).x=false/\(L'.tk j).e=false
 na:∀i,L.al<=i->i<L'.al->(∃v:Nat,(L'.ag i).t=v/\v<L'.tl)/\En V K' X' L' (L'.ag i)
 un:Un V L'
section
variable{K K':Nat->Rs->Prop}{X:Nat->Int}
def Iv.mv(h:Iv V K X L t k ob T)(b:K' t=K t)(a:X' t=X t)(f:(L'.tk t).c=(L.tk t).c)(e:(L'.tk t).p=(L.tk t).p)(d:(L'.tk t).a=(L.tk t).a)(c:L'.us (L.tk t).c.toNat=L.us (L.tk t).c.toNat):Iv V K' X' L' t k ob T:=by
 unfold Iv at*;rw[f,e,d,c,b,a];exact h
def J0.mv(h:J0 V K X I L)(g:Mq V K X I K' X' I' t L L'):J0 V K' X' I' L':=by
 have I:=g.tl;have I:=g.wl;have I:=g.al;have I:=h.nc;have op:∀w,w<L.wl->(L'.wt w).e=false->∃u:Nat,(L.wt w).t=u/\(L'.wt w).t=u/\u<L.tl/\u≠t/\(L.wt w).e=false/\(L.tk u).w=w/\(L.tk u).e=false/\((L.wt w).l<V.nl->(L.tk u).o=w):=λw b d=>by
  let⟨u,S,u2⟩:=h.wo w b;have g4:=g.wt w b
  have e1:(L.wt w).e=false:=by cases e:(L.wt w).e with
   |false=>rfl
   |true=>rw[g4.2.2.2 e]at d;cases d
  refine⟨u,S,g4.1.trans S,u2,λz=>?_,e1,h.ww w b e1 u S⟩;rw[g.nw w b (by rw[S,z])]at d;cases d
 have O:∀u,u<L.tl->(L'.tk u).x=false->(L.tk u).x=false:=λu A a=>by cases e:(L.tk u).x with
  |false=>rfl
  |true=>rw[(g.tk u A).2.2.2.1 e]at a;cases a
 have ef:∀u,u<L.tl->(L'.tk u).e=false->(L.tk u).e=false:=λu A a=>by cases e:(L.tk u).e with
  |false=>rfl
  |true=>rw[(g.tk u A).2.2.2.2 e]at a;cases a
 have wx:∀w,w<L.wl->(L'.wt w).x=false->(L.wt w).x=false:=λw b a=>by cases e:(L.wt w).x with
  |false=>rfl
  |true=>rw[(g.wt w b).2.2.1 e]at a;cases a
 have iv:∀u k ob T,u<L.tl->u≠t->(L.tk u).x=false->(L.tk u).e=false->¬LW V L u->Iv V K X L u k ob T->Iv V K' X' L' u k ob T:=λu k ob T A ht a d q W=>by
  have z:=g.tk u A;exact W.mv (g.g u A).1 (g.g u A).2.1 z.1 z.2.2.1 (g.tu u A ht).2.2.2 (g.us u A ht a d q)
 refine⟨ω,λv f=>?_,λv f r hr=>?_,λv f q=>?_,λc s d=>?_,λv f q a d=>?_,λw b=>?_,λw b d u A=>?_,λv f w b=>?_,λw b a d k U Z hk6=>?_,λw b d q u A a=>?_,λw b d a hz u A=>?_,λv f a w b=>?_,λi W=>?_,λi W ho=>?_,g.un⟩
 .have z:=g.tk v ω;rw[z.1,z.2.2.1,g.rx v f,(g.g v ω).2.1];exact h.ro v f
 .rw[(g.g v ω).1]at hr;exact h.rk v f r hr
 .by_cases e:v<L.tl
  .rw[(g.tk v e).2.2.1];exact h.tp v f e
  .exact(g.nt v ω q).1
 .rw[(g.g c ω).1];cases e:(L.tk c).e with
  |true=>rw[g.ou c s e];exact h.ou c s e
  |false=>exact g.oe c s e d
 .by_cases e:v<L.tl
  .let⟨w,u,F⟩:=h.fa v f e (O v e a) (ef v e d);let⟨p1,X,V,c,A⟩:=g.fo v w u e a d F;have r:=g.tk v e;let⟨f1,f2,f3,f4,f5,f6,f7,f9,f10,f11,f12,f13,f14,f15,f16⟩:=F;have I:=g.tk u ω;have T:=g.tu u ω c;have K:=g.wt w f2;have c:=g.g v e;have F:=g.g u ω;refine⟨w,u,by rw[r.2.1];exact f1,ω,by rw[K.1];exact f3,f4,p1,X,V,by rw[I.1,r.1];exact f9,by rw[r.2.2.1,K.2.1];exact f10,by rw[c.2.2];omega,by rw[c.2.2,A];exact f12,by rw[c.2.2,A];exact f13,by rw[c.2.1,F.2.1,c.2.2,A];exact f14,by rw[c.1,F.1,F.2.1,c.2.2,A,I.1,I.2.2.1,T.2.2.2,r.2.2.1];exact f15,λi W ht=>?_⟩;rw[c.2.2];by_cases e2:i<L.al
   .exact f16 i e2 ((g.ag i e2).2.1▸ht)
   .omega
  .exact(g.nt v ω q).2.2.2
 .by_cases e:w<L.wl
  .let⟨u,S,u2⟩:=h.wo w e;exact⟨u,by rw[(g.wt w e).1];exact S,ω⟩
  .have:=g.nv w ω b;exact⟨t,this.1,ω⟩
 .by_cases e:w<L.wl
  .let⟨v,n,R,l,G,D,Q,E,P⟩:=op w e d;obtain rfl:v=u:=ω
   have z:=g.tu v l G;rw[z.1,z.2.1,z.2.2.1,(g.wt w e).2.1];exact⟨Q,E,P⟩
  .have z:=g.nv w ω b;obtain rfl:t=u:=ω
   exact⟨z.2.2.2.2.2.1,z.2.2.2.2.1,z.2.2.2.2.2.2.1⟩
 .by_cases e:v<L.tl
  .have old:(L.tk v).o=w->w<L'.wl/\(L'.wt w).t=v:=λz=>by
    have:=h.oo v e w z;exact⟨ω,by rw[(g.wt w this.1).1];exact this.2⟩
   by_cases e2:v=t
   .subst e2;rcases g.to w e b with z|⟨B,x⟩
    .exact old z
    .exact⟨x,(g.nv w B x).1⟩
   .exact old ((g.tu v e e2).2.1▸b)
  .have:=(g.nt v ω f).2.2.1;omega
 .by_cases e:w<L.wl
  .let⟨v,n,R,l,G,D,Q,E,P⟩:=op w e d;let⟨j,A,r,c,I,F⟩:=h.ch w e (wx w e a) D k (by rw[<-(g.wt w e).2.1];exact U) Z hk6;have:=g.co w e a d j A r c I F;exact⟨j,A,ω,by rw[(g.tk j r).2.1];exact c,this⟩
  .exact(g.nv w ω b).2.2.2.2.2.2.2 k U Z hk6
 .by_cases e:w<L.wl
  .let⟨v,n,R,l,G,D,Q,E,P⟩:=op w e d;obtain rfl:v=u:=ω
   rw[(g.wt w e).2.1]at q;cases ex:(L.tk v).x with
   |true=>exact(g.wt w e).2.2.1 (h.z2 w e D q v n ex)
   |false=>exact g.z2 w e d q v n ex a
  .have z:=g.nv w ω b;obtain rfl:t=u:=ω
   rw[z.2.2.2.1]at a;cases a
 .by_cases e:w<L.wl
  .let⟨v,n,R,l,G,D,Q,E,P⟩:=op w e d;obtain rfl:v=u:=ω
   cases ex:(L.wt w).x with
   |true=>exact(g.tk v l).2.2.2.1 (h.z3 w e D ex (by rw[<-(g.ws w e d (ex.trans a.symm)).1];exact hz) v n)
   |false=>exact g.wf w e d ex a hz v n
  .have z:=g.nv w ω b;rw[z.2.2.1]at a;cases a
 .by_cases e:v<L.tl
  .rw[(g.tk v e).2.1]at b;cases ex:(L.tk v).x with
   |true=>
    have z:=h.zf v e ex w b;exact⟨ω,z.2.imp (g.wt w z.1).2.2.1 (g.wt w z.1).2.2.2⟩
   |false=>
    have z:=g.zf v e ex a w b;exact⟨ω,z.2⟩
  .have:=(g.nt v ω f).2.1;rw[this]at a;cases a
 .by_cases e:i<L.al
  .let⟨v,n,R⟩:=h.ti i e;exact⟨v,by rw[(g.ag i e).2.1];exact n,ω⟩
  .exact(g.na i ω W).1
 .by_cases e:i<L.al
  .let⟨a1,a2,a3,a4,a5⟩:=g.ag i e
   have Qx:(L.ag i).o=false:=by cases eo:(L.ag i).o with
    |false=>rfl
    |true=>rw[a5 eo]at ho;cases ho
   let⟨n0,n1,n2⟩:=h.en i e Qx;let⟨M,c,b2⟩:=h.ti i e;constructor
   .intro s v f;rw[a4]at s;rw[a2]at f;obtain rfl:M=v:=ω
    let⟨C,Y,c3,j,c⟩:=n0 s M f;let⟨d1,d2⟩:=g.e0 i e ho s M f b2;have z:=g.tu M b2 d2;rw[z.1,z.2.2.1,a1,(g.g M b2).2.1,(g.tk M b2).2.2.1];refine⟨d1,Y,c3,j,iv _ _ _ _ b2 d2 C Y (fun⟨w,k,B,x,J,H,_⟩=>?_) c⟩;have:=(h.ww w B H M x).1;omega
   .intro s w b;rw[a4]at s;rw[a3]at b;let⟨C,Y⟩:=n1 s w b;refine⟨ω,λa d v f p=>?_⟩;let⟨o,n,R,l,G,D,Q,E,P⟩:=op w C d;obtain rfl:o=v:=ω
    have c:=wx w C a;let⟨_,s2⟩:=g.ws w C d (c.trans a.symm);let⟨d1,d2⟩:=Y c D o n (O o l p);have same:∀m N:Nat,m<L.wl->(L.wt m).t=o->(L.wt m).e=false->m=w:=λm N B x J=>by
     have:=(h.ww m B J o x).1;omega
    rw[s2,a1,(g.wt w C).2.1];refine⟨λq y ch c=>iv _ _ _ _ l G (O o l p) E (fun⟨m,N,B,x,J,H,z5,z6,z7⟩=>?_) (d1 q y ch c),λk q U c=>iv _ _ _ _ l G (O o l p) E (fun⟨m,N,B,x,J,H,z5,z6,z7⟩=>?_) (d2 k q U c)⟩
    .obtain rfl:=same m N B x H;omega
    .obtain rfl:=same m N B x H;obtain rfl:N=k:=ω
     omega
   .intro s w b;rw[a4]at s;rw[a3]at b;let⟨C,c3,Y⟩:=n2 s w b;have x1:=(g.wt w C).2.2.1 c3;refine⟨ω,x1,λd v f p k U=>?_⟩;let⟨o,n,R,l,G,D,Q,E,P⟩:=op w C d;obtain rfl:o=v:=ω
    let⟨_,s2⟩:=g.ws w C d (c3.trans x1.symm);rw[s2,a1];refine iv _ _ _ _ l G (O o l p) E (fun⟨m,N,B,x,J,H,z5,z6,z7⟩=>?_) (Y D o n (O o l p) k ((g.wt w C).2.1▸U));have:=(h.ww m B H o x).1;obtain rfl:m=w:=ω
    rw[c3]at J;cases J
  .exact(g.na i ω W).2
end
section
variable{K K':Nat->Rs->Prop}{X:Nat->Int}
def Un.mv(h:Un V L)(k:L'.tl=L.tl)(e:∀v,v<L.tl->(L'.tk v).x=false->(L'.tk v).e=false->(L.tk v).x=false/\(L.tk v).e=false/\(L'.tk v).c=(L.tk v).c/\(¬LW V L' v->¬LW V L v)):Un V L':=by
 intro v u c d g n f m l j i;rw[k]at c d;have a:=e v c g n;have b:=e u d f m;exact h v u c d a.1 a.2.1 b.1 b.2.1 (by rw[<-a.2.2.1,<-b.2.2.1];exact l) (a.2.2.2 j) (b.2.2.2 i)
def J0.nof(h:J0 V K X I L)(a:(L.tk t).w<0){v:Nat}(F:Fa V K X I L v w u):u≠t:=λz=>by
 subst z;have:=(h.ww w F.wl F.e u F.wt).1;omega
def J0.nlw(h:J0 V K X I L)(a:(L.tk t).w<0):¬LW V L t:=by
 rintro ⟨v,_,c,b,a,a,_⟩;have:=(h.ww v c a t b).1;omega
def J0.own{f g:Nat->Int}{o:Nat->Se}{d:Bool}(h:J0 V K X I L)(C:Cb L t)(P:g=L.us\/((L.tk t).x=false/\∀u,u<L.tl->(L.tk u).c≠(L.tk t).c->g (L.tk u).c.toNat=L.us (L.tk u).c.toNat))(m:∀c,c≠t->o c=L.ou c)(H:d=true->(V.nc<=t->(L.tk t).x=true)/\(t<V.nc->∃u,K t ⟨some ((o t).b,(o t).a),u⟩)):
 J0 V K X I {L with tk:=upd L.tk t {L.tk t with a:=f,e:=d},us:=g,ou:=o}:=by
 have f:=C.tl;have p:=C.w;have G:=C.e;have N:=C.n;have x:=λw=>h.ww w;have l:=λv w u (F:Fa V K X I L v w u)=>h.nof p F;have f:=h.ti;have Q:=λi r m=>(h.en i r m).e0;have n:=h.nlw p;have f:∀w,w<L.wl->(L.wt w).t=t->(L.wt w).e=true:=λw p z=>by
  cases e:(L.wt w).e with
  |true=>rfl
  |false=>have:=(x w p e t z).1;omega
 refine h.mv (t:=t) (K':=K) (X':=X) (I':=I) ?_;constructor
 case us=>
  intro u E B A k O;rcases P with rfl|⟨S,R⟩
  .rfl
  .exact R u E λf=>B (h.un u t E C.tl A k S G f O n)
 case un=>
  refine h.un.mv rfl λv q=>?_;simp only[upd];split
  .subst_vars;exact λa _=>⟨a,G,rfl,λ_=>n⟩
  .exact λa b=>⟨a,b,rfl,id⟩
 case fo=>
  intro v w u q A k F;have:=l v w u F;refine⟨F.x,F.e,?_,this,rfl⟩;simp[upd,this,F.ux]
 case oe=>
  intro c s T D;by_cases e:c=t
  .subst e;simp only[upd]at D;exact(H (by simpa using D)).2 s
  .simp[upd,e,T]at D
 case e0=>
  intro i r m s v q a;have e:v≠t:=λz=>N i r m s (by rw[<-z];exact q);simp[upd,e,(Q i r m s v q).1]
 case nt=>intro v x l;exact absurd l (by show¬v<L.tl;omega)
 case nv=>intro v x l;exact absurd l (by show¬v<L.wl;omega)
 case na=>intro v x l;exact absurd l (by show¬v<L.al;omega)
 case co=>
  intro w a A k j M a a y J;simp only[upd];split
  .subst_vars;refine⟨y,?_⟩;cases d with
   |false=>rfl
   |true=>have:=(H rfl).1 M;rw[y]at this;cases this
  .exact⟨y,J⟩
 all_goals (simp only[upd];grind)
def J0.cB{cb:Bool}(h:J0 V K X I L)(C:Cb L t)(q:(L.tk t).x=false)(s:(l=V.nl/\cb=false)\/∃k:Nat,l=k/\k<V.nl/\(V.ly k).k=1/\cb=true)(c:(l=V.nl->∀y ch,b.ch=y::ch->Iv V K X L t V.nl (some ⟨b.k,b.n,ch⟩) (L.now+d))/\∀k:Nat,l=k->k<V.nl->(V.ly k).k=1->Iv V K X L t (k+1) none (L.now+d)):
 J0 V K X I {L with wl:=L.wl+1,wt:=upd L.wt L.wl ⟨t,l,false,false,b,0,0⟩,tk:=upd L.tk t {L.tk t with w:=L.wl,o:=if cb=true then(L.wl:Int)else(L.tk t).o},al:=L.al+1,ag:=upd L.ag L.al ⟨L.now+d,t,L.wl,1,false⟩}:=by
 have r:=C.tl;have n:=C.w;have D:=C.e;have A:=C.n;have o:=λw=>h.ww w;have f:=λv w u (F:Fa V K X I L v w u)=>h.nof n F;have B:=h.ti;have E:=λi c m=>(h.en i c m).e0;have B:=h.nlw n;have B:∀w,w<L.wl->(L.wt w).t=t->(L.wt w).e=true:=λw n z=>by
  cases e:(L.wt w).e with
  |true=>rfl
  |false=>have:=(o w n e t z).1;omega
 refine h.mv (t:=t) (K':=K) (X':=X) (I':=I) ?_;constructor
 case un=>
  refine h.un.mv rfl λv g=>?_;have:∀v,LW V L v->LW V {L with wl:=L.wl+1,wt:=upd L.wt L.wl ⟨t,l,false,false,b,0,0⟩,tk:=upd L.tk t {L.tk t with w:=L.wl,o:=if cb=true then(L.wl:Int)else(L.tk t).o},al:=L.al+1,ag:=upd L.ag L.al ⟨L.now+d,t,L.wl,1,false⟩} v:=λv ⟨w,k,x,z⟩=>⟨w,k,by show w<L.wl+1;omega,by simp only[upd,af (show¬w=L.wl by omega)];exact z⟩
  simp only[upd]at this ⊢;split
  .subst_vars;exact λa b=>⟨a,b,rfl,λz y=>z (this _ y)⟩
  .exact λa b=>⟨a,b,rfl,λz y=>z (this _ y)⟩
 case fo=>
  intro v w u g q a F;have:=f v w u F;have f1:=F.wl;have f2:=F.il;refine⟨?_,?_,?_,this,?_⟩
  .simp only[upd,af (show¬w=L.wl by omega)];exact F.x
  .simp only[upd,af (show¬w=L.wl by omega)];exact F.e
  .simp[upd,this,F.ux]
  .simp only[upd,af (show¬I v=L.al by omega)]
 case e0=>
  intro i c m a v g b;simp only[upd,af (show¬i=L.al by omega)]at m;have e:v≠t:=λz=>A i c m a (by rw[<-z];exact g);simp[upd,e,(E i c m a v g).1]
 case nt=>intro v o f;exact absurd f (by show¬v<L.tl;omega)
 case nv=>
  intro v o f;obtain rfl:v=L.wl:=by have:v<L.wl+1:=f;omega
  refine⟨by simp[upd],r,by simp[upd],by simp[upd,q],by simp[upd,D],by simp[upd],?_,?_⟩
  .simp only[upd,if_true];rcases s with ⟨b,a⟩|⟨d,b,a,l,h⟩
   .intro z;omega
   .simp[h]
  .simp only[upd,if_true];intro d x i i;exfalso;rcases s with ⟨b,a⟩|⟨i,b,a,l,h⟩
   .omega
   .obtain rfl:d=i:=ω
    omega
 case na=>
  intro j o f;obtain rfl:j=L.al:=by have:j<L.al+1:=f;omega
  simp only[upd,if_true];refine⟨⟨t,rfl,r⟩,⟨λz=>(by cases z),λ_ w p=>?_,λz=>(by cases z)⟩⟩;obtain rfl:L.wl=w:=by have:(L.wl:Int)=w:=p;omega
  refine⟨by show L.wl<L.wl+1;omega,λ_ _ v g _=>?_⟩;simp only[upd,if_true]at g ⊢;obtain rfl:t=v:=ω
  refine⟨λe y ch a=>(c.1 e y ch a).mv rfl rfl ?_ ?_ ?_ rfl,λk e b a=>(c.2 k e b a).mv rfl rfl ?_ ?_ ?_ rfl⟩<;>simp[upd]
 all_goals (simp only[upd];grind)
end
section
variable{K K':Nat->Rs->Prop}{X:Nat->Int}
def kL(V:Ev0)(K:Nat->Rs->Prop)(X:Nat->Int)(L:LS)(t k:Nat)(d:Int)(s:Rs):Prop:=∀r,Ev V.nl V.ly (aU V (L.tk t).c.toNat) (L.tk t).p (X t) (co k (L.tk t).a d s) r->K t r
def J0.Tn{A:Int}(h:J0 V K X I L)(C:Cu V K X L t k none)(d:(L.tk t).x=false)(U:k<V.nl)(f:(V.ly k).k=6)(hA:A=(V.ly k).a)(TG:1<=A):
 J0 V (upd K L.tl (kL V K X L t k (L.now+A))) (upd X L.tl (min (X t) (L.now+A))) (upd I L.tl L.al) ((L.wait t k A true).begin t L.wl k):=by
 have J:=C.tl;have G:=C.w;have Y:=C.e;have hn:=C.n;have S:=(C.a d).1;have M:=λw=>h.ww w;have l:=λv w u (F:Fa V K X I L v w u)=>h.nof G F;have h3:=h.ti;have h4:=λi o q=>(h.en i o q).e0;have x:=h.nlw G;have T:=h.nc;have K:∀w,w<L.wl->(L.wt w).t=t->(L.wt w).e=true:=λw G z=>by
  cases e:(L.wt w).e with
  |true=>rfl
  |false=>have:=(M w G e t z).1;omega
 have W:=(C.a d).2;have b:¬t=L.tl:=ω
 have C:¬L.tl=t:=ω
 have C:=h.wo;refine h.mv (t:=t) ?_;constructor
 case un=>
  have K:∀v,LW V L v->LW V ((L.wait t k A true).begin t L.wl k) v:=λv ⟨w,Q,C,z⟩=>⟨w,Q,by show w<L.wl+1;omega,by simp only[LS.wait,LS.cB,LS.put,LS.begin,upd,af (show¬w=L.wl by omega)];exact z⟩
  have G:LW V ((L.wait t k A true).begin t L.wl k) t:=⟨L.wl,k,by show L.wl<L.wl+1;omega,by simp[LS.wait,LS.cB,LS.put,LS.begin,upd,U,f]⟩;have nt:∀v,v<L.tl->¬LW V ((L.wait t k A true).begin t L.wl k) v->v≠t/\¬LW V L v:=λv c C=>⟨λz=>C (z▸G),λz=>C (K v z)⟩
  have p:∀v,v<L.tl->v≠t->(((L.wait t k A true).begin t L.wl k).tk v)=L.tk v:=λv c C=>by
   simp[LS.wait,LS.cB,LS.put,LS.begin,upd,C,show¬v=L.tl by omega]
  have B:(((L.wait t k A true).begin t L.wl k).tk L.tl).c=(L.tk t).c:=by
   simp[LS.wait,LS.cB,LS.put,LS.begin,upd]
  intro v u c K P D E m a C l2;have G:v<L.tl+1:=c;have G:u<L.tl+1:=K;by_cases O:v<L.tl
  .let⟨b1,b2⟩:=nt v O C;rw[p v O b1]at P D a;by_cases n:u<L.tl
   .let⟨N,Z⟩:=nt u n l2;rw[p u n N]at E m a;exact h.un v u O n P D E m a b2 Z
   .obtain rfl:u=L.tl:=ω
    rw[B]at a;exact absurd (h.un v t O J P D d Y a b2 x) b1
  .obtain rfl:v=L.tl:=ω
   by_cases n:u<L.tl
   .let⟨N,Z⟩:=nt u n l2;rw[p u n N]at E m a;rw[B]at a;exact absurd (h.un u t n J E m d Y a.symm Z x) N
   .omega
 case fo=>
  intro v w u c d h F;have:=l v w u F;have f1:=F.wl;have f2:=F.il;have f3:=F.ut;refine⟨?_,?_,?_,this,?_⟩
  .simp only[LS.wait,LS.cB,LS.put,LS.begin,upd,af (show¬w=L.wl by omega)];exact F.x
  .simp only[LS.wait,LS.cB,LS.put,LS.begin,upd,af (show¬w=L.wl by omega)];exact F.e
  .simp[LS.wait,LS.cB,LS.put,LS.begin,upd,this,F.ux,show¬u=L.tl by omega]
  .simp only[LS.wait,LS.cB,LS.put,LS.begin,upd,af (show¬I v=L.al by omega),af (show¬I v=L.al+1 by omega)]
 case e0=>
  intro i o q p v c h;simp only[LS.wait,LS.cB,LS.put,LS.begin,upd,af (show¬i=L.al by omega),af (show¬i=L.al+1 by omega)]at q;have e:v≠t:=λz=>hn i o q p (by rw[<-z];exact c);simp[LS.wait,LS.cB,LS.put,LS.begin,upd,e,(h4 i o q p v c).1,show¬v=L.tl by omega]
 case nt=>
  intro v M l;obtain rfl:v=L.tl:=by have:v<L.tl+1:=l;omega
  refine⟨by simp[LS.wait,LS.cB,LS.put,LS.begin,upd],by simp[LS.wait,LS.cB,LS.put,LS.begin,upd],by simp[LS.wait,LS.cB,LS.put,LS.begin,upd],L.wl,t,?_⟩;constructor
  case km=>
   intro s r;simp only[LS.wait,LS.cB,LS.put,LS.begin,upd,if_true,af b,show¬L.al=L.al+1 by omega,if_false];exact λz y=>z r y
  case ii=>
   intro i o;have h:i<L.al+1+1:=o;simp only[LS.wait,LS.cB,LS.put,LS.begin,upd,if_true];by_cases D:i=L.al+1
   .omega
   .by_cases m:i=L.al
    .subst m;simp only[show¬L.al=L.al+1 by omega,if_false,if_true];intro z;omega
    .simp only[D,m,if_false];let⟨v,_,h⟩:=h3 i ω;intro z;omega
  all_goals (simp[LS.wait,LS.cB,LS.put,LS.begin,upd,b,d,U,f,J,show¬L.al=L.al+1 by omega]<;>omega)
 case nv=>
  intro v M l;obtain rfl:v=L.wl:=by have:v<L.wl+1:=l;omega
  refine⟨by simp[LS.wait,LS.cB,LS.put,LS.begin,upd],J,by simp[LS.wait,LS.cB,LS.put,LS.begin,upd],by simp[LS.wait,LS.cB,LS.put,LS.begin,upd,b,d],by simp[LS.wait,LS.cB,LS.put,LS.begin,upd,b,Y],by simp[LS.wait,LS.cB,LS.put,LS.begin,upd,b],by simp[LS.wait,LS.cB,LS.put,LS.begin,upd,b],λ_ _ _ _=>⟨L.tl,T,by show L.tl<L.tl+1;omega,?_⟩⟩;simp[LS.wait,LS.cB,LS.put,LS.begin,upd]
 case na=>
  intro j M l;have d:j<L.al+1+1:=l;by_cases ej:j=L.al
  .subst ej;have:((L.wait t k A true).begin t L.wl k).ag L.al=⟨L.now+A,t,L.wl,1,false⟩:=by simp[LS.wait,LS.cB,LS.put,LS.begin,upd,show¬L.al=L.al+1 by omega]
   rw[this];refine⟨⟨t,rfl,by show t<L.tl+1;omega⟩,⟨λz=>(by cases z),λ_ w R=>?_,λz=>(by cases z)⟩⟩;obtain rfl:L.wl=w:=by have:(L.wl:Int)=w:=R;omega
   refine⟨by show L.wl<L.wl+1;omega,λ_ _ v c _=>⟨λe=>?_,λQ e d d=>?_⟩⟩
   .simp[LS.wait,LS.cB,LS.put,LS.begin,upd]at e;omega
   .simp[LS.wait,LS.cB,LS.put,LS.begin,upd]at e;obtain rfl:k=Q:=ω
    omega
  .obtain rfl:j=L.al+1:=ω
   have:((L.wait t k A true).begin t L.wl k).ag (L.al+1)=⟨L.now,L.tl,0,0,false⟩:=by simp[LS.wait,LS.cB,LS.put,LS.begin,upd]
   rw[this];refine⟨⟨L.tl,rfl,by show L.tl<L.tl+1;omega⟩,⟨λ_ v c=>?_,λz=>(by cases z),λz=>(by cases z)⟩⟩;obtain rfl:L.tl=v:=by have:(L.tl:Int)=v:=c;omega
   refine⟨by simp[LS.wait,LS.cB,LS.put,LS.begin,upd],by simp[LS.wait,LS.cB,LS.put,LS.begin,upd],by simp[LS.wait,LS.cB,LS.put,LS.begin,upd],?_,?_⟩
   .simp only[upd,if_true];show L.now<_;omega
   .intro r hr;simp only[LS.wait,LS.cB,LS.put,LS.begin,upd,if_true,af b]at hr ⊢;intro H b;refine W H (.Tn S U f rfl (s:=r) ?_ ?_)
    .simp only[<-hA];exact hr
    .simp only[<-hA];exact b
 case g=>intro v c;simp only[upd,af (show¬v=L.tl by omega)];exact⟨trivial,trivial,trivial⟩
 all_goals (simp only[LS.wait,LS.cB,LS.put,LS.begin,upd];grind)
def J0.abd(h:J0 V K X I L)(C:Cu V K X L t (L.tk t).p (some b))(G:(L.tk t).x=false)(F:Fa V K X I L t w u)(O:∀v,v<L.tl->(L.tk v).f=w->v=t):J0 V K X I ((L.fix w 2 b).done t):=by
 have ht:=C.tl;have y:=C.w;have he:=C.e;have hn:=C.n;have J:=(C.a G).1;have B:=λw=>h.ww w;have g:=λv w u (F:Fa V K X I L v w u)=>h.nof y F;have h3:=h.ti;have h4:=λi A q=>(h.en i A q).e0;have M:=h.nlw y;have h5:∀w,w<L.wl->(L.wt w).t=t->(L.wt w).e=true:=λw y z=>by
  cases e:(L.wt w).e with
  |true=>rfl
  |false=>have:=(B w y e t z).1;omega
 have H:=g t w u F;have y:V.nc<=t:=by
  by_cases e:t<V.nc
  .have:=(h.ro t e).2.1;have:=F.p.1;omega
  .omega
 have f1:=F.f;have f2:=F.wl;have f3:=F.wt;have f4:=F.x;have f5:=F.e;have f6:=F.ut;refine h.mv (t:=t) (K':=K) (X':=X) (I':=I) ?_;constructor
 case un=>
  have Q:∀v,v≠u->LW V L v->LW V ((L.fix w 2 b).done t) v:=λv c ⟨f,K,y,z2,z⟩=>⟨f,K,y,by
   have:¬f=w:=λe=>c (by subst e;omega);simp only[LS.fix,LS.put,LS.done,upd,af this];exact⟨z2,z⟩⟩
  have key:∀v,v<L.tl->(((L.fix w 2 b).done t).tk v).x=false->(((L.fix w 2 b).done t).tk v).e=false->v≠t/\(L.tk v).x=false/\(L.tk v).e=false/\(((L.fix w 2 b).done t).tk v).c=(L.tk v).c:=λv c=>by
   simp only[LS.fix,LS.put,LS.done,upd];split
   .intro _ z;cases z
   .exact λa b=>⟨by assumption,a,b,rfl⟩
  have p:∀v,v<L.tl->v≠t->(L.tk v).x=false->(L.tk v).e=false->v≠u->¬LW V ((L.fix w 2 b).done t) v->(L.tk v).c≠(L.tk t).c:=λv R E D a V K y=>E (h.un v t R ht D a G he y (λz=>K (Q v V z)) M);intro v m c l K x y n d T S;let⟨R,E,D,a⟩:=key v c K x;let⟨b1,b2,Z,K⟩:=key m l y n;rw[a,K]at d;have s:=F.c;by_cases x:v=u
  .by_cases n:m=u
   .omega
   .subst x;exact absurd (d.symm.trans s) (p m l b1 b2 Z n S)
  .by_cases n:m=u
   .subst n;exact absurd (d.trans s) (p v c R E D x T)
   .exact h.un v m c l E D b2 Z d (λz=>T (Q v x z)) (λz=>S (Q m n z))
 case fo=>
  intro v f a c h P o;have Y:=g v f a o;have g1:v≠t:=λz=>by subst z;simp[LS.done,upd]at P
  have a:¬f=w:=λz=>g1 (O v c (by rw[<-z];exact o.f));have h:=o.il;refine⟨?_,?_,?_,Y,?_⟩
  .simp only[LS.fix,LS.put,LS.done,upd,af a];exact o.x
  .simp only[LS.fix,LS.put,LS.done,upd,af a];exact o.e
  .simp[LS.fix,LS.put,LS.done,upd,Y,o.ux]
  .simp only[LS.fix,LS.put,LS.done,upd,af (show¬I v=L.al by omega)]
 case nt=>intro v B g;exact absurd g (by show¬v<L.tl;omega)
 case nv=>intro v B g;exact absurd g (by show¬v<L.wl;omega)
 case e0=>
  intro i A q s v c a;simp only[LS.fix,LS.put,LS.done,upd,af (show¬i=L.al by omega)]at q;have e:v≠t:=λz=>hn i A q s (by rw[<-z];exact c);simp[LS.fix,LS.put,LS.done,upd,e,(h4 i A q s v c).1]
 case na=>
  intro j B g;obtain rfl:j=L.al:=by have:j<L.al+1:=g;omega
  have:((L.fix w 2 b).done t).ag L.al=⟨L.now,u,w,2,false⟩:=by simp[LS.fix,LS.put,LS.done,upd,f3]
  rw[this];refine⟨⟨u,rfl,by show u<L.tl;omega⟩,⟨λz=>(by cases z),λz=>(by cases z),λ_ f a=>?_⟩⟩;obtain rfl:w=f:=by have:(w:Int)=f:=a;omega
  have a:((L.fix w 2 b).done t).wt w={L.wt w with x:=true,z:=2,b:=b}:=by simp[LS.fix,LS.put,LS.done,upd]
  refine⟨f2,by rw[a],λ_ v c _ k W=>?_⟩;rw[a]at c W ⊢;obtain rfl:u=v:=by have:(L.wt w).t=v:=c;omega
  have N:k=(L.tk t).p-1:=by have:=F.p.2.1;have:(L.wt w).l=k:=W;omega
  subst N;intro r U;have a:((L.fix w 2 b).done t).tk u=L.tk u:=by simp[LS.fix,LS.put,LS.done,upd,H]
  rw[a]at U;refine F.km ⟨some (b,L.now),L.us (L.tk t).c.toNat⟩ r ((C.a G).2 _ (.fin J rfl rfl)) ?_;rw[<-F.c];exact U
 all_goals (simp only[LS.fix,LS.put,LS.done,upd];grind)
def J0.pop(h:J0 V K X I L)(c:i<L.al)(e:∀v w u,Fa V K X I L v w u->I v≠i):J0 V K X I (L.pop i):=by
 have d:=h.ti;have d:=λi c d=>(h.en i c d).e0;have c:=h.wo;refine h.mv (t:=L.tl) (K':=K) (X':=X) (I':=I) ?_;constructor
 case un=>exact h.un.mv rfl λv c a b=>⟨a,b,rfl,id⟩
 case fo=>
  intro v w u c a a F;have:=F.ut;refine⟨F.x,F.e,F.ux,ω,?_⟩;simp only[LS.pop,upd,af (e v w u F)]
 case nt=>intro v b a;exact absurd a (by show¬v<L.tl;omega)
 case nv=>intro v b a;exact absurd a (by show¬v<L.wl;omega)
 case na=>intro v b a;exact absurd a (by show¬v<L.al;omega)
 all_goals (simp only[LS.pop,upd];grind)
def J0.JB(h:J0 V K X I L)(q:i<L.al)(m:t<L.tl)(E:w<L.wl)(m:(L.wt w).t=t)(G:(L.wt w).e=false)(D:(L.ag i).w=w)(r:(L.wt w).x=true\/∀k:Nat,(L.wt w).l=k->k<V.nl->(V.ly k).k≠6):J0 V K X I ((L.pop i).bV t w):=by
 have p:=h.ww w E G t m;have d:∀v c u,Fa V K X I L v c u->c≠w:=λv c u F e=>by
  subst e;rcases r with z|z
  .rw[F.x]at z;cases z
  .exact z _ F.p.2.1 F.p.2.2.1 F.p.2.2.2
 have k:=h.ti;have k:=λi q k=>(h.en i q k).e0;have k:∀c,c<L.wl->(L.wt c).t=t->c≠w->(L.wt c).e=true:=λc n z f=>by
  cases e:(L.wt c).e with
  |true=>rfl
  |false=>have:=(h.ww c n e t z).1;omega
 refine h.mv (t:=t) (K':=K) (X':=X) (I':=I) ?_;constructor
 case un=>
  refine h.un.mv rfl λv o=>?_;have f:¬LW V L t:=fun⟨c,l,j,g,C,k,B,A,x⟩=>by
   have:=(h.ww c j k t g).1;obtain rfl:c=w:=ω
   rcases r with z|z
   .rw[C]at z;cases z
   .exact z l B A x
  have H:v≠t->LW V L v->LW V ((L.pop i).bV t w) v:=λo ⟨c,l,j,g,z⟩=>⟨c,l,j,by
   have:¬c=w:=λe=>o (by subst e;omega);simp only[LS.pop,LS.bV,upd,af this];exact⟨g,z⟩⟩
  by_cases e:v=t
  .subst e;simp only[LS.pop,LS.bV,upd,if_true];exact λa b=>⟨a,b,trivial,λ_=>f⟩
  .have:((L.pop i).bV t w).tk v=L.tk v:=by simp[LS.pop,LS.bV,upd,e]
   rw[this];exact λa b=>⟨a,b,rfl,λz y=>z (H e y)⟩
 case fo=>
  intro v c u o a a F;have s:u≠t:=λz=>by
   subst z;have:=(h.ww c F.wl F.e u F.wt).1;exact d v c u F ω
  have a:¬c=w:=d v c u F;refine⟨?_,?_,?_,s,?_⟩
  .simp only[LS.pop,LS.bV,upd,af a];exact F.x
  .simp only[LS.pop,LS.bV,upd,af a];exact F.e
  .simp[LS.pop,LS.bV,upd,s,F.ux]
  .have:¬I v=i:=λz=>a (by have:=F.ic.2.1;rw[z]at this;omega);simp only[LS.pop,LS.bV,upd,af this]
 case nt=>intro v p d;exact absurd d (by show¬v<L.tl;omega)
 case nv=>intro v p d;exact absurd d (by show¬v<L.wl;omega)
 case na=>intro v p d;exact absurd d (by show¬v<L.al;omega)
 all_goals (simp only[LS.pop,LS.bV,upd];grind)
end
def Ym:∀(a:aN)(L:LS),∃g,a.foldl LS.iC L={L with tk:=g}/\∀u,g u={L.tk u with x:=if u∈a/\(L.tk u).e=false then true else(L.tk u).x}
 |[],L=>⟨L.tk,rfl,λu=>ψ⟩
 |j::a,L=>by
  let⟨g,d,c⟩:=Ym a (L.iC j);refine⟨g,?_,λu=>?_⟩
  .rw[List.foldl_cons,d];unfold LS.iC;split<;>rfl
  .rw[c u];unfold LS.iC;by_cases e:(L.tk j).e=true
   .simp only[e,if_true];by_cases b:u=j
    .subst b;simp[e]
    .simp[b]
   .simp only[e,if_false,upd];by_cases b:u=j
    .subst b;simp at e;simp[upd,e]
    .simp[upd,b]
structure Cw(oL:aN)(L L':LS):Prop where
 s:L'.tl=L.tl/\L'.wl=L.wl/\L'.us=L.us/\L'.ou=L.ou/\L'.now=L.now/\L'.tk=L.tk
 al:L.al<=L'.al
 ag:∀i,i<L.al->L'.ag i=L.ag i
 an:∀i,L.al<=i->i<L'.al->(L'.ag i).c=3/\∃j∈oL,∃w:Nat,(L.tk j).o=w/\(L'.ag i).t=(L.wt w).t
 wt:∀v,L'.wt v=L.wt v\/((L.wt v).x=false/\(L.wt v).e=false/\L'.wt v={L.wt v with x:=true,z:=3,b:=⟨0,0,[]⟩}/\∃j∈oL,(L.tk j).o=v)
 wx:∀j∈oL,∀v:Nat,(L.tk j).o=v->(L'.wt v).x=true\/(L.wt v).e=true
def aaB(j:Nat)(L:LS):Cw [j] L (L.jv j):=by
 unfold LS.jv LS.qA;by_cases e:(L.tk j).o<0
 .rw[sJ e];exact⟨⟨rfl,rfl,rfl,rfl,rfl,rfl⟩,az _,λ_ _=>rfl,λi l f=>ω,λv=>.inl rfl,λk c v g=>by simp at c;subst c;omega⟩
 .rw[af e];split
  .rename_i h;refine⟨⟨rfl,rfl,rfl,rfl,rfl,rfl⟩,Nat.le_succ _,λi m=>?_,λi l f=>?_,λv=>?_,λk c v g=>?_⟩
   .simp only[LS.fix,LS.put,upd,af (show¬i=L.al by omega)]
   .obtain rfl:i=L.al:=by have:i<L.al+1:=f;omega
    exact⟨by simp[LS.fix,LS.put,upd],j,ψ,(L.tk j).o.toNat,ω,by simp[LS.fix,LS.put,upd]⟩
   .by_cases d:v=(L.tk j).o.toNat
    .right;subst d;exact⟨h.1,h.2,by simp[LS.fix,LS.put,upd],j,ψ,ω⟩
    .left;simp[LS.fix,LS.put,upd,d]
   .simp at c;subst c;obtain rfl:v=(L.tk k).o.toNat:=ω
    left;simp[LS.fix,LS.put,upd]
  .rename_i h;refine⟨⟨rfl,rfl,rfl,rfl,rfl,rfl⟩,az _,λ_ _=>rfl,λi l f=>ω,λv=>.inl rfl,λk c v g=>?_⟩;simp at c;subst c;obtain rfl:v=(L.tk k).o.toNat:=ω
   cases a:(L.wt (L.tk k).o.toNat).x with
   |true=>exact .inl rfl
   |false=>cases b:(L.wt (L.tk k).o.toNat).e with
    |true=>exact .inr rfl
    |false=>exact absurd ⟨a,b⟩ h
def aab:∀(a:aN)(L:LS),Cw a L (a.foldl LS.jv L)
 |[],L=>⟨⟨rfl,rfl,rfl,rfl,rfl,rfl⟩,az _,λ_ _=>rfl,λi x o=>absurd o (by show¬i<L.al;omega),λv=>.inl rfl,λ_ h=>by cases h⟩
 |j::a,L=>by
  have A:=aaB j L;have B:=aab a (L.jv j);rw[List.foldl_cons];let⟨h,J,T,S,f,R⟩:=A;let⟨Q,A,D,P,C,O⟩:=B;let⟨N,M,c3,K,J,d⟩:=h;let⟨d1,d2,d3,B,A,h⟩:=Q;refine⟨⟨d1.trans N,d2.trans M,d3.trans c3,B.trans K,A.trans J,h.trans d⟩,ω,λi h=>(D i ω).trans (T i h),λi x o=>?_,λv=>?_,λk I v u=>?_⟩
  .have H:∀w,((L.jv j).wt w).t=(L.wt w).t:=λw=>by
    rcases f w with z|⟨_,_,z,_⟩<;>rw[z]
   by_cases e:i<(L.jv j).al
   .let⟨n,k,c,w,m,l⟩:=S i x e;simp at c;subst c;rw[D i e];exact⟨n,k,ψ,w,m,l⟩
   .let⟨n,k,c,w,m,l⟩:=P i ω o;exact⟨n,k,by simp[c],w,by rw[<-d];exact m,by rw[l,H]⟩
  .rcases C v with z|⟨b,q,p,k,F,E⟩
   .rw[z];rcases f v with y|⟨t,s,g,k,r,G⟩
    .exact .inl y
    .simp at r;subst r;exact .inr ⟨t,s,g,k,ψ,G⟩
   .right;rcases f v with y|⟨t,s,g,_⟩
    .rw[y]at b q p;exact⟨b,q,p,k,by simp[F],by rw[<-d];exact E⟩
    .rw[g]at b;cases b
  .have g:((L.jv j).wt v).e=(L.wt v).e:=by
    rcases f v with z|⟨_,_,z,_⟩<;>rw[z]
   by_cases e:k∈a
   .rw[<-g];exact O k e v (by rw[d];exact u)
   .have:k=j:=by simpa [e]using I
    subst this;refine(R k ψ v u).imp_left λy=>?_;rcases C v with z|⟨_,_,z,_⟩
    .rw[z];exact y
    .rw[z]
section
variable{K K':Nat->Rs->Prop}{X:Nat->Int}
def J0.up(h:J0 V K X I L)(f:cj L.ag L.al=i)(l:(L.ag i).a<1000000000000):∀t,t<L.tl->(L.tk t).x=false->(L.tk t).e=false->∀j,j<L.al->(L.ag j).t=t->j<=i->(L.ag i).a<X t:=by
 intro t;induction t using Nat.strongRecOn with
 |ind t b=>
  intro d c k j i a g;by_cases e:t<V.nc
  .rw[(h.ro t e).2.2.2];exact l
  .let⟨w,u,F⟩:=h.fa t ω d c k;have f1:=F.ut;have f2:=F.ii j i a;have f3:=nu _ _ _ f (I t) ω F.io;have f4:=b u f1 ω F.ux (h.ww w F.wl F.e u F.wt).2.1 (I t) F.il F.ic.2.2 ω;rw[F.xm];omega
def J0.down(hK:∀k,k<V.nl->(V.ly k).k=1\/(V.ly k).k=2\/(V.ly k).k=6)(h:J0 V K X I L)(P:uW V m L Y N J E none)(W:cj L.ag L.al=i)(R:p8)(hR:∀x,V.nc<=x->x<L.tl->∀v j:Nat,(L.tk x).f=v->(L.wt v).t=j->R j->R x):∀n t,V.nl<(L.tk t).p+n->t<L.tl->(L.tk t).x=false->(L.tk t).e=false->R t->X t<=(L.ag i).a->K t ⟨none,L.us (L.tk t).c.toNat⟩/\∃l,R l/\l<L.tl/\(L.tk l).x=false/\(L.tk l).e=false/\(L.tk l).c=(L.tk t).c/\¬LW V L l:=by
 intro n;induction n with
 |zero=>intro t hp a;have:=(P.tk t a).pl;omega
 |succ n ih=>
  intro t hp a d q p m;have cut:∀{k:Nat}{ob:Option Bk}{T:Int},Iv V K X L t k ob T->(L.ag i).a<=T->K t ⟨none,L.us (L.tk t).c.toNat⟩:=λi n=>i _ (.cut (Int.le_trans m n));cases Z:E t with
  |none=>
   have:=P.en t a Z ψ;rw[q]at this;cases this
  |some j=>
   let⟨m,i,x,v⟩:=P.lv t j a Z;have u:=Eu _ _ _ W j m i;let⟨n,n1,n2⟩:=h.en j m i;rcases v with ⟨B,_⟩|⟨w,B,M,c3,r,b,c6⟩
   .let⟨d1,d2,d3,_,i⟩:=n B t x;exact⟨cut i u,t,p,a,d,q,rfl,h.nlw d3⟩
   .have i:=h.ww w M r t c3;have lw:¬((L.wt w).x=false/\∃k:Nat,(L.wt w).l=k/\k<V.nl/\(V.ly k).k=6)->¬LW V L t:=λz ⟨o,s,D,C,O,i,y5⟩=>by
     have:=(h.ww o D i t C).1;obtain rfl:o=w:=ω
     exact z ⟨O,s,y5⟩
    rcases b with ⟨b,c⟩|⟨b,c,i⟩
    .let⟨_,d1⟩:=n1 b w B;let⟨d2,d3⟩:=d1 c r t c3 d;rcases c6 with ⟨_,f,y,ch,A,_⟩|⟨k,g,f,A,e4⟩
     .exact⟨cut (d2 f y ch A) u,t,p,a,d,q,rfl,lw fun⟨_,s,D,C,_⟩=>ω⟩
     .rcases h.ch w M c r k f g with i;by_cases e6:(V.ly k).k=6
      .let⟨e,U,H,j3,S,Q⟩:=i e6;let⟨o,G,F⟩:=h.fa e U H S Q;obtain rfl:o=w:=by have:=F.f;omega
       obtain rfl:G=t:=by have:=F.wt;omega
       have i:=A.pk;have i:(L.tk e).p=k+1:=by have:=F.p;omega
       have i:=Eu _ _ _ W (I e) F.il F.io;have i:=F.xm;let⟨y,l,x,v,n,m,j,i⟩:=ih e ω H S Q (hR e U H o G j3 c3 p) ω;refine⟨F.km _ _ y ?_,l,x,v,n,m,by rw[j,F.c],i⟩;rw[F.c];exact .cut (by show X G<=(L.ag (I e)).a;omega)
      .have e:(V.ly k).k=1\/(V.ly k).k=5:=by
        rcases e4 with z|z|z
        .exact .inl z.1
        .exact .inr z.1
        .exact absurd z.1 e6
       rcases e with e|e
       .exact⟨cut (d3 k f g e) u,t,p,a,d,q,rfl,lw fun⟨_,s,D,C,O⟩=>by
         obtain rfl:s=k:=ω
         omega⟩
       .have:=hK k g;omega
    .rcases b with b|b
     .let⟨_,e,d1⟩:=n2 b w B;rcases c6 with ⟨g,_⟩|⟨k,g,f,A,e4⟩
      .rw[g]at c;cases c
      .exact⟨cut (d1 r t c3 d k f) u,t,p,a,d,q,rfl,lw fun⟨z,_⟩=>by rw[c]at z;cases z⟩
     .have:=h.z3 w M r c ω t c3;rw[d]at this;cases this
end
section
variable{K K':Nat->Rs->Prop}{X:Nat->Int}
def J0.tmo{b:aN}(hK:∀k,k<V.nl->(V.ly k).k=1\/(V.ly k).k=2\/(V.ly k).k=6)(h:J0 V K X I L)(P:uW V m L Y N J E none)(hn:cj L.ag L.al=i)(ha:(L.ag i).a<1000000000000)(hc:(L.ag i).c=1)(hti:(L.ag i).t=t)(hwi:(L.ag i).w=w)(ht:t<L.tl)(hw:w<L.wl)(Qd:(L.wt w).t=t)(he:(L.wt w).e=false)(Nc:(L.wt w).x=false)(hl:(L.wt w).l=k)(hk:k<V.nl)(hk6:(V.ly k).k=6)(hf:wu V ((L.pop i).bV t w) (λx=>(((L.pop i).bV t w).tk x).f=w) b):
 J0 V K X I ((((L.pop i).bV t w).say t k 15 0).cancel b)/\Cu V K X ((((L.pop i).bV t w).say t k 15 0).cancel b) t k (some (c9 4 k 0)):=by
 let⟨hi,hio⟩:=qI _ _ _ hn;let⟨w1,H,w3⟩:=h.ww w hw he t Qd;have w4:=w3 ω;have hx:(L.tk t).x=false:=by
  cases e:(L.tk t).x with
  |false=>rfl
  |true=>have:=h.z2 w hw he ω t Qd e;rw[Nc]at this;cases this
 have hup:=h.up hn ha t ht hx H i hi hti (az _);have tkf:∀x,(((L.pop i).bV t w).tk x).f=(L.tk x).f:=λx=>by simp only[LS.pop,LS.bV,upd];split<;>simp_all
 have wtt:∀v,(((L.pop i).bV t w).wt v).t=(L.wt v).t:=λv=>by simp only[LS.pop,LS.bV,upd];split<;>simp_all
 have C:∀j∈b,j<L.tl/\V.nc<=j:=hf.mem;have fcl:∀x,V.nc<=x->x<L.tl->∀v j:Nat,(L.tk x).f=v->(L.wt v).t=j->j∈b->x∈b:=λx h1 h2 v j h3 h4 h5=>hf.cl x h1 h2 v j (by rw[tkf];exact h3) (by rw[wtt];exact h4) h5;have fso:∀x∈b,(L.tk x).f=w\/∃v j:Nat,(L.tk x).f=v/\(L.wt v).t=j/\j∈b:=λx hx=>by
  have:=hf.so x hx;simpa only[tkf,wtt]using this
 let⟨x0,x1,x2⟩:=hf.ro;rw[tkf]at x2;let⟨j,j1,j2,j3,j4,j5⟩:=h.ch w hw Nc he k hl hk hk6;let⟨A,n,F⟩:=h.fa j j1 j2 j4 j5;obtain rfl:A=w:=by have:=F.f;omega
 obtain rfl:n=t:=by have:=F.wt;omega
 have hfi:∀v,v<L.tl->(L.tk v).f=A->v=j:=λv s hvf=>(P.fi j v j2 s (by have:=F.p.1;omega) (by rw[hvf];exact j3)).symm;obtain rfl:x0=j:=hfi x0 (C x0 x1).1 x2;have live:∀o,o<L.al->(L.ag o).o=false->(L.ag o).c=1->(L.ag o).w=A->(L.ag o).t=n->E n=some o:=λo f d D U a5=>by
  let⟨v,v1,S,v3⟩:=P.pd o f d;obtain rfl:v=n:=ω
  rcases v3 with z|⟨_,v',z1,z2,z3⟩
  .exact z
  .obtain rfl:v'=A:=ω
   rcases z3 with z|z
   .rw[Nc]at z;cases z
   .rw[he]at z;cases z
 have hI:I x0=i:=by
  have f:=live i hi hio hc hwi hti;have d:=live (I x0) F.il F.io F.ic.1 F.ic.2.1 F.ic.2.2;rw[f]at d;cases d;rfl
 have hXj:X x0=(L.ag i).a:=by rw[F.xm,hI];omega
 have hp:(L.tk x0).p-1=k:=by have:=F.p;omega
 let⟨r1,l,r2,r3,r4,r5,r6,r7⟩:=h.down hK P hn (·∈b) fcl (V.nl+1) x0 ω j2 j4 j5 x1 ω;have hiv:Iv V K X L n k (some (c9 4 k 0)) (L.ag i).a:=λr hr=>F.km _ r r1 (by
  rw[hp,hI,<-F.c];exact hr)
 have fX:∀x,x∈b->(L.tk x).x=false->(L.tk x).e=false->X x<=(L.ag i).a:=by
  intro x;induction x using Nat.strongRecOn with
  |ind x ih=>
   intro f d D;rcases fso x f with z|⟨v,B,z1,z2,z3⟩
   .obtain rfl:=hfi x (C x f).1 z;omega
   .let⟨H,Z,G⟩:=h.fa x (C x f).2 (C x f).1 d D;obtain rfl:H=v:=by have:=G.f;omega
    obtain rfl:Z=B:=by have:=G.wt;omega
    have:=ih Z G.ut z3 G.ux (h.ww H G.wl G.e Z G.wt).2.1;have:=G.xm;omega
 have aaF:n∉b:=λz=>by have:=fX n z hx H;omega
 let⟨g,g1,g2⟩:=Ym b (((L.pop i).bV n A).say n k 15 0);have W:=aab b (b.foldl LS.iC (((L.pop i).bV n A).say n k 15 0));have eL:(((L.pop i).bV n A).say n k 15 0).cancel b=b.foldl LS.jv (b.foldl LS.iC (((L.pop i).bV n A).say n k 15 0)):=rfl;rw[g1]at W eL;rw[eL];generalize b.foldl LS.jv {(((L.pop i).bV n A).say n k 15 0)with tk:=g}=M at W ⊢;let⟨⟨s1,s2,s3,s4,s5,Q⟩,W1,W2,W3,W4,W5⟩:=W;have s1:M.tl=L.tl:=s1;have s2:M.wl=L.wl:=s2;have s3:M.us=L.us:=s3;have s4:M.ou=L.ou:=s4;have s5:M.now=(L.ag i).a:=s5;have Q:M.tk=g:=Q;have W1:L.al<=M.al:=W1;have g3:∀u,u≠n->g u={L.tk u with x:=if u∈b/\(L.tk u).e=false then true else(L.tk u).x}:=λu hu=>by
  rw[g2 u];simp[LS.say,LS.pop,LS.bV,upd,hu]
 have g4:g n={L.tk n with w:=-1}:=by
  rw[g2 n];simp[LS.say,LS.pop,LS.bV,upd,aaF]
 have go:∀u,(g u).o=(L.tk u).o/\(g u).c=(L.tk u).c/\(g u).f=(L.tk u).f/\(g u).p=(L.tk u).p/\(g u).e=(L.tk u).e/\(g u).a=(L.tk u).a:=λu=>by
  by_cases e:u=n
  .subst e;rw[g4];exact⟨rfl,rfl,rfl,rfl,rfl,rfl⟩
  .rw[g3 u e];exact⟨rfl,rfl,rfl,rfl,rfl,rfl⟩
 have gx:∀u,(g u).x=if u∈b/\(L.tk u).e=false then true else(L.tk u).x:=λu=>by
  by_cases e:u=n
  .subst e;rw[g4];simp[aaF]
  .rw[g3 u e]
 have gw:∀u,u≠n->(g u).w=(L.tk u).w:=λu hu=>by rw[g3 u hu]
 have Ww:M.wt A={L.wt A with e:=true}:=by
  rcases W4 A with z|⟨_,z,_⟩
  .rw[z];simp[LS.say,LS.pop,LS.bV,upd]
  .simp[LS.say,LS.pop,LS.bV,upd]at z
 have Wn:∀v,v≠A->M.wt v=L.wt v\/((L.wt v).x=false/\(L.wt v).e=false/\M.wt v={L.wt v with x:=true,z:=3,b:=⟨0,0,[]⟩}/\∃j∈b,(L.tk j).o=v):=λv s=>by
  have:=W4 v;simp only[LS.say,LS.pop,LS.bV,upd,af s,λj=>(go j).1]at this;exact this
 have Wx:∀j∈b,∀v:Nat,v≠A->(L.tk j).o=v->(M.wt v).x=true\/(L.wt v).e=true:=λj hj v s ho=>by
  have:=W5 j hj v (by show(g j).o=v;rw[(go j).1];exact ho);simp only[LS.say,LS.pop,LS.bV,upd,af s]at this;exact this
 have Ag:∀o,o<L.al->o≠i->M.ag o=L.ag o:=λo f d=>by
  rw[W2 o f];simp[LS.say,LS.pop,LS.bV,upd,d]
 have Agi:M.ag i={L.ag i with o:=true}:=by
  rw[W2 i hi];simp[LS.say,LS.pop,LS.bV,upd]
 have An:∀o,L.al<=o->o<M.al->(M.ag o).c=3/\∃v:Nat,(M.ag o).t=v/\v<L.tl:=λo f d=>by
  let⟨O,B,R,v,b3,b4⟩:=W3 o f d;have b3:(g B).o=v:=b3;rw[(go B).1]at b3;refine⟨O,B,?_,(C B R).1⟩;rw[b4];exact(wtt v).trans (h.oo B (C B R).1 v b3).2
 have ows:∀v,v<L.wl->(L.wt v).t=n->v≠A->(L.wt v).e=true:=λv f d D=>by
  cases e:(L.wt v).e with
  |true=>rfl
  |false=>have:=(h.ww v f e n d).1;omega
 have ofa:∀v,v<L.wl->(M.wt v).x=true->(L.wt v).x=false->v≠A->(L.wt v).e=false/\∃j∈b,(L.wt v).t=j:=λv f d D U=>by
  rcases Wn v U with z|⟨_,z2,_,B,z3,z4⟩
  .rw[z,D]at d;cases d
  .exact⟨z2,B,z3,(h.oo B (C B z3).1 v z4).2⟩
 have act:∀v,(g v).x=false->(g v).e=false->(L.tk v).x=false/\(L.tk v).e=false/\v∉b:=λv f d=>by
  rw[gx v]at f;rw[(go v).2.2.2.2.1]at d;split at f
  .cases f
  .rename_i z;exact⟨f,d,λy=>z ⟨y,d⟩⟩
 have can:∀v,(L.tk v).x=false->(g v).x=true->v∈b:=λv f d=>by
  rw[gx v,f]at d;by_cases e:v∈b
  .exact e
  .simp[e]at d
 have we:∀v,v≠A->(M.wt v).e=(L.wt v).e/\(M.wt v).t=(L.wt v).t/\(M.wt v).l=(L.wt v).l:=λv a=>by
  rcases Wn v a with z|⟨_,_,z,_⟩<;>rw[z]<;>exact⟨rfl,rfl,rfl⟩
 refine⟨h.mv (t:=n) (K':=K) (X':=X) (I':=I) ?_,?_⟩
 .constructor
  case tl=>omega
  case wl=>omega
  case al=>exact W1
  case g=>exact λ_ _=>⟨rfl,rfl,rfl⟩
  case tk=>
   intro u hu;rw[Q];have:=go u;have:=gx u;grind
  case tu=>
   intro u hu qM;rw[Q];exact⟨(go u).2.2.2.2.1,(go u).1,gw u qM,(go u).2.2.2.2.2⟩
  case to=>intro v _ s;rw[Q,(go n).1]at s;exact .inl s
  case rx=>
   intro u hu;rw[Q,gx u,af λz=>by have:=(C u z.1).2;omega]
  case us=>intro u _ _ _ _ _;rw[s3]
  case ou=>intro c _ _;rw[s4]
  case oe=>intro c _ e1 e2;rw[Q,(go c).2.2.2.2.1,e1]at e2;cases e2
  case wt=>
   intro v s;by_cases e:v=A
   .subst e;rw[Ww];exact⟨rfl,rfl,id,λ_=>rfl⟩
   .rcases Wn v e with z|⟨_,_,z,_⟩<;>rw[z]
    .exact⟨rfl,rfl,id,id⟩
    .exact⟨rfl,rfl,λ_=>rfl,id⟩
  case ws=>
   intro v s p T;by_cases e:v=A
   .subst e;rw[Ww]at p;cases p
   .rcases Wn v e with z|⟨y,_,z,_⟩
    .rw[z];exact⟨rfl,rfl⟩
    .rw[z,y]at T;cases T
  case wf=>
   intro v s p f d D u hu;by_cases e:v=A
   .subst e;rw[Ww]at p;cases p
   .let⟨O,B,R,b3⟩:=ofa v s d f e;obtain rfl:B=u:=ω
    rw[Q,gx B,sJ ⟨R,(h.ww v s O B b3).2.1⟩]
  case nw=>
   intro v s hvt;by_cases e:v=A
   .subst e;rw[Ww]
   .rw[(we v e).1];exact ows v s hvt e
  case fo=>
   intro v H Z s T p G;rw[Q]at T p ⊢;let⟨f,d,D⟩:=act v T p;have vnc:V.nc<=v:=by
    by_cases e:v<V.nc
    .have:=(h.ro v e).2.1;have:=G.p.1;omega
    .omega
   have O:H≠A:=λz=>D (by rw[hfi v s (by rw[<-z];exact G.f)];exact x1);have R:Z∉b:=λz=>D (fcl v vnc s H Z G.f G.wt z);have b3:Z≠n:=λz=>by
    have:=ows H G.wl (by rw[G.wt,z]) O;rw[G.e]at this;cases this
   refine⟨?_,by rw[(we H O).1];exact G.e,by rw[gx Z,af λz=>R z.1];exact G.ux,b3,Ag _ G.il λz=>O ?_⟩
   .cases e:(M.wt H).x with
    |false=>rfl
    |true=>
     let⟨_,B,c2,c3⟩:=ofa H G.wl e G.x O;have:=G.wt;obtain rfl:B=Z:=ω
     exact absurd c2 R
   .have:=G.ic.2.1;rw[z]at this;omega
  case co=>
   intro v s T p B f d D U a5;rw[Q];refine⟨?_,by rw[(go B).2.2.2.2.1];exact a5⟩;by_cases e:B∈b
   .exfalso;by_cases ew:v=A
    .subst ew;rw[Ww]at p;cases p
    .let⟨H,Z,G⟩:=h.fa B f d U a5;obtain rfl:H=v:=by have:=G.f;omega
     have R:Z∈b:=by
      rcases fso B e with z|⟨S,j2,z1,z2,z3⟩
      .omega
      .obtain rfl:S=H:=ω
       obtain rfl:j2=Z:=by have:=G.wt;omega
       exact z3
     rcases Wx Z R H ew ((h.ww H s G.e Z G.wt).2.2 (by have:=G.p;omega))with z|z
     .rw[T]at z;cases z
     .rw[G.e]at z;cases z
   .rw[gx B,af λz=>e z.1];exact U
  case z2=>
   intro v s p hvl u hu f d;rw[Q]at d;have O:=can u f d;by_cases e:v=A
   .subst e;rw[Ww]at p;cases p
   .rw[(we v e).1]at p;rcases Wx u O v e ((h.ww v s p u hu).2.2 hvl)with z|z
    .exact z
    .rw[p]at z;cases z
  case zf=>
   intro v s f d H D;rw[Q]at d;have O:=can v f d;by_cases e:H=A
   .subst e;rw[Ww];exact⟨hw,.inr rfl⟩
   .rcases(P.tk v s).p with ⟨_,z⟩|⟨w3,k3,z1,z2,z3,z4,z5,z6⟩
    .omega
    .obtain rfl:w3=H:=ω
     refine⟨z2,?_⟩;rw[(we w3 e).1];rcases fso v O with y|⟨S,j2,y1,y2,y3⟩
     .omega
     .obtain rfl:S=w3:=ω
      cases ee:(L.wt S).e with
      |true=>exact .inr rfl
      |false=>
       rcases Wx j2 y3 S e ((h.ww S z2 ee j2 y2).2.2 ω)with q|q
       .exact .inl q
       .rw[ee]at q;cases q
  case ag=>
   intro o KG;by_cases e:o=i
   .subst e;rw[Agi];exact⟨rfl,rfl,rfl,rfl,λ_=>rfl⟩
   .rw[Ag o KG e];exact⟨rfl,rfl,rfl,rfl,id⟩
  case e0=>
   intro o KG ho hc0 v s hvl;have e:o≠i:=λz=>by subst z;rw[Agi]at ho;cases ho
   rw[Ag o KG e]at ho;let⟨O,R,b3,b4,_⟩:=(h.en o KG ho).e0 hc0 v s;have b5:=Eu _ _ _ hn o KG ho;refine⟨?_,λz=>by subst z;omega⟩;rw[Q,gx v];by_cases e2:v∈b
   .have:=fX v e2 O R;omega
   .rw[af λz=>e2 z.1];exact O
  case nt=>intro v h1 h2;omega
  case nv=>intro v h1 h2;omega
  case na=>
   intro o f d;let⟨O,v,R,b3⟩:=An o f d;exact⟨⟨v,R,ω⟩,λz=>ω,λz=>ω,λz=>ω⟩
  case un=>
   have key:∀v,v<L.tl->v≠n->(g v).x=false->(g v).e=false->¬LW V M v->¬LW V L v:=λv s qM f d D ⟨S,k2,y1,y2,y3,y4,y5⟩=>by
    let⟨O,R,b3⟩:=act v f d;have e:S≠A:=λz=>by subst z;omega
    refine D ⟨S,k2,ω,by rw[(we S e).2.1];exact y2,?_,by rw[(we S e).1];exact y4,by rw[(we S e).2.2];exact y5⟩;cases ex:(M.wt S).x with
    |false=>rfl
    |true=>
     let⟨_,B,c2,c3⟩:=ofa S y1 ex y3 e;obtain rfl:B=v:=ω
     exact absurd c2 b3
   have oth:∀v,v<L.tl->v≠n->(g v).x=false->(g v).e=false->¬LW V M v->(L.tk v).c≠(L.tk n).c:=λv s qM f d D U=>by
    let⟨O,R,b3⟩:=act v f d;have:=h.un v l s r3 O R r4 r5 (by rw[r6,<-F.c];exact U) (key v s qM f d D) r7;subst this;exact b3 r2
   intro v v' s hv' f d D U a5 a6 a7;rw[Q]at f d D U a5;rw[s1]at s hv';rw[(go v).2.1,(go v').2.1]at a5;let⟨O,R,_⟩:=act v f d;let⟨b4,b5,_⟩:=act v' D U;by_cases e1:v=n
   .by_cases e2:v'=n
    .omega
    .subst e1;exact absurd a5.symm (oth v' hv' e2 D U a7)
   .by_cases e2:v'=n
    .subst e2;exact absurd a5 (oth v s e1 f d a6)
    .exact h.un v v' s hv' O R b4 b5 a5 (key v s e1 f d a6) (key v' hv' e2 D U a7)
 .refine⟨⟨ω,by rw[Q,g4];show(-1:Int)<0;decide,by rw[Q,g4];exact H,λo f d D U=>?_⟩,λ_=>⟨by rw[s5];exact hup,?_⟩,λ_=>ψ⟩
  .by_cases e:o<L.al
   .have e2:o≠i:=λz=>by subst z;rw[Agi]at d;cases d
    rw[Ag o e e2]at d D U;have:=((h.en o e d).e0 D n U).2.2.1;omega
   .have:=(An o ω f).1;omega
  .rw[s5];refine hiv.mv rfl rfl ?_ ?_ ?_ ?_
   .rw[Q];exact(go n).2.1
   .rw[Q];exact(go n).2.2.2.1
   .rw[Q];exact(go n).2.2.2.2.2
   .rw[s3]
end
section
variable{K K':Nat->Rs->Prop}{X:Nat->Int}
def J0.same(h:J0 V K X I L)(d:L'.tl=L.tl)(c:L'.wl=L.wl)(l:L'.al=L.al)(e:L'.tk=L.tk)(k:L'.wt=L.wt)(j:L'.us=L.us)(g:L'.ou=L.ou)(f:L'.ag=L.ag):J0 V K X I L':=by
 let⟨_,_,_,_,_,_,_,_,_,_,_,m⟩:=L';subst d c l e k j g f;have f:=h.ti;have f:=h.wo;have e:=λi f e=>(h.en i f e).e0;refine h.mv (t:=L.tl) (K':=K) (X':=X) (I':=I) ?_;constructor
 case un=>exact h.un.mv rfl λv e a b=>⟨a,b,rfl,id⟩
 case fo=>exact λv w u e a a F=>⟨F.x,F.e,F.ux,by have:=F.ut;omega,rfl⟩
 case nt=>intro v d c;exact absurd c (by show¬v<L.tl;omega)
 case nv=>intro v d c;exact absurd c (by show¬v<L.wl;omega)
 case na=>intro v d c;exact absurd c (by show¬v<L.al;omega)
 all_goals grind
def J0.s{q n:Int}(h:J0 V K X I L):J0 V K X I (L.say t l q n):=h.same rfl rfl rfl rfl rfl rfl rfl rfl
def Cu.mv(C:Cu V K X L t k ob)(a:(L.tk t).x=false)(e:ob=none->k<V.nl->(V.ly k).k≠6)(d:ob≠none->k≠(L.tk t).p){q:Cf}(c:mv V.nl V.ly (aU V (L.tk t).c.toNat) ⟨(L.tk t).a,k,ob,L.now,L.us (L.tk t).c.toNat⟩=q):∀r,Ev V.nl V.ly (aU V (L.tk t).c.toNat) (L.tk t).p (X t) q r->K t r:=λr b=>(C.a a).2 r (.go (C.a a).1 e d (by rw[c];exact b))
def aaE(a:(L.tk t).e=false)(f:Nat->Int):({L.tk t with a:=f,e:=false}:Ot)={L.tk t with a:=f}:=by
 show(⟨_,_,_,_,_,_,_,_,_⟩:Ot)=⟨_,_,_,_,_,(L.tk t).e,_,_,_⟩
 rw[a]
def J0.at(h:J0 V K X I L)(C:Cb L t)(f:Nat->Int):J0 V K X I {L with tk:=upd L.tk t {L.tk t with a:=f}}:=by
 have:=h.own (f:=f) (g:=L.us) (o:=L.ou) (d:=false) C (.inl rfl) (λ_ _=>rfl) (λz=>by cases z);rw[aaE C.e]at this;exact this
def J0.tu(h:J0 V K X I L)(C:Cb L t)(b:(L.tk t).x=false)(a:∀u,u<L.tl->0<=(L.tk u).c)(n:Int):J0 V K X I {L with us:=upd L.us (L.tk t).c.toNat n}:=by
 have:=h.own (f:=(L.tk t).a) (g:=upd L.us (L.tk t).c.toNat n) (o:=L.ou) (d:=false) C (.inr ⟨b,λu b c=>by
  have:=a u b;have:=a t C.tl;simp only[upd,af (show¬(L.tk u).c.toNat=(L.tk t).c.toNat by omega)]⟩) (λ_ _=>rfl) (λz=>by cases z)
 rw[aaE C.e]at this;have e:upd L.tk t {L.tk t with a:=(L.tk t).a}=L.tk:=by
  funext j;show upd L.tk t (L.tk t) j=_;unfold upd;split
  .subst_vars;rfl
  .rfl
 rw[e]at this;exact this
def J0.fin(h:J0 V K X I L)(C:Cb L t)(a:t<V.nc)(a:∃u,K t ⟨some (b,L.now),u⟩):J0 V K X I (LS.done {L with ou:=upd L.ou t ⟨L.now,b⟩} t):=
 h.own (f:=(L.tk t).a) (g:=L.us) (o:=upd L.ou t ⟨L.now,b⟩) (d:=true) C (.inl rfl) (λc b=>by simp[upd,b]) (λ_=>⟨λ_=>ω,λz=>by simpa [upd]using a⟩)
def J0.gone(h:J0 V K X I L)(C:Cb L t)(a:(L.tk t).x=true)(b:V.nc<=t):J0 V K X I (L.done t):=
 h.own (f:=(L.tk t).a) (g:=L.us) (o:=L.ou) (d:=true) C (.inl rfl) (λc b=>rfl) (λ_=>⟨λ_=>a,λz=>ω⟩)
def J0.wt'{l:Int}{cb:Bool}(h:J0 V K X I L)(C:Cb L t)(b:(L.tk t).x=false)(c:k<V.nl)(a:(V.ly k).k=1)(f:Iv V K X L t (k+1) none (L.now+d)):J0 V K X I (L.wait t k d true):=
 h.cB C b (.inr ⟨k,rfl,c,a,rfl⟩) ⟨λe=>ω,λa e b _=>by
  obtain rfl:k=a:=ω
  exact f⟩
def JA.mk(h:J0 V K X I L)(C:Cu V K X L t k ob):JA V (some (t,k,ob)) L:=⟨K,X,I,h,λ_ _ _ z=>by cases z;exact C⟩
def JA.Fw(h:J0 V K X I L):JA V none L:=⟨K,X,I,h,λ_ _ _ z=>by cases z⟩
def aaI(v:wM V)(w:∀k,k<V.nl->(V.ly k).k=1\/(V.ly k).k=2\/(V.ly k).k=6)(h:J0 V K X I L)(C:Cu V K X L t k none)(s:∀u,u<L.tl->0<=(L.tk u).c)(D:k<=V.nl):JA V ((L.step V t k none).2.map λq=>(t,q.1,q.2)) (L.step V t k none).1:=by
 have b:(L.tk t).x=false:=by
  cases e:(L.tk t).x with
  |false=>rfl
  |true=>exact absurd rfl (C.z e)
 have a:=C.toCb;unfold LS.step;dsimp only;by_cases l:k=V.nl
 .rw[sJ l];subst l;have n:=h.tu a b s (L.us (L.tk t).c.toNat+1);have i:=C.mv b (λ_ z=>absurd z (Ap _)) (λz=>absurd rfl z) (q:=⟨(L.tk t).a,V.nl,some (cN (aU V (L.tk t).c.toNat (L.us (L.tk t).c.toNat).toNat)),L.now+(aU V (L.tk t).c.toNat (L.us (L.tk t).c.toNat).toNat).t,L.us (L.tk t).c.toNat+1⟩) (by simp[mv]);have o:upd L.us (L.tk t).c.toNat (L.us (L.tk t).c.toNat+1) (L.tk t).c.toNat=L.us (L.tk t).c.toNat+1:=by simp[upd]
  split
  .rename_i A;refine .mk n.s.s ⟨⟨a.1,a.2,a.3,a.4⟩,λz=>⟨(C.a z).1,λr g=>i r ?_⟩,λ_=>ψ⟩;have c:Ev V.nl V.ly (aU V (L.tk t).c.toNat) (L.tk t).p (X t) ⟨(L.tk t).a,V.nl,some (cN (aU V (L.tk t).c.toNat (L.us (L.tk t).c.toNat).toNat)),L.now,upd L.us (L.tk t).c.toNat (L.us (L.tk t).c.toNat+1) (L.tk t).c.toNat⟩ r:=g;rw[o]at c;rw[A,Int.add_zero];exact c
  .have x:=(n.s (t:=t) (l:=-1) (q:=1) (n:=L.us (L.tk t).c.toNat)).cB (b:=⟨(cN (aU V (L.tk t).c.toNat (L.us (L.tk t).c.toNat).toNat)).k,(cN (aU V (L.tk t).c.toNat (L.us (L.tk t).c.toNat).toNat)).n,⟨0,0,L.us (L.tk t).c.toNat⟩::(cN (aU V (L.tk t).c.toNat (L.us (L.tk t).c.toNat).toNat)).ch⟩) (l:=V.nl) (d:=(aU V (L.tk t).c.toNat (L.us (L.tk t).c.toNat).toNat).t) (cb:=false) ⟨a.1,a.2,a.3,a.4⟩ b (.inl ⟨rfl,rfl⟩) ⟨λ_ y ch p r g=>i r ?_,λB e d _=>ω⟩
   .refine(JA.Fw (x.same ?_ ?_ ?_ ?_ ?_ ?_ ?_ ?_));all_goals first|rfl|skip
    funext j;by_cases e:j=L.wl<;>simp[LS.wait,LS.cB,LS.put,LS.say,upd,e]
   .cases p;have c:Ev V.nl V.ly (aU V (L.tk t).c.toNat) (L.tk t).p (X t) ⟨(L.tk t).a,V.nl,some (cN (aU V (L.tk t).c.toNat (L.us (L.tk t).c.toNat).toNat)),L.now+(aU V (L.tk t).c.toNat (L.us (L.tk t).c.toNat).toNat).t,upd L.us (L.tk t).c.toNat (L.us (L.tk t).c.toNat+1) (L.tk t).c.toNat⟩ r:=g;rw[o]at c;exact c
 .rw[af l];have d:k<V.nl:=ω
  rcases w k d with f|f|f
  .rw[sJ f];have i:=C.mv b (λ_ _=>ω) (λz=>absurd rfl z) (q:=⟨upd (L.tk t).a k 1,k+1,none,L.now,L.us (L.tk t).c.toNat⟩) (by simp[mv,l,f]);have m:upd L.tk t {L.tk t with a:=upd (L.tk t).a k 1} t={L.tk t with a:=upd (L.tk t).a k 1}:=by simp[upd]
   refine .mk (h.at a _) ⟨⟨a.1,?_,?_,a.4⟩,λ_=>⟨(C.a b).1,λr g=>i r ?_⟩,λz=>?_⟩
   .show(upd L.tk t _ t).w<0;rw[m];exact a.w
   .show(upd L.tk t _ t).e=false;rw[m];exact a.e
   .simp only[m]at g;exact g
   .have:(upd L.tk t {L.tk t with a:=upd (L.tk t).a k 1} t).x=true:=z;rw[m]at this;rw[b]at this;cases this
  .rw[af ω,af ω,af ω,af ω,af ω];have i:=C.mv b (λ_ _=>ω) (λz=>absurd rfl z) (q:=⟨(L.tk t).a,k+1,none,L.now,L.us (L.tk t).c.toNat⟩) (by simp[mv,l,f]);exact .mk h ⟨a,λ_=>⟨(C.a b).1,i⟩,λz=>by rw[b]at z;cases z⟩
  .rw[af ω,af ω,af ω,af ω,sJ f];unfold LS.uX;rw[af (by rw[b];simp)];exact .Fw (h.Tn C b d f rfl (v.li k d f).1)
def aax(hV:wM V)(hK:∀k,k<V.nl->(V.ly k).k=1\/(V.ly k).k=2\/(V.ly k).k=6)(h:J0 V K X I L)(C:Cu V K X L t k (some b))(P:uW V m L Y N J E (some t))(hk:k<=V.nl)(hp:(L.tk t).p<=k):JA V ((L.step V t k (some b)).2.map λq=>(t,q.1,q.2)) (L.step V t k (some b)).1:=by
 have c:=C.toCb;have pass:∀{j:LS}{O:Nat}{U:Bk},J0 V K X I j->Cb j t->j.now=L.now->(j.tk t).x=(L.tk t).x->((L.tk t).x=false->Iv V K X j t O (some U) j.now)->JA V (some (t,O,some U)) j:=λD s h3 S h5=>.mk D ⟨s,λz=>⟨by rw[h3];exact(C.a (S▸z)).1,h5 (S▸z)⟩,λ_=>ψ⟩;unfold LS.step;dsimp only;split
 .rename_i M;subst M;refine JA.Fw (K:=K) (X:=X) (I:=I) ?_;unfold LS.end_;have p:(L.tk t).x=false->K t ⟨some (b,L.now),L.us (L.tk t).c.toNat⟩:=λa=>(C.a a).2 _ (.fin (C.a a).1 rfl rfl);split
  .rename_i d;have x:t<V.nc:=by
    by_cases e:t<V.nc
    .exact e
    .exact absurd d (h.tp t ω c.tl)
   have l:=h.ro t x;rw[show(L.tk t).c.toNat=t by omega];exact h.fin c x ⟨_,p l.2.2.1⟩
  .rename_i d;have x:V.nc<=t:=by
    by_cases e:t<V.nc
    .exact absurd (h.ro t e).2.1 d
    .omega
   unfold LS.qA;cases a:(L.tk t).x with
   |false=>
    let⟨w,u,F⟩:=h.fa t x c.tl a c.e;have f1:=F.f;rw[show(L.tk t).f.toNat=w by omega,sJ ⟨F.x,F.e⟩];exact h.abd C a F λv Z B=>(P.fi t v c.tl Z ω (by rw[B];exact f1)).symm
   |true=>
    have W:=h.zf t c.tl a (L.tk t).f.toNat (by
     rcases(P.tk t c.tl).p with ⟨z,_⟩|⟨w,_,z,_⟩
     .exact absurd z d
     .omega)
    rw[af λz=>by
     rcases W.2 with y|y
     .rw[z.1]at y;cases y
     .rw[z.2]at y;cases y]
    exact h.gone c a x
 .rename_i M;have Q:k-1<V.nl:=ω
  have n:=fun(a:(L.tk t).x=false) q hq=>C.mv a (λz=>by cases z) (λ_=>M) (q:=q) hq;rcases hK (k-1) Q with d|d|d
  .rw[sJ d];split
   .rename_i g;exact pass h c rfl rfl λa=>n a _ (by simp only[mv,sJ d,sJ g])
   .rename_i g;split
    .rename_i H;exact pass h.s ⟨c.1,c.2,c.3,c.4⟩ rfl rfl λa=>n a _ (by simp only[mv,sJ d,af g,sJ H];rfl)
    .rename_i H;have A:∀f,upd (L.say t (k-1:Nat) 3 (aI (V.ly (k-1)) ((L.tk t).a (k-1)))).tk t {(L.say t (k-1:Nat) 3 (aI (V.ly (k-1)) ((L.tk t).a (k-1)))).tk t with a:=f} t={L.tk t with a:=f}:=λf=>by simp[upd,LS.say]
     have D:J0 V K X I (L.say t (k-1:Nat) 3 (aI (V.ly (k-1)) ((L.tk t).a (k-1)))):=h.s;have C1:Cb (L.say t (k-1:Nat) 3 (aI (V.ly (k-1)) ((L.tk t).a (k-1)))) t:=⟨c.1,c.2,c.3,c.4⟩;have s:=D.at C1 (upd (L.tk t).a (k-1) ((L.tk t).a (k-1)+1));have o:Cb {(L.say t (k-1:Nat) 3 (aI (V.ly (k-1)) ((L.tk t).a (k-1))))with tk:=upd (L.say t (k-1:Nat) 3 (aI (V.ly (k-1)) ((L.tk t).a (k-1)))).tk t {(L.say t (k-1:Nat) 3 (aI (V.ly (k-1)) ((L.tk t).a (k-1)))).tk t with a:=upd (L.tk t).a (k-1) ((L.tk t).a (k-1)+1)}} t:=⟨c.1,by dsimp only;rw[A];exact c.2,by dsimp only;rw[A];exact c.3,c.4⟩;have i:(({(L.say t (k-1:Nat) 3 (aI (V.ly (k-1)) ((L.tk t).a (k-1))))with tk:=upd (L.say t (k-1:Nat) 3 (aI (V.ly (k-1)) ((L.tk t).a (k-1)))).tk t {(L.say t (k-1:Nat) 3 (aI (V.ly (k-1)) ((L.tk t).a (k-1)))).tk t with a:=upd (L.tk t).a (k-1) ((L.tk t).a (k-1)+1)}}:LS).tk t).x=(L.tk t).x:=by dsimp only;rw[A]
     have R:∀T,L.now+(if aI (V.ly (k-1)) ((L.tk t).a (k-1))>0 then aI (V.ly (k-1)) ((L.tk t).a (k-1))else 0)=T->(L.tk t).x=false->Iv V K X {(L.say t (k-1:Nat) 3 (aI (V.ly (k-1)) ((L.tk t).a (k-1))))with tk:=upd (L.say t (k-1:Nat) 3 (aI (V.ly (k-1)) ((L.tk t).a (k-1)))).tk t {(L.say t (k-1:Nat) 3 (aI (V.ly (k-1)) ((L.tk t).a (k-1)))).tk t with a:=upd (L.tk t).a (k-1) ((L.tk t).a (k-1)+1)}} t (k-1+1) none T:=λT hT a r l=>by
      refine n a _ (by simp only[mv,sJ d,af g,af H];rfl) r ?_;dsimp only at l;rw[A]at l;rw[<-hT]at l;exact l
     split
     .rename_i ex;refine @pass (LS.say _ _ _ _ _) _ _ s.s ⟨o.1,o.2,o.3,o.4⟩ rfl i λz=>?_;rw[ex]at z;cases z
     .rename_i ex;have a:(L.tk t).x=false:=by simpa using ex
      split
      .rename_i G;exact .Fw (s.wt' (l:=0) (cb:=true) o (i.trans a) Q d (R _ (by rw[sJ G];rfl) a))
      .rename_i G;exact .mk s ⟨o,λ_=>⟨(C.a a).1,R _ (by rw[af G,Int.add_zero];rfl) a⟩,λz=>by have:=i.symm.trans z;rw[a]at this;cases this⟩
  .rw[af ω,af ω,af ω];split
   .rename_i g;exact pass h.s ⟨c.1,c.2,c.3,c.4⟩ rfl rfl λa=>n a _ (by simp only[mv,af (show¬(V.ly (k-1)).k=1 by omega),sJ g];rfl)
   .rename_i g;exact pass h c rfl rfl λa=>n a _ (by simp only[mv,af (show¬(V.ly (k-1)).k=1 by omega),af g])
  .rw[af ω,af ω,af ω,af ω];exact pass h c rfl rfl λa=>n a _ (by simp only[mv,af (show¬(V.ly (k-1)).k=1 by omega),af (show¬((V.ly (k-1)).k=2/\b.k=3) by omega)])
end
section
variable{K K':Nat->Rs->Prop}{X:Nat->Int}
def aar(hV:wM V)(hK:∀k,k<V.nl->(V.ly k).k=1\/(V.ly k).k=2\/(V.ly k).k=6):Xb V (JA V) where
 step:=λt k ob L h S Q hk hp=>by
  let⟨K,X,I,d,D⟩:=h;let⟨m,Y,N,J,E,P⟩:=Q;have C:=D t k ob rfl;cases ob with
  |none=>exact aaI hV hK d C (λu hu=>by let⟨c,z,_⟩:=(P.tk u hu).c;omega) hk
  |some b=>exact aax hV hK d C P hk hp
 start:=λi t L h Q G p hc0=>by
  let⟨K,X,I,d,_⟩:=h;let⟨B,m,Y,N,J,E,P⟩:=Q;let⟨n,Z⟩:=qI _ _ _ G;let⟨n1,n2,n3,n4,n5⟩:=(d.en i n Z).e0 hc0 t p;have hE:∀j,j<L.al->(L.ag j).o=false->(L.ag j).c=0->(L.ag j).t=t->E t=some j:=λj H s T R=>by
   let⟨v,_,b,v3⟩:=P.pd j H s;obtain rfl:v=t:=ω
   rcases v3 with z|z
   .exact z
   .omega
  refine .mk (d.pop n λv w u F z=>?_) ⟨⟨B,n3,n2,λj H s T R=>?_⟩,λ_=>⟨n4,n5⟩,λz=>by rw[show((L.pop i).tk t).x=false from n1]at z;cases z⟩
  .have:=F.ic.1;rw[z]at this;omega
  .by_cases e:j=i
   .subst e;simp[LS.pop,upd]at s
   .simp only[LS.pop,upd,af e]at s T R;have b1:=hE j H s T R;rw[hE i n Z hc0 p]at b1;cases b1;exact e rfl
 late:=λi w L h G b A o=>by
  let⟨K,X,I,d,_⟩:=h;let⟨n,Z⟩:=qI _ _ _ G;refine .Fw (d.pop n λv b u F z=>?_);have:=F.ic.2.1;rw[z]at this;obtain rfl:b=w:=ω
  rcases o with y|y
  .rw[F.x]at y;cases y
  .rw[F.e]at y;cases y
 JB:=λi t w L k ob L' h Q B A r G p f a q S O=>by
  let⟨K,X,I,d,_⟩:=h;let⟨m,Y,N,J,E,P⟩:=Q;let⟨n,Z⟩:=qI _ _ _ G;have ha:(L.ag i).a<1000000000000:=S.now.2;let⟨_,w2,b⟩:=d.ww w A q t a;have W:((L.pop i).bV t w).wt w={L.wt w with e:=true}:=by simp[LS.bV,LS.pop,upd]
  have g:((L.pop i).bV t w).tk t={L.tk t with w:=-1}:=by simp[LS.bV,LS.pop,upd]
  let⟨b,n1,n2⟩:=d.en i n Z;have C:∀{k ob},((L.tk t).x=false->Iv V K X L t k ob (L.ag i).a)->((L.tk t).x=true->ob≠none)->Cu V K X ((L.pop i).bV t w) t k ob:=fun{k ob} c1 b=>by
   refine⟨⟨B,by rw[g];show(-1:Int)<0;decide,by rw[g];exact w2,λj H s T R=>?_⟩,λz=>?_,λz=>b (by rw[g]at z;exact z)⟩
   .by_cases e:j=i
    .subst e;simp[LS.bV,LS.pop,upd]at s
    .simp only[LS.bV,LS.pop,upd,af e]at s T R;have:=((d.en j H s).e0 T t R).2.2.1;omega
   .rw[g]at z;exact⟨d.up G ha t B z w2 i n p (az _),(c1 z).mv rfl rfl (by rw[g]) (by rw[g]) (by rw[g]) rfl⟩
  rcases O with ⟨x,p2,y,ch,p3,rfl,rfl,rfl⟩|⟨k0,ok,ol,O⟩
  .rw[W]at p2 p3 ⊢;have M:(L.wt w).x=false:=by
    rcases r with z|z
    .exact z.2
    .omega
   have D:=d.JB (i:=i) n B A a q f (.inr λk' z1 z2=>by have:(L.wt w).l=V.nl:=p2;omega);have l:=C (k:=V.nl) (ob:=some ⟨(L.wt w).b.k,(L.wt w).b.n,ch⟩) (λo=>(((n1 x w f).2 M q t a o).1 p2 y ch p3)) (λ_=>ψ);exact .mk D.s ⟨⟨l.tl,l.w,l.e,l.n⟩,l.a,l.z⟩
  .rw[W]at ol O;have ol:(L.wt w).l=k0:=ol;rcases O with ⟨x,b,rfl,rfl,rfl⟩|⟨x,p1,rfl,rfl,rfl⟩|⟨b,x,rfl,rfl,rfl⟩|⟨b,x,rfl,rfl,rfl⟩|⟨p6,x,rfl,rfl,b,of,rfl⟩|⟨p6,x,rfl,rfl,rfl⟩
   .have U:(L.wt w).x=true/\(L.wt w).z=3:=by
     rcases r with z|z
     .omega
     .exact⟨z.2.1,ω⟩
    have o:=d.z3 w A q U.1 U.2 t a;have D:=d.JB (i:=i) n B A a q f (.inl U.1);have l:=C (k:=k) (ob:=some (c9 5 k 0)) (λz=>by rw[o]at z;cases z) (λ_=>ψ);exact .mk D.s ⟨⟨l.tl,l.w,l.e,l.n⟩,l.a,l.z⟩
   .have M:(L.wt w).x=false:=by
     rcases r with z|z
     .exact z.2
     .omega
    have D:=d.JB (i:=i) n B A a q f (.inr λk' z1 z2=>by
     obtain rfl:k'=k0:=ω
     omega)
    exact .mk D (C (λo=>((n1 x w f).2 M q t a o).2 k0 ol ok p1) λo=>by
     have:=d.z2 w A q ω t a o;rw[M]at this;cases this)
   .have:=hK _ ok;omega
   .have:=hK _ ok;omega
   .have M:(L.wt w).x=false:=by
     rcases r with z|z
     .exact z.2
     .omega
    let⟨H,s⟩:=d.tmo hK P G ha x p f B A a q M ol ok p6 of;exact .mk H s
   .have U:(L.wt w).x=true:=by
     rcases r with z|z
     .omega
     .exact z.2.1
    have D:=d.JB (i:=i) n B A a q f (.inl U);exact .mk D (C (λo=>(n2 x w f).2.2 q t a o _ ol) λ_=>ψ)
def aaJ(j:wM V):JA V none (ko V):=.Fw (K:=λt=>DV V t) (X:=λ_=>1000000000000) (I:=λ_=>0) {
 nc:=az _
 ro:=λt b=>⟨rfl,rfl,rfl,rfl⟩
 rk:=λt b r d=>d
 tp:=λt k a=>absurd a (by show¬t<V.nc;omega)
 ou:=λc f h=>by cases h
 fa:=λt k a=>absurd a (by show¬t<V.nc;omega)
 wo:=λw a=>absurd a (uk _)
 ww:=λw a=>absurd a (uk _)
 oo:=λt b w a=>by have:(-1:Int)=w:=a;omega
 ch:=λw a=>absurd a (uk _)
 z2:=λw a=>absurd a (uk _)
 z3:=λw a=>absurd a (uk _)
 zf:=λt b g=>by cases g
 ti:=λi e=>⟨i,rfl,e⟩
 en:=λi e _=>⟨λ_ t b=>by
  obtain rfl:i=t:=by have:(i:Int)=t:=b;omega
  refine⟨rfl,rfl,by show(-1:Int)<0;decide,?_,λr d=>d⟩;have:=j.st i e;show V.st i<1000000000000;omega,λz=>(by cases z),λz=>(by cases z)⟩
 un:=λt u _ _ _ _ _ _ f _ _=>by have:(t:Int)=u:=f;omega}
def VE(h:JA V none L)(a:V.nc<=L.tl)(e:∀t,t<L.tl->(L.tk t).e=true):∀c,c<V.nc->∃u,DV V c ⟨some ((L.ou c).b,(L.ou c).a),u⟩:=λc a=>by
 let⟨K,X,I,b,_⟩:=h;let⟨u,d⟩:=b.ou c a (e c ω);exact⟨u,b.rk c a _ d⟩
def aaN{V':Ev0}{c':Nat}{f:Int}{e:Bk}{u g:Int}(l:V'.nl=V.nl)(k:V'.ly=V.ly)(j:aU V' c'=aU V c)(i:V'.st c'=V.st c)(h:DV V c ⟨some (b,a),u⟩)(d:DV V' c' ⟨some (e,f),g⟩):e=b/\f=a:=by
 unfold DV at*;rw[l,k,j,i]at d;have:=h.det d;simp only[Rs.mk.injEq,Option.some.injEq,Prod.mk.injEq]at this;exact⟨this.1.1.symm,this.1.2.symm⟩
def Ev.len{D:Nat->Lm}{X:Int}{q:Cf}{r:Rs}(h:Ev nl ly D p X q r):p<=q.k->q.k<=nl->(∀b,q.ob=some b->b.ch.length+q.k<=nl+1)->∀x,r.o=some x->x.1.ch.length+p<=nl+1:=by
 refine h (λp X q r=>p<=q.k->q.k<=nl->(∀b,q.ob=some b->b.ch.length+q.k<=nl+1)->∀x,r.o=some x->x.1.ch.length+p<=nl+1) ⟨?_,?_,?_,?_⟩
 .intro p X q _ _ _ _ x l;cases l
 .intro p X q b n m g u h t x l;cases l;have:=t _ g;dsimp only;omega
 .intro p X q s r n m g u k f j i o;have a:=k (az _) m λb c=>by cases c
  unfold co at f;cases d:s.o with
  |none=>
   rw[d]at f;exact f j i λb c=>by cases c;show 1+q.k<=nl+1;omega
  |some y=>
   rw[d]at f;have:=a y d;exact f j i λb c=>by cases c;show y.1.ch.length+q.k<=nl+1;omega
 .intro p X q r n m g k j i o;have key:p<=(Go.Proofs.YtobagnjnbmgidabGreatDoor.mv nl ly D q).k/\(Go.Proofs.YtobagnjnbmgidabGreatDoor.mv nl ly D q).k<=nl/\∀b,(Go.Proofs.YtobagnjnbmgidabGreatDoor.mv nl ly D q).ob=some b->b.ch.length+(Go.Proofs.YtobagnjnbmgidabGreatDoor.mv nl ly D q).k<=nl+1:=by
   unfold Go.Proofs.YtobagnjnbmgidabGreatDoor.mv;cases d:q.ob with
   |none=>
    dsimp only;split
    .refine⟨j,i,λb c=>?_⟩;have:(cN (D q.u.toNat)).ch.length<=1:=by
      unfold cN c9;split
      .exact az 1
      .split
       .exact az 1
       .split<;>exact gl 1
     cases c;show(cN (D q.u.toNat)).ch.length+q.k<=nl+1;omega
    .split
     .exact⟨by show p<=q.k+1;omega,by show q.k+1<=nl;omega,λb c=>by cases c⟩
     .exact⟨by show p<=q.k+1;omega,by show q.k+1<=nl;omega,λb c=>by cases c⟩
   |some b=>
    have a:=g (by rw[d];simp);have a:=o b d;have same:p<=q.k-1/\q.k-1<=nl/\∀e,some b=some e->e.ch.length+(q.k-1)<=nl+1:=⟨ω,ω,λe c=>by cases c;omega⟩;dsimp only;split
    .split
     .exact same
     .split
      .exact⟨same.1,same.2.1,λe c=>by cases c;show b.ch.length+1+(q.k-1)<=nl+1;omega⟩
      .exact⟨by show p<=q.k-1+1;omega,by show q.k-1+1<=nl;omega,λe c=>by cases c⟩
    .split
     .exact⟨same.1,same.2.1,λe c=>by cases c;show 1+(q.k-1)<=nl+1;omega⟩
     .exact same
  exact k key.1 key.2.1 key.2.2
def aaA{u:Int}(h:DV V c ⟨some (b,a),u⟩):b.ch.length<=V.nl+1:=Ev.len h (az 0) (gl _) (λ_ d=>by cases d) _ rfl
end
end Go.Proofs.YtobagnjnbmgidabGreatDoor
