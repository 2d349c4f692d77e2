import Derived.Test.YtobagnjnbmgidabGreatDoorA6
import Derived.Test.YtobagnjnbmgidabGreatDoorB2
set_option linter.all false
set_option maxHeartbeats 0
set_option maxRecDepth 100000
namespace Go.Proofs.YtobagnjnbmgidabGreatDoor
open Go.Conc Go.RowKit Tryz
variable{a:Act}{E:Env}{Z:LS->Prop}{B' N N0 c0 cap cA:Nat}{r:aH}{C:aW}{w':aj}{J X:aC}{W:cO}{sL:eP}{vs:iO}
variable{V:Ev0}{q x now aaL nx:Int}{L' M:LS}{t k c i el j B ng n m:Nat}{b:Bk}{vv:Nat->OZ}{e:OZ}{Y:Option Bk}{y:ju}{cur:Option (Nat×Nat×Option Bk)}{A:List Int}{sm U:Bool}{D:dh}{Q:gi}{P:aG}{Post:qz}{wI:aj}{l:aN}{s0 sa:eP}
section
variable{L:LS}{w:Nat}
end
section
variable{L:LS}{w:Nat}
end
section
variable{L:LS}{w:Nat}
def zG(a:Nat->qy):∀n,cj a n=-1->∀j,j<n->(a j).o=true
 |0,h,j,b=>ω
 |n+1,h,j,b=>by
  have:=zG a n;unfold cj at h;grind
def Eu(a:Nat->qy):∀n (i:Nat),cj a n=i->∀j,j<n->(a j).o=false->(a i).a<=(a j).a
 |0,i,h,j,f,b=>ω
 |n+1,i,h,j,f,b=>by
  have:=Eu a n;have c:=rS a n;unfold cj at h;split at h
  .rename_i z;have:i=n:=ω
   subst this;by_cases e:j=i
   .subst e;exact Int.le_refl _
   .rcases c with c|⟨k,g,d⟩
    .exfalso;have:=zG a i c j ω;rw[b]at this;cases this
    .have:=this k d j ω b;rw[d]at z;simp only[mY]at z;omega
  .rename_i z;by_cases e:j=n
   .subst e;rw[h]at z;simp only[mY]at z;have:¬((a j).a<(a i).a):=λy=>z ⟨b,.inr y⟩;omega
   .exact this i h j ω b
end
def nu(a:Nat->qy):∀n (i:Nat),cj a n=i->∀j,j<i->(a j).o=false->(a i).a<(a j).a
 |0,i,h,j,_,_=>by unfold cj at h;omega
 |n+1,i,h,j,c,b=>by
  unfold cj at h;split at h
  .rename_i e;obtain rfl:n=i:=ω
   rcases e.2 with d|d
   .rcases rS a n with z|⟨k,_,z⟩
    .have:=zG a n z j c;rw[b]at this;cases this
    .omega
   .rcases rS a n with z|⟨k,_,z⟩
    .have:=zG a n z j c;rw[b]at this;cases this
    .rw[z,mY]at d;have:=Eu a n k z j c b;omega
  .exact nu a n i h j c b
def NL(b:Bk):Prop:=∀x∈b.ch,x.k=4->x.l≠0
def Tm(V:Ev0)(c:Nat)(a:Int)(b:Bk):Prop:=(V.st c<=a/\a<V.st c+(V.ly 0).a/\NL b)\/(a=V.st c+(V.ly 0).a/\b=c9 4 0 0)
structure Dl(V:Ev0)(L:LS)(w c d:Nat):Prop where
 al:d<L.al
 a:(L.ag d).a=V.st c+(V.ly 0).a
 o:(L.ag d).o=false
 cc:(L.ag d).c=1
 ww:(L.ag d).w=w
 u:∀u:Nat,u<L.tl->(L.tk u).f=w->∀i,i<L.al->(L.ag i).t=u->d<i
structure OwW(V:Ev0)(L:LS)(w c:Nat):Prop where
 tw:(L.tk c).w=w
 n:V.st c<=L.now
 o:(L.ag c).o=true
 z:(L.wt w).x=true->(L.wt w).z=2
 d:(L.wt w).x=false->∃d,Dl V L w c d
structure kN(V:Ev0)(L:LS):Prop where
 nc:V.nc<=L.tl/\V.nc<=L.al
 tk:∀t:Nat,t<V.nc->(L.tk t).c=t/\(L.tk t).p=0/\(L.tk t).x=false
 tp:∀t:Nat,t<L.tl->V.nc<=t->(L.tk t).p≠0
 o:∀t:Nat,t<L.tl->∀w:Nat,(L.tk t).o=w->w<L.wl/\(L.wt w).t=t
 f:∀t:Nat,t<L.tl->∀w:Nat,(L.tk t).f=w->w<L.wl
 ag:∀i,i<L.al->(L.ag i).c=0->∀t:Nat,(L.ag i).t=t->t<V.nc->i=t
 fr:∀c,c<V.nc->(L.ag c).a=V.st c/\((L.ag c).o=false->(L.tk c).w<0)
 n:∀i,i<L.al->(L.ag i).o=false->L.now<=(L.ag i).a
 wb:∀w,w<L.wl->NL (L.wt w).b
 wt:∀w,w<L.wl->∃u:Nat,(L.wt w).t=u/\u<L.tl/\((L.wt w).l=0↔u<V.nc)
 e1:∀i,i<L.al->(L.ag i).c=1->∀w:Nat,(L.ag i).w=w->w<L.wl/\∀c:Nat,(L.wt w).t=c->c<V.nc->(L.ag i).a=V.st c+(V.ly 0).a
 e2:∀i,i<L.al->(L.ag i).c=2->∀w:Nat,(L.ag i).w=w->w<L.wl/\∀c:Nat,(L.wt w).t=c->c<V.nc->(L.ag i).a<V.st c+(V.ly 0).a
 ow:∀w,w<L.wl->∀c:Nat,(L.wt w).t=c->c<V.nc->(L.wt w).e=false->OwW V L w c
 en:∀c,c<V.nc->(L.tk c).e=true->Tm V c (L.ou c).a (L.ou c).b
 at':∀i,i<L.al->(L.ag i).t<L.tl
structure Ym(V:Ev0)(L L':LS):Prop where
 tl:L.tl<=L'.tl
 al:L.al<=L'.al
 wl:L.wl<=L'.wl
 now:L'.now=L.now
 own:∀u,u<V.nc->L'.tk u=L.tk u/\L'.ou u=L.ou u
 tk:∀u,u<L.tl->(L'.tk u).f=(L.tk u).f/\(L'.tk u).p=(L.tk u).p
 to:∀u,u<L.tl->∀w:Nat,(L'.tk u).o=w->(L.tk u).o=w\/(L.wl<=w/\w<L'.wl/\(L'.wt w).t=u)
 tp:∀u,L.tl<=u->u<L'.tl->(L'.tk u).p≠0/\(L'.tk u).o=-1
 tf:∀u,L.tl<=u->u<L'.tl->∀w:Nat,(L'.tk u).f=w->w<L'.wl/\∀c:Nat,(L'.wt w).t=c->V.nc<=c
 wt:∀w,w<L.wl->(L'.wt w).t=(L.wt w).t/\(L'.wt w).l=(L.wt w).l/\(NL (L.wt w).b->NL (L'.wt w).b)
 wo:∀w,w<L.wl->(L.wt w).t<V.nc->L'.wt w=L.wt w
 wn:∀w,L.wl<=w->w<L'.wl->NL (L'.wt w).b/\(L'.wt w).l≠0
 wu:∀w,L.wl<=w->w<L'.wl->V.nc<=(L'.wt w).t/\(L'.wt w).t<L'.tl
 ag:∀i,i<L.al->L'.ag i=L.ag i
 an:∀i,L.al<=i->i<L'.al->L.now<=(L'.ag i).a/\((L'.ag i).c=0->∀t:Nat,(L'.ag i).t=t->V.nc<=t)
 a1:∀i,L.al<=i->i<L'.al->(L'.ag i).c=1\/(L'.ag i).c=2->∀w:Nat,(L'.ag i).w=w->w<L'.wl/\∀c:Nat,(L'.wt w).t=c->V.nc<=c
 at':∀i,L.al<=i->i<L'.al->(L'.ag i).t<L'.tl
structure Pz(V:Ev0)(L:LS)(t:Nat):Prop where
 tl:t<L.tl
 nc:V.nc<=t
 nw:∀w:Nat,(L.tk t).f=w->(L.wt w).x=false->(L.wt w).e=false->∀c:Nat,(L.wt w).t=c->c<V.nc->L.now<V.st c+(V.ly 0).a
structure OwT(V:Ev0)(L:LS)(t:Nat):Prop where
 nc:t<V.nc
 tw:(L.tk t).w<0
 o:(L.ag t).o=true
abbrev kR(V:Ev0)(L:LS)(t:Nat):Prop:=kN V L/\Pz V L t
section
variable{L:LS}{w:Nat}
def NL.nil{y:Int}:NL ⟨x,y,[]⟩:=λ_ h=>by cases h
def NL.err{l n:Int}(h:x=4->l≠0):NL (c9 x l n):=by unfold NL c9;grind
def kN.mv(h:kN V L)(g:Ym V L L'):kN V L':=by
 have f:=g.tl;have f:=g.al;have f:=g.wl;have q:=g.now;have f:=h.nc;refine⟨ω,λt j=>?_,λt j k=>?_,λt j w b=>?_,λt j w b=>?_,λi l a t j n=>?_,λc a=>?_,λi l p=>?_,λw b=>?_,λw b=>?_,λi l a w b=>?_,λi l a w b=>?_,λw b c a n o=>?_,λc a o=>?_,λi l=>?_⟩
 .rw[(g.own t j).1];exact h.tk t j
 .by_cases e:t<L.tl
  .rw[(g.tk t e).2];exact h.tp t e k
  .exact(g.tp t ω j).1
 .by_cases e:t<L.tl
  .rcases g.to t e w b with z|⟨f,m,f⟩
   .have:=h.o t e w z;exact⟨ω,by rw[(g.wt w this.1).1];exact this.2⟩
   .exact⟨m,f⟩
  .have:=(g.tp t ω j).2;omega
 .by_cases e:t<L.tl
  .have:=h.f t e w ((g.tk t e).1▸b);omega
  .exact(g.tf t ω j w b).1
 .by_cases e:i<L.al
  .rw[g.ag i e]at a j;exact h.ag i e a t j n
  .have:=(g.an i ω l).2 a t j;omega
 .rw[g.ag c ω,(g.own c a).1];exact h.fr c a
 .rw[q];by_cases e:i<L.al
  .rw[g.ag i e]at p ⊢;exact h.n i e p
  .exact(g.an i ω l).1
 .by_cases e:w<L.wl
  .exact(g.wt w e).2.2 (h.wb w e)
  .exact(g.wn w ω b).1
 .by_cases e:w<L.wl
  .let⟨u,f,m,u3⟩:=h.wt w e;exact⟨u,by rw[(g.wt w e).1];exact f,ω,by rw[(g.wt w e).2.1];exact u3⟩
  .have k:=g.wu w ω b;have m:=(g.wn w ω b).2;exact⟨(L'.wt w).t.toNat,ω,ω,⟨λz=>absurd z m,λz=>ω⟩⟩
 .by_cases e:i<L.al
  .rw[g.ag i e]at a b ⊢;let⟨k,m⟩:=h.e1 i e a w b;exact⟨ω,λc f=>m c ((g.wt w k).1▸f)⟩
  .let⟨k,m⟩:=g.a1 i ω l (.inl a) w b;exact⟨k,λc f n=>by have:=m c f;omega⟩
 .by_cases e:i<L.al
  .rw[g.ag i e]at a b ⊢;let⟨k,m⟩:=h.e2 i e a w b;exact⟨ω,λc f=>m c ((g.wt w k).1▸f)⟩
  .let⟨k,m⟩:=g.a1 i ω l (.inr a) w b;exact⟨k,λc f n=>by have:=m c f;omega⟩
 .by_cases e:w<L.wl
  .have k:=(g.wt w e).1;have f:L'.wt w=L.wt w:=g.wo w e (by rw[<-k,a];omega);rw[f]at a o;let⟨t,s,r,m,k⟩:=h.ow w e c a n o;refine⟨by rw[(g.own c n).1];exact t,by rw[q];exact s,by rw[g.ag c ω];exact r,by rw[f];exact m,λz=>?_⟩;rw[f]at z;let⟨d,d1,d2,d3,n,m,q⟩:=k z;refine⟨d,ω,by rw[g.ag d d1];exact d2,by rw[g.ag d d1];exact d3,by rw[g.ag d d1];exact n,by rw[g.ag d d1];exact m,λu n d i l j=>?_⟩;by_cases m:i<L.al
   .by_cases k:u<L.tl
    .exact q u k ((g.tk u k).1▸d) i m (g.ag i m▸j)
    .have:=(g.tf u ω n w d).2 c (by rw[f];exact a);omega
   .omega
  .have:=(g.wu w ω b).1;omega
 .have:=g.own c a;rw[this.1]at o;rw[this.2];exact h.en c a o
 .by_cases e:i<L.al
  .rw[g.ag i e];have:=h.at' i e;omega
  .exact g.at' i ω l
def Pz.mv(h:Pz V L t)(b:∀w:Nat,(L.tk t).f=w->w<L.wl)(g:Ym V L L'):Pz V L' t:=⟨ga h.1 g.tl,h.2,λw d f e c j i=>by
 have a:=(g.tk t h.1).1▸d;have d:=b w a;have b:=(g.wt w d).1▸j;have j:=g.wo w d ω;rw[j]at f e;rw[g.now];exact h.3 w a f e c b i⟩
def kR.mv(h:kR V L t)(g:Ym V L L'):kR V L' t:=⟨h.1.mv g,h.2.mv (h.1.f t h.2.1) g⟩
def Ym.bY:Ym V L L:=by constructor<;>grind
def Ym.s{l r n:Int}:Ym V L (L.say t l r n):=by constructor<;>simp only[LS.say]<;>grind
def Ym.g{g:Gt}:Ym V L (L.aO k g):=by constructor<;>simp only[LS.aO]<;>grind
def Ym.us{f:Nat->Int}:Ym V L {L with us:=f}:=by constructor<;>grind
def Ym.ZY{x:Ot}(a:V.nc<=j)(a:x.p=(L.tk j).p/\x.f=(L.tk j).f/\x.o=(L.tk j).o):Ym V L {L with tk:=upd L.tk j x}:=by constructor<;>simp only[upd]<;>grind
def Ym.fix{z:Int}(a:w<L.wl)(a:V.nc<=(L.wt w).t/\(L.wt w).t<L.tl)(a:NL b):Ym V L (L.fix w z b):=by constructor<;>simp only[LS.fix,LS.put,upd]<;>grind
def Ym.wait{l d:Int}{cb:Bool}(a:t<L.tl)(a:V.nc<=t)(a:0<=d)(a:l≠0):Ym V L (L.wait t l d cb):=by
 have:=NL.nil (x:=0) (y:=0);constructor<;>simp only[LS.wait,LS.cB,LS.put,upd]<;>grind
def Ym.tH(a:w<L.wl)(a:V.nc<=(L.wt w).t)(a:NL b):Ym V L {L with wt:=upd L.wt w {L.wt w with b:=b}}:=by constructor<;>simp only[upd]<;>grind
def Ym.begin(a:w<L.wl)(a:V.nc<=(L.wt w).t)(a:V.nc<=L.tl):Ym V L (L.begin t w k):=by constructor<;>simp only[LS.begin,LS.put,upd]<;>grind
def Ym.bV(a:V.nc<=t)(a:V.nc<=(L.wt w).t):Ym V L (L.bV t w):=by constructor<;>simp only[LS.bV,upd]<;>grind
end
section
variable{L:LS}{w:Nat}
def kN.pop(h:kN V L)(o:cj L.ag L.al=i)(m:∀w,w<L.wl->(L.wt w).t<V.nc->(L.wt w).e=false->(L.wt w).x=false->¬((L.ag i).c=1/\(L.ag i).w=w)):kN V (L.pop i):=by
 let⟨s,r⟩:=qI _ _ _ o;have x:=Eu _ _ _ o;have l:=h.n i s r;have p:∀j,((L.pop i).ag j).c=(L.ag j).c/\((L.pop i).ag j).t=(L.ag j).t/\((L.pop i).ag j).w=(L.ag j).w/\((L.pop i).ag j).a=(L.ag j).a/\(j≠i->((L.pop i).ag j).o=(L.ag j).o)/\((L.ag j).o=true->((L.pop i).ag j).o=true)/\((L.pop i).ag i).o=true:=λj=>by simp only[LS.pop,upd];grind
 refine⟨h.nc,h.tk,h.tp,h.o,h.f,λj b a t g=>?_,λc a=>?_,λj b k=>?_,h.wb,h.wt,λj b a w f=>?_,λj b a w f=>?_,λw f c a v q=>?_,h.en,λj b=>by rw[(p j).2.1];exact h.at' j b⟩
 .rw[(p j).1]at a;rw[(p j).2.1]at g;exact h.ag j b a t g
 .have:=h.fr c a;refine⟨(p c).2.2.2.1.trans this.1,λz=>this.2 ?_⟩;cases e:(L.ag c).o with
  |false=>rfl
  |true=>rw[(p c).2.2.2.2.2.1 e]at z;cases z
 .have n:j≠i:=λe=>by rw[e,(p j).2.2.2.2.2.2]at k;cases k
  rw[(p j).2.2.2.2.1 n]at k;rw[(p j).2.2.2.1];exact x j b k
 .rw[(p j).1]at a;rw[(p j).2.2.1]at f;rw[(p j).2.2.2.1];exact h.e1 j b a w f
 .rw[(p j).1]at a;rw[(p j).2.2.1]at f;rw[(p j).2.2.2.1];exact h.e2 j b a w f
 .let⟨t,s,r,n,o⟩:=h.ow w f c a v q;refine⟨t,Int.le_trans s l,(p c).2.2.2.2.2.1 r,n,λz=>?_⟩;let⟨d,d1,d2,d3,n,l,r⟩:=o z;have h:d≠i:=λe=>m w f (by have a:(L.wt w).t=c:=a;omega) q z (by rw[<-e];exact⟨n,l⟩);exact⟨d,d1,by rw[(p d).2.2.2.1];exact d2,by rw[(p d).2.2.2.2.1 h];exact d3,by rw[(p d).1];exact n,by rw[(p d).2.2.1];exact l,λu c d j b g=>r u c d j b (by rw[<-(p j).2.1];exact g)⟩
def kN.Qm(h:kN V L)(o:w<L.wl)(i:(L.wt w).t=t)(r:t<V.nc)(s:(L.wt w).e=false):kN V (L.bV t w):=by
 have p:∀j,((L.bV t w).wt j).t=(L.wt j).t/\((L.bV t w).wt j).l=(L.wt j).l/\((L.bV t w).wt j).b=(L.wt j).b/\((L.bV t w).wt j).x=(L.wt j).x/\((L.bV t w).wt j).z=(L.wt j).z/\(((L.bV t w).wt j).e=false->j≠w/\(L.wt j).e=false):=λj=>by simp only[LS.bV,upd];grind
 have q:∀u,((L.bV t w).tk u).c=(L.tk u).c/\((L.bV t w).tk u).p=(L.tk u).p/\((L.bV t w).tk u).x=(L.tk u).x/\((L.bV t w).tk u).o=(L.tk u).o/\((L.bV t w).tk u).f=(L.tk u).f/\((L.bV t w).tk u).e=(L.tk u).e/\(u≠t->((L.bV t w).tk u).w=(L.tk u).w)/\((L.bV t w).tk t).w=-1:=λu=>by simp only[LS.bV,upd];grind
 have x:=(h.ow w o t i r s).1;refine⟨h.nc,λu f=>?_,λu f l=>?_,λu f v a=>?_,λu f v a=>?_,h.ag,λc b=>⟨(h.fr c b).1,λz=>?_⟩,h.n,λv a=>?_,λv a=>?_,λj m b v a=>?_,λj m b v a=>?_,λv a c b l k=>?_,λc b g=>?_,h.at'⟩
 .rw[(q u).1,(q u).2.1,(q u).2.2.1];exact h.tk u f
 .rw[(q u).2.1];exact h.tp u f l
 .rw[(q u).2.2.2.1]at a;rw[(p v).1];exact h.o u f v a
 .rw[(q u).2.2.2.2.1]at a;exact h.f u f v a
 .by_cases e:c=t
  .subst e;rw[(q c).2.2.2.2.2.2.2];decide
  .rw[(q c).2.2.2.2.2.2.1 e];exact(h.fr c b).2 z
 .rw[(p v).2.2.1];exact h.wb v a
 .rw[(p v).1,(p v).2.1];exact h.wt v a
 .rw[(p v).1];exact h.e1 j m b v a
 .rw[(p v).1];exact h.e2 j m b v a
 .rw[(p v).1]at b;let⟨_,i⟩:=(p v).2.2.2.2.2 k;let⟨n,o,m,k,j⟩:=h.ow v a c b l i;have i:c≠t:=λe=>by rw[e]at n;omega
  refine⟨by rw[(q c).2.2.2.2.2.2.1 i];exact n,o,m,by rw[(p v).2.2.2.1,(p v).2.2.2.2.1];exact k,λz=>?_⟩;let⟨d,d1,d2,d3,k,i,e⟩:=j ((p v).2.2.2.1▸z);exact⟨d,d1,d2,d3,k,i,λu f d=>e u f ((q u).2.2.2.2.1▸d)⟩
 .rw[(q c).2.2.2.2.2.1]at g;exact h.en c b g
def kN.aaF(h:kN V L)(y:w<L.wl)(G:NL b)(H:(L.wt w).x=false)(F:∀c:Nat,(L.wt w).t=c->c<V.nc->L.now<V.st c+(V.ly 0).a):kN V (L.fix w 2 b):=by
 have p:∀j,((L.fix w 2 b).wt j).t=(L.wt j).t/\((L.fix w 2 b).wt j).l=(L.wt j).l/\((L.fix w 2 b).wt j).e=(L.wt j).e/\(j≠w->(L.fix w 2 b).wt j=L.wt j)/\((L.fix w 2 b).wt w).x=true/\((L.fix w 2 b).wt w).z=2/\((L.fix w 2 b).wt w).b=b:=λj=>by simp only[LS.fix,LS.put,upd];grind
 have g:∀j,j<L.al->(L.fix w 2 b).ag j=L.ag j:=λj m=>by simp only[LS.fix,LS.put,upd];grind
 have q:(L.fix w 2 b).ag L.al=⟨L.now,(L.wt w).t,w,2,false⟩:=by simp only[LS.fix,LS.put,upd];grind
 have H:(L.fix w 2 b).al=L.al+1:=rfl;have H:=h.nc;have i:(L.fix w 2 b).tk=L.tk:=rfl;have x:(L.fix w 2 b).now=L.now:=rfl;have l:(L.fix w 2 b).tl=L.tl:=rfl;have k:(L.fix w 2 b).wl=L.wl:=rfl;have E:(L.fix w 2 b).ou=L.ou:=rfl;generalize L.fix w 2 b=M at*;refine⟨ω,by rw[i];exact h.tk,by rw[i,l];exact h.tp,λu o v a=>?_,by rw[i,l,k];exact h.f,λj m f t r b=>?_,λc f=>?_,λj m A=>?_,λv a=>?_,λv a=>?_,λj m f v a=>?_,λj m f v a=>?_,λv a c f s n=>?_,by rw[i,E];exact h.en,λj m=>?_⟩
 .rw[l]at o;rw[i]at a;rw[(p v).1,k];exact h.o u o v a
 .by_cases e:j<L.al
  .rw[g j e]at f r;exact h.ag j e f t r b
  .obtain rfl:j=L.al:=ω
   rw[q]at f;cases f
 .rw[g c ω,i];exact h.fr c f
 .rw[x];by_cases e:j<L.al
  .rw[g j e]at A ⊢;exact h.n j e A
  .obtain rfl:j=L.al:=ω
   rw[q];exact Int.le_refl _
 .rw[k]at a;by_cases e:v=w
  .subst e;rw[(p v).2.2.2.2.2.2];exact G
  .rw[(p v).2.2.2.1 e];exact h.wb v a
 .rw[k]at a;rw[(p v).1,(p v).2.1,l];exact h.wt v a
 .rw[(p v).1,k];by_cases e:j<L.al
  .rw[g j e]at f a ⊢;exact h.e1 j e f v a
  .obtain rfl:j=L.al:=ω
   rw[q]at f;cases f
 .rw[(p v).1,k];by_cases e:j<L.al
  .rw[g j e]at f a ⊢;exact h.e2 j e f v a
  .obtain rfl:j=L.al:=ω
   rw[q]at a ⊢;have a:(w:Int)=v:=a;obtain rfl:w=v:=ω
   exact⟨y,F⟩
 .rw[k]at a;rw[(p v).1]at f;rw[(p v).2.2.1]at n;let⟨t,k,b,D,C⟩:=h.ow v a c f s n;refine⟨by rw[i];exact t,by rw[x];exact k,by rw[g c ω];exact b,λz=>?_,λz=>?_⟩
  .by_cases e:v=w
   .subst e;exact(p v).2.2.2.2.2.1
   .rw[(p v).2.2.2.1 e]at z ⊢;exact D z
  .by_cases e:v=w
   .subst e;rw[(p v).2.2.2.2.1]at z;cases z
   .rw[(p v).2.2.2.1 e]at z;let⟨d,d1,d2,d3,k,c,b⟩:=C z;refine⟨d,ω,by rw[g d d1];exact d2,by rw[g d d1];exact d3,by rw[g d d1];exact k,by rw[g d d1];exact c,λu o B j m r=>?_⟩;rw[l]at o;rw[i]at B;by_cases e:j<L.al
    .exact b u o B j e (by rw[<-g j e];exact r)
    .omega
 .rw[l];by_cases e:j<L.al
  .rw[g j e];exact h.at' j e
  .obtain rfl:j=L.al:=ω
   rw[q];let⟨u,_,b,_⟩:=h.wt w y;show(L.wt w).t<L.tl;omega
def kN.done(h:kN V L)(a:V.nc<=t):kN V (L.done t):=h.mv (.ZY a ⟨rfl,rfl,rfl⟩)
def kN.out(h:kN V L)(a:t<V.nc)(a:Tm V t L.now b):kN V (LS.done {L with ou:=upd L.ou t ⟨L.now,b⟩} t):=by
 have q:∀u,((LS.done {L with ou:=upd L.ou t ⟨L.now,b⟩} t).tk u).c=(L.tk u).c/\((LS.done {L with ou:=upd L.ou t ⟨L.now,b⟩} t).tk u).p=(L.tk u).p/\((LS.done {L with ou:=upd L.ou t ⟨L.now,b⟩} t).tk u).x=(L.tk u).x/\((LS.done {L with ou:=upd L.ou t ⟨L.now,b⟩} t).tk u).o=(L.tk u).o/\((LS.done {L with ou:=upd L.ou t ⟨L.now,b⟩} t).tk u).f=(L.tk u).f/\((LS.done {L with ou:=upd L.ou t ⟨L.now,b⟩} t).tk u).w=(L.tk u).w:=λu=>by simp only[LS.done,upd];grind
 refine⟨h.nc,λu a=>?_,λu a g=>?_,λu a v e=>?_,λu a v e=>?_,h.ag,λc b=>⟨(h.fr c b).1,λz=>?_⟩,h.n,h.wb,h.wt,h.e1,h.e2,λv e c b g f=>?_,?_,h.at'⟩
 .rw[(q u).1,(q u).2.1,(q u).2.2.1];exact h.tk u a
 .rw[(q u).2.1];exact h.tp u a g
 .rw[(q u).2.2.2.1]at e;exact h.o u a v e
 .rw[(q u).2.2.2.2.1]at e;exact h.f u a v e
 .rw[(q c).2.2.2.2.2];exact(h.fr c b).2 z
 .let⟨m,l,k,j,i⟩:=h.ow v e c b g f;refine⟨by rw[(q c).2.2.2.2.2];exact m,l,k,j,λz=>?_⟩;let⟨d,d1,d2,d3,f,b,c⟩:=i z;exact⟨d,d1,d2,d3,f,b,λu a b=>c u a ((q u).2.2.2.2.1▸b)⟩
 .have:=h.en;simp only[LS.done,upd];grind
end
def Bc(V:Ev0)(cur:Option (Nat×Nat×Option Bk))(L:LS):Prop:=kN V L/\∀t k Y,cur=some (t,k,Y)->(Pz V L t/\∀b,Y=some b->NL b)\/(OwT V L t/\k=0/\((Y=none/\L.now=V.st t)\/∃b,Y=some b/\Tm V t L.now b))
section
variable{L:LS}{w:Nat}
def kN.own(h:kN V L)(O:OwT V L t)(E:L.now=V.st t)(K:0<=(V.ly 0).a):kN V ((L.wait t 0 (V.ly 0).a true).begin t L.wl 0):=by
 have K:=h.nc;have J:=O.nc;have l:∀u,u<L.tl->(((L.wait t 0 (V.ly 0).a true).begin t L.wl 0).tk u).c=(L.tk u).c/\(((L.wait t 0 (V.ly 0).a true).begin t L.wl 0).tk u).p=(L.tk u).p/\(((L.wait t 0 (V.ly 0).a true).begin t L.wl 0).tk u).x=(L.tk u).x/\(((L.wait t 0 (V.ly 0).a true).begin t L.wl 0).tk u).f=(L.tk u).f/\(((L.wait t 0 (V.ly 0).a true).begin t L.wl 0).tk u).e=(L.tk u).e/\(u≠t->((L.wait t 0 (V.ly 0).a true).begin t L.wl 0).tk u=L.tk u)/\(((L.wait t 0 (V.ly 0).a true).begin t L.wl 0).tk t).w=L.wl/\(((L.wait t 0 (V.ly 0).a true).begin t L.wl 0).tk t).o=L.wl:=λu f=>by simp only[LS.begin,LS.wait,LS.cB,LS.put,upd];grind
 have B:(((L.wait t 0 (V.ly 0).a true).begin t L.wl 0).tk L.tl).p=1/\(((L.wait t 0 (V.ly 0).a true).begin t L.wl 0).tk L.tl).o=-1/\(((L.wait t 0 (V.ly 0).a true).begin t L.wl 0).tk L.tl).f=L.wl:=by simp only[LS.begin,LS.wait,LS.cB,LS.put,upd];grind
 have n:∀v,v<L.wl->((L.wait t 0 (V.ly 0).a true).begin t L.wl 0).wt v=L.wt v:=λv b=>by simp only[LS.begin,LS.wait,LS.cB,LS.put,upd];grind
 have o:((L.wait t 0 (V.ly 0).a true).begin t L.wl 0).wt L.wl=⟨t,0,false,false,⟨0,0,[]⟩,0,L.tl⟩:=by simp only[LS.begin,LS.wait,LS.cB,LS.put,upd];grind
 have i:∀j,j<L.al->((L.wait t 0 (V.ly 0).a true).begin t L.wl 0).ag j=L.ag j:=λj g=>by simp only[LS.begin,LS.wait,LS.cB,LS.put,upd];grind
 have m:((L.wait t 0 (V.ly 0).a true).begin t L.wl 0).ag L.al=⟨L.now+(V.ly 0).a,t,L.wl,1,false⟩:=by simp only[LS.begin,LS.wait,LS.cB,LS.put,upd];grind
 have A:((L.wait t 0 (V.ly 0).a true).begin t L.wl 0).ag (L.al+1)=⟨L.now,L.tl,0,0,false⟩:=by simp only[LS.begin,LS.wait,LS.cB,LS.put,upd];grind
 have P:((L.wait t 0 (V.ly 0).a true).begin t L.wl 0).tl=L.tl+1:=rfl;have K:((L.wait t 0 (V.ly 0).a true).begin t L.wl 0).wl=L.wl+1:=rfl;have K:((L.wait t 0 (V.ly 0).a true).begin t L.wl 0).al=L.al+2:=rfl;have D:((L.wait t 0 (V.ly 0).a true).begin t L.wl 0).now=L.now:=rfl;have N:((L.wait t 0 (V.ly 0).a true).begin t L.wl 0).ou=L.ou:=rfl;generalize (L.wait t 0 (V.ly 0).a true).begin t L.wl 0=M at*;have q:∀j,j<M.al->j<L.al\/j=L.al\/j=L.al+1:=λj g=>ω
 have C:∀v,v<M.wl->v<L.wl\/v=L.wl:=λv b=>ω
 have r:∀u,u<M.tl->u<L.tl\/u=L.tl:=λu f=>ω
 refine⟨ω,λu f=>?_,λu f p=>?_,λu f v b=>?_,λu f v b=>?_,λj g a u f p=>?_,λc a=>?_,λj g I=>?_,λv b=>?_,λv b=>?_,λj g a v b=>?_,λj g a v b=>?_,λv b c a F s=>?_,λc a x=>?_,λj g=>?_⟩
 .have:=l u ω;have:=h.tk u f;grind
 .rcases r u f with z|rfl
  .rw[(l u z).2.1];exact h.tp u z p
  .rw[B.1];decide
 .rcases r u f with z|rfl
  .by_cases e:u=t
   .subst e;rw[(l u z).2.2.2.2.2.2.2]at b;obtain rfl:v=L.wl:=ω
    exact⟨ω,by rw[o]⟩
   .rw[(l u z).2.2.2.2.2.1 e]at b;have:=h.o u z v b;exact⟨ω,by rw[n v this.1];exact this.2⟩
  .rw[B.2.1]at b;omega
 .rcases r u f with z|rfl
  .rw[(l u z).2.2.2.1]at b;have:=h.f u z v b;omega
  .rw[B.2.2]at b;omega
 .rcases q j g with z|rfl|rfl
  .rw[i j z]at a f;exact h.ag j z a u f p
  .rw[m]at a;cases a
  .rw[A]at f;have f:(L.tl:Int)=u:=f;omega
 .rw[i c ω];refine⟨(h.fr c a).1,λz=>?_⟩;by_cases e:c=t
  .subst e;rw[O.o]at z;cases z
  .rw[(l c ω).2.2.2.2.2.1 e];exact(h.fr c a).2 z
 .rw[D];rcases q j g with z|rfl|rfl
  .rw[i j z]at I ⊢;exact h.n j z I
  .rw[m];show L.now<=L.now+(V.ly 0).a;omega
  .rw[A];exact Int.le_refl _
 .rcases C v b with z|rfl
  .rw[n v z];exact h.wb v z
  .rw[o];exact .nil
 .rcases C v b with z|rfl
  .let⟨u,p,K,u3⟩:=h.wt v z;exact⟨u,by rw[n v z];exact p,ω,by rw[n v z];exact u3⟩
  .exact⟨t,by rw[o],ω,by rw[o];exact⟨λ_=>J,λ_=>rfl⟩⟩
 .rcases q j g with z|rfl|rfl
  .rw[i j z]at a b ⊢;let⟨H,G⟩:=h.e1 j z a v b;exact⟨ω,by rw[n v H];exact G⟩
  .rw[m]at b ⊢;have b:(L.wl:Int)=v:=b;obtain rfl:L.wl=v:=ω
   refine⟨ω,λc a _=>?_⟩;rw[o]at a;have a:(t:Int)=c:=a;obtain rfl:t=c:=ω
   rw[<-E]
  .rw[A]at a;cases a
 .rcases q j g with z|rfl|rfl
  .rw[i j z]at a b ⊢;let⟨H,G⟩:=h.e2 j z a v b;exact⟨ω,by rw[n v H];exact G⟩
  .rw[m]at a;cases a
  .rw[A]at a;cases a
 .rcases C v b with z|rfl
  .rw[n v z]at a s;let⟨K,J,H,G,C⟩:=h.ow v z c a F s;have p:c≠t:=λe=>by have:=O.tw;rw[<-e]at this;omega
   refine⟨by rw[(l c ω).2.2.2.2.2.1 p];exact K,by rw[D];exact J,by rw[i c ω];exact H,by rw[n v z];exact G,λy=>?_⟩;rw[n v z]at y;let⟨d,d1,d2,d3,p,n,Q⟩:=C y;refine⟨d,ω,by rw[i d d1];exact d2,by rw[i d d1];exact d3,by rw[i d d1];exact p,by rw[i d d1];exact n,λu f w j g k=>?_⟩;rcases r u f with y|rfl
   .by_cases e:j<L.al
    .exact Q u y ((l u y).2.2.2.1▸w) j e (by rw[<-i j e];exact k)
    .omega
   .rw[B.2.2]at w;omega
  .rw[o]at a;have a:(t:Int)=c:=a;obtain rfl:t=c:=ω
   refine⟨(l t ω).2.2.2.2.2.2.1,by rw[D,E];exact Int.le_refl _,by rw[i t ω];exact O.o,λz=>(by rw[o]at z;cases z),λ_=>⟨L.al,ω,by rw[m,<-E],by rw[m],by rw[m],by rw[m],λu f w j g k=>?_⟩⟩;rcases r u f with y|rfl
   .rw[(l u y).2.2.2.1]at w;have:=h.f u y L.wl w;omega
   .rcases q j g with z|rfl|rfl
    .rw[i j z]at k;have:=h.at' j z;omega
    .rw[m]at k;have k:(t:Int)=L.tl:=k;omega
    .omega
 .rw[(l c ω).2.2.2.2.1]at x;rw[N];exact h.en c a x
 .rw[P];rcases q j g with z|rfl|rfl
  .rw[i j z];have:=h.at' j z;omega
  .rw[m];show(t:Int)<_;omega
  .rw[A];show(L.tl:Int)<_;omega
end
section
variable{L:LS}{w:Nat}
def Bc.KF(h:kR V L t):Bc V (some (t,k,none)) L:=⟨h.1,λ_ _ _ e=>by cases e;exact .inl ⟨h.2,λ_ z=>by cases z⟩⟩
def Bc.go(h:kR V L t)(a:NL b):Bc V (some (t,k,some b)) L:=⟨h.1,λ_ _ _ e=>by cases e;exact .inl ⟨h.2,λ_ z=>by cases z;exact a⟩⟩
def Bc.err{x l n:Int}(h:kR V L t)(a:x≠4):Bc V (some (t,k,some (c9 x l n))) L:=.go h (.err λz=>absurd z a)
def Bc.Fw(h:kN V L):Bc V none L:=⟨h,λ_ _ _ e=>by cases e⟩
def kR.s{l r n:Int}(h:kR V L t):kR V (L.say t l r n) t:=h.mv .s
def kR.g{g:Gt}(h:kR V L t):kR V (L.aO k g) t:=h.mv .g
def Ax:∀(a:aN)(L:LS),(a.foldl LS.iC L).tl=L.tl
 |[],L=>rfl
 |j::a,L=>(Ax a (L.iC j)).trans (by unfold LS.iC;split<;>rfl)
def JA{P:LS->Prop}(c:∀L L',P L->Ym V L L'->P L'):∀(a:aN)(L:LS),(∀j∈a,V.nc<=j)->P L->P (a.foldl LS.iC L)
 |[],L,_,h=>h
 |j::a,L,b,h=>JA c a (L.iC j) (λu a=>b u (aP _ a)) (by
  unfold LS.iC;split
  .exact h
  .exact c _ _ h (.ZY (b j (bI ..)) ⟨rfl,rfl,rfl⟩))
def JC{P:LS->Prop}(d:∀L L',P L->Ym V L L'->P L')(f:∀L,P L->kN V L):∀(a:aN)(L:LS),(∀j∈a,j<L.tl/\V.nc<=j)->P L->P (a.foldl LS.jv L)
 |[],L,_,h=>h
 |j::a,L,c,h=>JC d f a (L.jv j) (λu g=>by
  have:=c u (aP _ g)
  have e:(L.jv j).tl=L.tl:=by unfold LS.jv LS.qA;repeat' split
                              all_goals rfl
  rw[e];exact this) (by
  unfold LS.jv LS.qA;split
  .exact h
  .split
   .rename_i k _;have i:=c j (bI ..);obtain⟨v,b⟩:∃v:Nat,(L.tk j).o=v:=⟨(L.tk j).o.toNat,ω⟩;have:=(f L h).o j i.1 v b;rw[b,mY];exact d _ _ h (.fix this.1 (by rw[this.2];omega) .nil)
   .exact h)
def JE{P:LS->Prop}(c:∀L L',P L->Ym V L L'->P L')(a:∀L,P L->kN V L){oL:aN}(b:∀j∈oL,j<L.tl/\V.nc<=j)(h:P L):P (L.cancel oL):=
 JC c a oL _ (λj a=>by rw[Ax];exact b j a) (JA c oL L (λj a=>(b j a).2) h)
def NL.xm(x:Lm):NL (cN x):=by
 unfold cN
 repeat' split
 .exact .err δ
 .exact .err δ
 .exact .nil
 .exact .nil
def JV(g:wM V)(H:0<V.nl)(h:kR V L t)(a:k<=V.nl)(a:0<k)(T:mC V L t):Bc V ((L.step V t k none).2.map λq=>(t,q.1,q.2)) (L.step V t k none).1:=by
 have f:=h.2.tl;have a:=h.2.nc;have b:(k:Int)≠0:=ω
 unfold LS.step;dsimp only;split
 .let⟨c,e,i⟩:=T.c;rw[e,mY];have e:0<=(aU V c (L.us c).toNat).t:=by
   unfold aU;split
   .exact(g.tr c i _ ‹_›).2.1
   .exact Int.le_refl 0
  have i:∀u n,kR V (LS.say {L with us:=u} t (-1) 1 n) t:=λu n=>(h.mv (.us (f:=u))).s;split
  .exact .go (i _ _).s (.xm _)
  .have l:=λu n d (j:0<=d)=>(i u n).mv (.wait (l:=V.nl) (d:=d) (cb:=false) f a j ω);refine .Fw ((l _ _ _ e).1.mv (.tH (gr _) ?_ ?_))
   .simp only[LS.say,LS.wait,LS.cB,LS.put,upd];grind
   .have:=NL.xm (aU V c (L.us c).toNat);unfold NL at*;grind
 .unfold LS.jg LS.pass LS.take LS.uX;have d:kR V (L.aM t k) t:=by
   unfold LS.aM;split
   .exact h.g.s
   .exact h
  have c:kR V ((L.aM t k).cz k) t:=by
   unfold LS.cz;split
   .exact d.g
   .exact d
  repeat' split
  .exact .KF (h.mv (.ZY a ⟨rfl,rfl,rfl⟩))
  .exact .err h.s δ
  .exact .KF h.g.s
  .exact .KF h.g.s
  .exact .err h.s δ
  .exact .err d.s δ
  .exact .KF (kR.s (L:=((L.aM t k).cz k).mark t k) (c.mv (.ZY a ⟨rfl,rfl,rfl⟩)))
  .exact .KF h.g.s
  .exact .err h.s δ
  .exact .err h.s.s δ
  .exact .Fw (h.s.1.mv (.wait f a (g.ro k ω (by assumption)).2.1 b))
  .exact .err h.s δ
  .have c:=h.1.mv (.wait (l:=k) (d:=(V.ly k).a) (cb:=true) f a (by have:=g.li k ω (by assumption);omega) b);refine .Fw (c.mv (.begin (gr _) ?_ c.nc.1));simp only[LS.wait,LS.cB,LS.put,upd];grind
  .exact .KF h
def JX(h:kR V L t)(f:NL b)(e:(L.tk t).p≠0)(T:mC V L t):kN V (L.end_ t b):=by
 unfold LS.end_;rw[af e];refine kN.done ?_ h.2.nc;unfold LS.qA;rcases T.p with ⟨z,_⟩|⟨w,j,c,d,i,g,_⟩
 .contradiction
 .rw[c,mY];split
  .rename_i a;exact h.1.aaF d f a.1 (h.2.nw w c a.1 a.2)
  .exact h.1
def JU(v:wM V)(h:kR V L t)(a:NL b)(s:k<=V.nl)(m:0<(L.tk t).p)(r:(L.tk t).p<=k)(T:mC V L t):Bc V ((L.step V t k (some b)).2.map λq=>(t,q.1,q.2)) (L.step V t k (some b)).1:=by
 have l:=h.2.tl;have f:=h.2.nc;unfold LS.step;dsimp only;split
 .exact .Fw (JX h a ω T)
 .obtain⟨j,rfl⟩:∃j,k=j+1:=⟨k-1,ω⟩
  rw[eM];have g:(j:Int)≠0:=ω
  have e:∀x,kR V {L.say t j 3 x with tk:=upd (L.say t j 3 x).tk t {(L.say t j 3 x).tk t with a:=upd ((L.say t j 3 x).tk t).a j ((L.tk t).a j+1)}} t:=λx=>h.s.mv (.ZY f ⟨rfl,rfl,rfl⟩);have n:kR V (L.count (V.ly j) t j b) t:=by
   unfold LS.count;dsimp only
   repeat' split
   all_goals first|exact h|exact h.g|exact h.g.s
  have d:NL ⟨2,0,⟨7,j,0⟩::b.ch⟩:=by unfold NL at*;grind
  unfold LS.fC
  repeat' split
  .exact .go h a
  .exact .go h.s d
  .exact .err (e _).s δ
  .exact .Fw ((e _).1.mv (.wait l f ω g))
  .exact .KF (e _)
  .exact .go n a
  .rename_i w i;have c:=Kz i;let⟨u,p,o,u3⟩:=h.1.wt w c.1;exact .go (h.s.mv (.fix c.1 (by
    show _<=(L.wt w).t/\(L.wt w).t<L.tl;have:¬u<V.nc:=λz=>g (c.2.1.symm.trans (u3.2 z));omega) .nil)) a
  .exact .go h.s.g a
  .exact .err h.s δ
  .exact .go h a
def Iv(f:wM V)(H:0<V.nl/\(V.ly 0).k=6)(h:Bc V (some (t,k,Y)) L)(T:∀u,u<L.tl->mC V L u)(i:k<=V.nl)(j:(L.tk t).p<=k):Bc V ((L.step V t k Y).2.map λq=>(t,q.1,q.2)) (L.step V t k Y).1:=by
 let⟨c,m⟩:=h;rcases m t k Y rfl with ⟨a,n⟩|⟨O,rfl,o⟩
 .have h:=c.tp t a.tl a.nc;cases Y with
  |none=>exact JV f H.1 ⟨c,a⟩ i ω (T t a.tl)
  |some b=>exact JU f ⟨c,a⟩ (n b rfl) i ω j (T t a.tl)
 .have d:=c.tk t O.nc;rcases o with ⟨rfl,l⟩|⟨b,rfl,g⟩
  .have:=f.li 0 H.1 H.2;have e:L.step V t 0 none=((L.wait t 0 (V.ly 0).a true).begin t L.wl 0,none):=by
    unfold LS.step LS.uX;dsimp only;rw[af ω,af (by rw[H.2];decide),af (by rw[H.2];decide),af (by rw[H.2];decide),af (by rw[H.2];decide),sJ H.2,af (by rw[d.2.2];decide)];rfl
   rw[e];exact .Fw (c.own O l ω)
  .have e:L.step V t 0 (some b)=(LS.done {L with ou:=upd L.ou t ⟨L.now,b⟩} t,none):=by
    unfold LS.step LS.end_;dsimp only;rw[sJ d.2.1.symm,sJ d.2.1,d.1,mY]
   rw[e];exact .Fw (c.out O.nc g)
end
section
variable{L:LS}{w:Nat}
def Pz.pop(h:kN V L)(e:cj L.ag L.al=i)(b:t<L.tl)(f:V.nc<=t)(a:(L.ag i).t=t):Pz V (L.pop i) t:=⟨b,f,λw f m l c k j=>by
 let⟨g,n⟩:=qI _ _ _ e;let⟨d,d1,d2,d3,_,_,n⟩:=(h.ow w (h.f t b w f) c k j l).d m;have:=nu _ _ _ e d (n t b f i g a) d3;rw[d2]at this;exact this⟩
def JQ(h:kN V L)(j:cj L.ag L.al=i)(c:t<V.nc)(d:w<L.wl)(a:(L.wt w).t=t)(f:(L.wt w).e=false)(g:(L.ag i).w=w):kN V ((L.pop i).bV t w)/\OwT V ((L.pop i).bV t w) t:=by
 have k:=(h.Qm d a c f).pop (i:=i) j λv g _ b _ z=>by
  have e:v=w:=by
   have g:(L.ag i).w=v:=z.2;omega
  subst e;simp[LS.bV,upd]at b
 refine⟨k,c,by simp[LS.bV,upd],?_⟩;have:=(h.ow w d t a c f).o;simp only[LS.bV,LS.pop,upd];grind
def VE(hV:wM V)(H:0<V.nl/\(V.ly 0).k=6):Xb V (Bc V) where
 step:=λt k Y L h S T hk Z=>Iv hV H h T hk Z
 start:=λi t L h G c f q=>by
  let⟨o,E⟩:=qI _ _ _ c;have l:=h.1.pop c λw _ _ _ _ z=>by rw[q]at z;cases z.1
  by_cases e:t<V.nc
  .obtain rfl:=h.1.ag i o q t f e;have j:=h.1.fr i e;refine⟨l,λ_ _ _ z=>?_⟩;cases z;exact .inr ⟨⟨e,j.2 E,by simp[LS.pop,upd]⟩,(h.1.tk i e).2.1,.inl ⟨rfl,j.1⟩⟩
  .exact .KF ⟨l,.pop h.1 c G ω f⟩
 late:=λi w L h c q p F=>.Fw (h.1.pop c λv _ _ l j z=>by
  obtain rfl:v=w:=by have:=z.2;omega
  rcases F with y|y
  .rw[j]at y;cases y
  .rw[l]at y;cases y)
 JB:=λi t w L k Y L' h k G p N c f n d U S O=>by
  let⟨o,E⟩:=qI _ _ _ c;have b:(((L.pop i).bV t w).wt w).l=(L.wt w).l/\(((L.pop i).bV t w).wt w).b=(L.wt w).b:=by simp only[LS.bV,LS.pop,upd];grind
  have s:=h.1.wb w p;let⟨u,_,k,u3⟩:=h.1.wt w p;obtain rfl:u=t:=ω
  by_cases e:u<V.nc
  .have J:=u3.2 e;let⟨l,j⟩:=JQ h.1 c e p d U n;let⟨_,X,_,W,k⟩:=h.1.ow w p u d e U;have hn:=h.1.n i o E;rcases O with ⟨a,Q,y,ch,B,rfl,rfl,rfl⟩|⟨R,ok,ol,O⟩
   .rw[b.1,J]at Q;omega
   .rw[b.1,J]at ol;obtain rfl:R=0:=ω
    rcases O with ⟨a,D,rfl,rfl,rfl⟩|⟨a,C,rfl,rfl,rfl⟩|⟨m,a,rfl,rfl,rfl⟩|⟨m,a,rfl,rfl,rfl⟩|⟨A,a,rfl,rfl,r,of,rfl⟩|⟨A,a,rfl,rfl,rfl⟩
    .rcases N with z|z
     .omega
     .have:=W z.2.1;omega
    .rw[H.2]at C;cases C
    .rw[H.2]at m;cases m
    .rw[H.2]at m;cases m
    .have P:=(h.1.e1 i o a w n).2 u d e;have K:=JE (V:=V) (P:=λM=>kN V M/\OwT V M u/\M.now=V.st u+(V.ly 0).a) (λM M' g y=>⟨g.1.mv y,⟨e,by rw[(y.own u e).1];exact g.2.1.tw,by rw[y.ag u (by have:=g.1.nc;omega)];exact g.2.1.o⟩,y.now.trans g.2.2⟩) (λM g=>g.1) (L:=((L.pop i).bV u w).say u (0:Nat) 15 0) (oL:=r) of ⟨l.mv .s,⟨e,j.tw,j.o⟩,P⟩;exact⟨K.1,λ_ _ _ z=>by cases z;exact .inr ⟨K.2.1,rfl,.inr ⟨_,rfl,.inr ⟨K.2.2,rfl⟩⟩⟩⟩
    .have P:=(h.1.e2 i o a w n).2 u d e;refine⟨l,λ_ _ _ z=>?_⟩;cases z;exact .inr ⟨j,rfl,.inr ⟨_,rfl,.inl ⟨Int.le_trans X hn,P,by rw[b.2];exact s⟩⟩⟩
  .have J:(L.wt w).l≠0:=λz=>e (u3.1 z);have I:kR V ((L.pop i).bV u w) u:=kR.mv ⟨h.1.pop c λv d l _ _ z=>(by
    have d:=z.2;obtain rfl:v=w:=ω
    omega),.pop h.1 c G ω f⟩ (.bV ω (by show _<=(L.wt w).t;omega))
   rcases O with ⟨a,Q,y,ch,B,rfl,rfl,rfl⟩|⟨R,ok,ol,O⟩
   .refine .go I.s ?_;rw[b.2]at B;unfold NL at*;rw[B]at s;exact λx F=>s x (aP _ F)
   .rw[b.1]at ol;rcases O with ⟨a,D,rfl,rfl,rfl⟩|⟨a,C,rfl,rfl,rfl⟩|⟨m,a,rfl,rfl,rfl⟩|⟨m,a,rfl,rfl,rfl⟩|⟨A,a,rfl,rfl,r,of,rfl⟩|⟨A,a,rfl,rfl,rfl⟩
    .exact .err I.s δ
    .exact .KF I
    .exact .err I.s δ
    .exact .KF I.s
    .exact .go (JE (P:=λM=>kR V M u) (λM M' g y=>g.mv y) (λM g=>g.1) of I.s) (.err λ_=>ω)
    .exact .go I (by rw[b.2];exact s)
def aan(g:wM V):Bc V none (ko V):=.Fw ⟨⟨az _,az _⟩,λt e=>⟨rfl,rfl,rfl⟩,λt (e:t<V.nc) h=>ω,λt e w a=>(by cases a),λt e w a=>(by cases a),λi b _ t (e:(i:Int)=t) _=>ω,λc d=>⟨rfl,λ_=>by show(-1:Int)<0;decide⟩,λi b _=>(g.st i b).1,λw a=>absurd a (uk _),λw a=>absurd a (uk _),λi b d=>(by cases d),λi b d=>(by cases d),λw a=>absurd a (uk _),λc d f=>(by cases f),λi (b:i<V.nc)=>by show(i:Int)<(V.nc:Int);omega⟩
end
abbrev oG(L:oF)(i:Nat):List Value:=[i6 (L i 0),i6 (L i 1),i6 (L i 2),i6 (L i 3),i6 (L i 4),i6 (L i 5)]
def iI(F:aB prog U (DX D) Q)(o:HB B D){w:aj}{M:aW}(n lo d:Int)(m:Sat D w M)(a:B<=w.heap.size)(K:∀w',Sat D w' M->w.heap.size<=w'.heap.size->Q (G (X.finish (.bool (eB lo n d))) W) w'):Q (G (Frame.enter prog 58 #[i6 lo,i6 n,i6 d] .normal) (X::W)) w:=by
 by_cases p:lo<=n
 .have j:decide (lo<=n)=true:=ξ
  refine cJ func58 m 15 λJ r s q b c a l h=>ZI F o b c a l 16 [] 126 [] 6 (.bool (decide (n<=d))) 16 1 [] [] [(decide (lo<=n),true)] [] [] λf k g i=>?_;have e:eB lo n d=decide (n<=d):=by unfold eB;simp[p]
  rw[e]at K;exact K f k.sat ω
 .have j:decide (lo<=n)=false:=ξ
  refine cJ func58 m 15 λJ r s q b c a l h=>ZI F o b c a l 16 [] 84 [] 6 (.bool false) 16 1 [] [] [(decide (lo<=n),false)] [] [] λf k g i=>?_;have e:eB lo n d=false:=by unfold eB;simp[p]
  rw[e]at K;exact K f k.sat ω
def F8(F:aB prog U (DX D) Q)(h:HB B D){w:aj}{M:aW}(k a b c d e:Int)(hS:Sat D w M)(yQ:B<=w.heap.size)(K:∀w',Sat D w' M->w.heap.size<=w'.heap.size->Q (G (X.finish (.bool (aF k a b c d e))) W) w'):Q (G (Frame.enter prog 43 #[.agg #[i6 k,i6 a,i6 b,i6 c,i6 d,i6 e]] .normal) (X::W)) w:=by
 by_cases k1:k=1
 .subst k1;refine cJ func43 hS 79 λJ a0 p hn f g l P N=>aq (λM=>bR (p) [i6 1,i6 a,i6 b,i6 c,i6 d,i6 e]::(M)) 1 F h f l P 22 [0,0,0,2] 7 [] [(8,i6 a),(1,ptr p)] 22 3 [] λa1 w1 t s L O o9=>ah F f s t 9 58 #[i6 1,i6 a,i6 9] λyS i=>iI F h a 1 9 t.sat ω λw2 h2 yP=>i _ _ _ h2 λa2 B2 y j Z=>?_;cases m:eB 1 a 9<;>rw[m]at y
  .refine UF F h f g j y 17 [] 349525 [] 2 (.bool false) 40 3 [] λI q u v=>?_;rw[show aF 1 a b c d e=false by simp[aF,m]]at K;exact K I q.sat.tail ω
  refine Rb F h f j y 3 [0,0,2,1] 31 [] [(12,i6 b),(10,.bool true),(1,ptr p)] 26 3 [] λa3 I q C u v mH=>ah F f C q 13 58 #[i6 0,i6 b,i6 1000] λIb o=>iI F h b 0 1000 q.sat ω λw4 h4 FO=>o _ _ _ h4 λa4 B4 E n Bj=>?_;cases r:eB 0 b 1000<;>rw[r]at E
  .refine UF F h f g n E 13 [] 5461 [] 2 (.bool false) 40 3 [] λH x z A=>?_;rw[show aF 1 a b c d e=false by simp[aF,m,r]]at K;exact K H x.sat.tail ω
  refine Rb F h f n E 4 [0,0,3,1] 31 [] [(17,i6 c),(15,.bool true),(1,ptr p)] 31 3 [] λa5 H x Yv z A qO=>ah F f Yv x 18 58 #[i6 1,i6 c,i6 9] λLO V=>iI F h c 1 9 x.sat ω λw6 h6 Hf=>V _ _ _ h6 λa6 B6 S6 S YG=>?_;cases Y:eB 1 c 9<;>rw[Y]at S6
  .refine UF F h f g S S6 8 [] 85 [] 2 (.bool false) 40 3 [] λw7 S7 OD YQ=>?_;rw[show aF 1 a b c d e=false by simp[aF,m,r,Y]]at K;exact K w7 S7.sat.tail ω
  refine Rb F h f S S6 4 [0,0,4,1] 31 [] [(22,i6 d),(20,.bool true)] 36 3 [] λa7 w7 S7 CI OD YQ DJ=>ah F f CI S7 23 58 #[i6 0,i6 d,i6 10000] λRU T=>iI F h d 0 10000 S7.sat ω λw8 h8 IV=>T _ _ _ h8 λa8 B8 S8 R FN=>?_;cases q4:eB 0 d 10000<;>rw[q4]at S8
  .refine UF F h f g R S8 3 [] 1 [] 2 (.bool false) 40 3 [] λw9 S9 Tl He=>?_;rw[show aF 1 a b c d e=false by simp[aF,m,r,Y,q4]]at K;exact K w9 S9.sat.tail ω
  refine UF F h f g R S8 3 [] 1 [] 2 (.bool true) 40 3 [] λw9 S9 Tl He=>?_;rw[show aF 1 a b c d e=true by simp[aF,m,r,Y,q4]]at K;exact K w9 S9.sat.tail ω
 have w:(k==1)=false:=ξ
 by_cases k2:k=2
 .subst k2;refine cJ func43 hS 79 λJ a0 p hn f g l P N=>bB (λM=>bR (p) [i6 2,i6 a,i6 b,i6 c,i6 d,i6 e]::(M)) 1 F h f g l P 28 [0,0,0,1] 29 [] 2 (.bool true) 28 6 [] λw1 t L O=>K w1 t.sat.tail ω
 have w:(k==2)=false:=ξ
 by_cases k3:k=3
 .subst k3;refine cJ func43 hS 79 λJ a0 p hn f g l P N=>aq (λM=>bR (p) [i6 3,i6 a,i6 b,i6 c,i6 d,i6 e]::(M)) 1 F h f l P 34 [0,0,0,2] 117 [] [(30,i6 a),(1,ptr p)] 34 12 [] λa1 w1 t s L O o9=>ah F f s t 31 58 #[i6 1,i6 a,i6 1000] λyS i=>iI F h a 1 1000 t.sat ω λw2 h2 yP=>i _ _ _ h2 λa2 B2 y j Z=>?_;cases m:eB 1 a 1000<;>rw[m]at y
  .refine UF F h f g j y 7 [] 85 [] 2 (.bool false) 42 12 [] λI q u v=>?_;rw[show aF 3 a b c d e=false by simp[aF,m]]at K;exact K I q.sat.tail ω
  refine Rb F h f j y 3 [0,0,2,1] 31 [] [(34,i6 b),(32,.bool true)] 38 12 [] λa3 I q C u v mH=>ah F f C q 35 58 #[i6 1,i6 b,i6 20] λIb o=>iI F h b 1 20 q.sat ω λw4 h4 FO=>o _ _ _ h4 λa4 B4 E n Bj=>?_;cases r:eB 1 b 20<;>rw[r]at E
  .refine UF F h f g n E 3 [] 1 [] 2 (.bool false) 42 12 [] λH x z A=>?_;rw[show aF 3 a b c d e=false by simp[aF,m,r]]at K;exact K H x.sat.tail ω
  refine UF F h f g n E 3 [] 1 [] 2 (.bool true) 42 12 [] λH x z A=>?_;rw[show aF 3 a b c d e=true by simp[aF,m,r]]at K;exact K H x.sat.tail ω
 have w:(k==3)=false:=ξ
 by_cases k4:k=4
 .subst k4;refine cJ func43 hS 79 λJ a0 p hn f g l P N=>aq (λM=>bR (p) [i6 4,i6 a,i6 b,i6 c,i6 d,i6 e]::(M)) 1 F h f l P 40 [0,0,0,2] 469 [] [(40,i6 a),(1,ptr p)] 40 24 [] λa1 w1 t s L O o9=>ah F f s t 41 58 #[i6 1,i6 a,i6 20] λyS i=>iI F h a 1 20 t.sat ω λw2 h2 yP=>i _ _ _ h2 λa2 B2 y j Z=>?_;cases m:eB 1 a 20<;>rw[m]at y
  .refine UF F h f g j y 24 [] 357913941 [] 2 (.bool false) 65 24 [] λI q u v=>?_;rw[show aF 4 a b c d e=false by simp[aF,m]]at K;exact K I q.sat.tail ω
  refine Rb F h f j y 5 [0,0,2,1,0,0,1,1] 511 [] [(46,i6 a),(42,.bool true),(44,i6 b),(1,ptr p)] 46 24 [] λa3 I q C u v mH=>ah F f C q 47 58 #[i6 1,i6 b,i6 a] λIb o=>iI F h b 1 a q.sat ω λw4 h4 FO=>o _ _ _ h4 λa4 B4 E n Bj=>?_;cases r:eB 1 b a<;>rw[r]at E
  .refine UF F h f g n E 18 [] 349525 [] 2 (.bool false) 65 24 [] λH x z A=>?_;rw[show aF 4 a b c d e=false by simp[aF,m,r]]at K;exact K H x.sat.tail ω
  refine Rb F h f n E 4 [0,0,3,1] 31 [] [(51,i6 c),(49,.bool true),(1,ptr p)] 51 24 [] λa5 H x Yv z A qO=>ah F f Yv x 52 58 #[i6 1,i6 c,i6 100] λLO V=>iI F h c 1 100 x.sat ω λw6 h6 Hf=>V _ _ _ h6 λa6 B6 S6 S YG=>?_;cases Y:eB 1 c 100<;>rw[Y]at S6
  .refine UF F h f g S S6 13 [] 5461 [] 2 (.bool false) 65 24 [] λw7 S7 OD YQ=>?_;rw[show aF 4 a b c d e=false by simp[aF,m,r,Y]]at K;exact K w7 S7.sat.tail ω
  refine Rb F h f S S6 4 [0,0,4,1] 31 [] [(56,i6 d),(54,.bool true),(1,ptr p)] 56 24 [] λa7 w7 S7 CI OD YQ DJ=>ah F f CI S7 57 58 #[i6 0,i6 d,i6 1000] λRU T=>iI F h d 0 1000 S7.sat ω λw8 h8 IV=>T _ _ _ h8 λa8 B8 S8 R FN=>?_;cases q4:eB 0 d 1000<;>rw[q4]at S8
  .refine UF F h f g R S8 8 [] 85 [] 2 (.bool false) 65 24 [] λw9 S9 Tl He=>?_;rw[show aF 4 a b c d e=false by simp[aF,m,r,Y,q4]]at K;exact K w9 S9.sat.tail ω
  refine Rb F h f R S8 4 [0,0,5,1] 31 [] [(61,i6 e),(59,.bool true)] 61 24 [] λw w9 S9 w Tl He B=>ah F f w S9 62 58 #[i6 1,i6 e,i6 9] λw w=>iI F h e 1 9 S9.sat ω λB B G=>w _ _ _ B λw w yU Zl w=>?_;cases q5:eB 1 e 9<;>rw[q5]at yU
  .refine UF F h f g Zl yU 3 [] 1 [] 2 (.bool false) 65 24 [] λw B G R=>?_;rw[show aF 4 a b c d e=false by simp[aF,m,r,Y,q4,q5]]at K;exact K w B.sat.tail ω
  refine UF F h f g Zl yU 3 [] 1 [] 2 (.bool true) 65 24 [] λw B G R=>?_;rw[show aF 4 a b c d e=true by simp[aF,m,r,Y,q4,q5]]at K;exact K w B.sat.tail ω
 have w:(k==4)=false:=ξ
 by_cases k5:k=5
 .subst k5;refine cJ func43 hS 79 λJ a0 p hn f g l P N=>aq (λM=>bR (p) [i6 5,i6 a,i6 b,i6 c,i6 d,i6 e]::(M)) 1 F h f l P 46 [0,0,0,2] 1877 [] [(67,i6 a),(1,ptr p)] 46 48 [] λa1 w1 t s L O o9=>ah F f s t 68 58 #[i6 1,i6 a,i6 9] λyS i=>iI F h a 1 9 t.sat ω λw2 h2 yP=>i _ _ _ h2 λa2 B2 y j Z=>?_;cases m:eB 1 a 9<;>rw[m]at y
  .refine UF F h f g j y 7 [] 85 [] 2 (.bool false) 54 48 [] λI q u v=>?_;rw[show aF 5 a b c d e=false by simp[aF,m]]at K;exact K I q.sat.tail ω
  refine Rb F h f j y 3 [0,0,2,1] 31 [] [(71,i6 b),(69,.bool true)] 50 48 [] λa3 I q C u v mH=>ah F f C q 72 58 #[i6 0,i6 b,i6 1000] λIb o=>iI F h b 0 1000 q.sat ω λw4 h4 FO=>o _ _ _ h4 λa4 B4 E n Bj=>?_;cases r:eB 0 b 1000<;>rw[r]at E
  .refine UF F h f g n E 3 [] 1 [] 2 (.bool false) 54 48 [] λH x z A=>?_;rw[show aF 5 a b c d e=false by simp[aF,m,r]]at K;exact K H x.sat.tail ω
  refine UF F h f g n E 3 [] 1 [] 2 (.bool true) 54 48 [] λH x z A=>?_;rw[show aF 5 a b c d e=true by simp[aF,m,r]]at K;exact K H x.sat.tail ω
 have n:(k==5)=false:=ξ
 by_cases hk:k=6
 .subst hk;refine cJ func43 hS 79 λJ a0 p hn f g l P N=>aq (λM=>bR (p) [i6 6,i6 a,i6 b,i6 c,i6 d,i6 e]::(M)) 1 F h f l P 52 [0,0,0,2] 7509 [] [(77,i6 a)] 52 96 [] λa1 w1 t s L O o9=>ah F f s t 78 58 #[i6 1,i6 a,i6 1000] λyS i=>iI F h a 1 1000 t.sat ω λw2 h2 yP=>i _ _ _ h2 λa2 B2 y j Z=>UF F h f g j y 2 [] 1 [] 2 (.bool (eB 1 a 1000)) 55 96 [] λI q u v=>?_;rw[show aF 6 a b c d e=eB 1 a 1000 by simp[aF]]at K;exact K I q.sat.tail ω
 have i:(k==6)=false:=ξ
 refine cJ func43 hS 79 λJ a0 p hn f g l P N=>oH (λM=>bR (p) [i6 k,i6 a,i6 b,i6 c,i6 d,i6 e]::(M)) 1 F h f g l P 54 [0,0,0,1] 4096 [] 2 (.bool false) 54 64 [] [] [(k==6,false),(k==5,false),(k==4,false),(k==3,false),(k==2,false),(k==1,false)] [] [] λw1 t L O=>?_;have e:aF k a b c d e=false:=by simp only[aF,af k1,af k2,af k3,af k4,af k5,af hk]
 rw[e]at K;exact K w1 t.sat.tail ω
def IG(F:aB prog U (DX D) Q)(d:HB B D){J:aC}(b:J.kind=.normal)(c:J.fn=44){X:aC}{W:cO}{M:aW}{s:eP}{n k:Nat}{T:oF}(N:n<=12)(l:0<n->∃a,s=some a){B1:Nat}(y:B<=B1):
 ∀(m i:Nat)(q:Act)(w:aj)(f:Nat),i+m=n->q.defers=[]->B1<=f->w.heap.size=f->St D f 33 [(18,i6 i),(17,i6 n),(16,.slice s n k)] (fR (s.getD ⟨0,0,none⟩) 3 (λj=>[i6 (T j 0),i6 (T j 1),i6 (T j 2)]) n false::M) 0 q w->
   (∀w',Sat D w' M->w.heap.size<=w'.heap.size->Q (G (X.finish (.bool (lQ T m i))) W) w')->Q (G (J.at q (pc prog 44 31 [false] [])) (X::W)) w
 |0,i,q,w,f,O,h,z,v,E,K=>by
  have a:decide ((i:Int)<(n:Int))=false:=θ
  refine ZI F d b c h E 11 [] 4 [] 2 (.bool true) 42 4 [] [] [(decide ((↑i:Int)<(↑n:Int)),false)] [] [] λH r t x=>K H r.sat.tail ω
 |m+1,i,q,w,f,O,h,z,v,E,K=>by
  obtain⟨u,rfl⟩:=l ω;have e:lQ T (m+1) i=(eB 1 (T i 0) 4&&eB 0 (T i 2) 1000&&lQ T m (i+1)):=rfl;rw[e]at K;refine aX (λM=>bR (f) [i6 (T i 0),i6 (T i 1),i6 (T i 2)]::(M)) 1 F d b h E 20 [0,i,0,103,0,0,0,3,0,0,0,1] 26 [] [(23,i6 (T i 0)),(4,ptr f),(18,i6 i),(17,i6 n),(16,.slice (some u) n k)] 51 6 [] [] [(decide ((↑i:Int)<(↑n:Int)),true)] [((↑i:Int),n)] [(3,(i,n))] λa H r a t x e=>ah F b a r 24 58 #[i6 1,i6 (T i 0),i6 4] λa a=>iI F d (T i 0) 1 4 r.sat ω λe h e=>a _ _ _ h λa a C p a=>?_;cases L:eB 1 (T i 0) 4<;>rw[L]at C K
  .refine UF F d b c p C 13 [] 2047 [] 2 (.bool false) 65 14 [] λj e a h=>K j e.sat.tail.tail ω
  refine Rb F d b p C 4 [0,0,2,1] 21 [] [(28,i6 (T i 2)),(26,.bool false),(27,.pointer (some (Addr.mk f 2 none))),(18,i6 i),(17,i6 n),(16,.slice (some u) n k)] 56 6 [] λp j e j a h a=>ah F b j e 29 58 #[i6 0,i6 (T i 2),i6 1000] λa a=>iI F d (T i 2) 0 1000 e.sat ω λe h e=>a _ _ _ h λa P A o a=>?_;cases I:eB 0 (T i 2) 1000<;>rw[I]at A K
  .refine UF F d b c o A 8 [] 29 [] 2 (.bool false) 65 14 [] λa g e h=>K a g.sat.tail.tail ω
  have j:wp i=((i+1:Nat):Int):=j6;refine Rb F d b o A 11 [] 21 [] [(18,i6 (wp i)),(30,.bool false),(29,.bool true),(28,i6 (T i 2)),(27,.pointer (some (Addr.mk f 2 none))),(17,i6 n),(16,.slice (some u) n k)] 68 10 [] λo a g f e h e=>?_;rw[j]at g;replace g:=g.dB [(18,i6 ((i+1:Nat):Int)),(17,i6 n),(16,.slice (some u) n k)] rfl;rw[show pc prog 44 68 (Bo 10) []=pc prog 44 31 [false] [] by kernel_rfl];exact IG F d b c N l y m (i+1) o a P ω f ω ω ⟨g.env,g.sat.tail,g.sz⟩ λw' a b=>K w' a ω
def NJ(F:aB prog U (DX D) Q)(g:HB B D){w:aj}{M:aW}{st:Int}{f:eP}{k:Nat}{T:oF}(h:0<n->∃a,f=some a/\Has M (fR a 3 (λj=>[i6 (T j 0),i6 (T j 1),i6 (T j 2)]) n false))(l:Sat D w M)(a:B<=w.heap.size)(K:∀w',Sat D w' M->w.heap.size<=w'.heap.size->Q (G (X.finish (.bool (iF st n T))) W) w'):Q (G (Frame.enter prog 44 #[.agg #[i6 st,.slice f n k]] .normal) (X::W)) w:=by
 replace l:Sat D w (fR (f.getD ⟨0,0,none⟩) 3 (λj=>[i6 (T j 0),i6 (T j 1),i6 (T j 2)]) n false::M):=by
  by_cases z:0<n
  .obtain⟨u,rfl,i⟩:=h z;exact l.get i
  .exact l.qj ξ rfl
 refine cJ func44 l 33 λJ a h a b e a j i=>aq (λM=>bR (h) [i6 st,.slice f n k]::(M)) 1 F g b a j 10 [0,0,0,1] 1 [] [(6,i6 st),(1,ptr h)] 10 1 [] λa a h a i i i=>ah F b a h 7 58 #[i6 0,i6 st,i6 1000] λa a=>iI F g st 0 1000 h.sat ω λh i h=>a _ _ _ i λa o m d a=>?_;unfold iF at K;cases q:eB 0 st 1000<;>rw[q]at m K
 .refine UF F g b e d m 13 [] 2047 [] 2 (.bool false) 24 3 [] λa c h i=>K a c.sat.tail.tail ω
 by_cases p:n<=12
 .have j:decide ((n:Int)>12)=false:=θ
  rw[show decide (12<n)=false by simp;omega]at K;refine TP F g b d m 20 [0,0,1,1,0,0,1,1] 1109 [] [(18,i6 0),(17,i6 n),(16,.slice f n k)] 31 2 [] [] [(decide ((↑n:Int)>12),false)] [] [] λs a c j h i r=>?_;replace c:=c.dB [(18,i6 ((0:Nat):Int)),(17,i6 n),(16,.slice f n k)] rfl;exact IG F g b e p (λz=>χ) (B1:=o) ω n 0 s a o (bK _) j (az _) ω ⟨c.env,c.sat.tail,c.sz⟩ λw' f j=>K w' f ω
 .rw[show decide (12<n)=true by simp;omega]at K;refine ZI F g b e d m 13 [0,0,1,1] 1621 [] 2 (.bool false) 24 3 [] [] [(decide ((↑n:Int)>12),true)] [] [] λa c h i=>K a c.sat.tail.tail ω
def KZ(F:aB prog U (DX D) Q)(h:HB B D){J:aC}(b:J.kind=.normal)(f:J.fn=26){X:aC}{W:cO}{M:aW}{sa:eP}{n cap:Nat}{g:Nat->Cl}(L:n<=9)(l:0<n->∃a,sa=some a)(H:∀j,j<n->0<(g j).nt->∃a,(g j).ta=some a/\Has M (fR a 3 (λi=>[i6 ((g j).T i 0),i6 ((g j).T i 1),i6 ((g j).T i 2)]) (g j).nt false)):
 ∀(m i:Nat)(p:Act)(w:aj)(k:Nat),i+m=n->p.defers=[]->B<=k->w.heap.size=k->St D k 19 [(7,i6 i),(6,i6 n),(5,.slice sa n cap),(0,.slice sa n cap)] (fR (sa.getD ⟨0,0,none⟩) 2 (λj=>[i6 (g j).st,.slice (g j).ta (g j).nt (g j).tc]) n false::M) 0 p w->
   (∀w',Sat D w' M->w.heap.size<=w'.heap.size->Q (G (X.finish (i6 (fY g m i))) W) w')->Q (G (J.at p (pc prog 26 13 [] [])) (X::W)) w
 |0,i,p,w,k,N,d,x,t,A,K=>by
  have j:decide ((i:Int)<(n:Int))=false:=θ
  have e:fY g 0 i=n:=by show i=n;omega
  rw[e]at K;refine ZI F h b f d A 13 [] 4 [] 2 (i6 n) 26 2 [] [] [(decide ((↑i:Int)<(↑n:Int)),false)] [] [] λE q s v=>K E q.sat.tail ω
 |m+1,i,p,w,k,N,d,x,t,A,K=>by
  obtain⟨u,rfl⟩:=l ω;refine aX (λM=>bR (k) [i6 (g i).st,.slice (g i).ta (g i).nt (g i).tc]::(M)) 1 F h b d A 21 [0,i,0,102,0,0,0,2,0,0,0,2] 26 [] [(12,.agg #[i6 (g i).st,.slice (g i).ta (g i).nt (g i).tc]),(3,i6 i),(7,i6 i),(6,i6 n),(5,.slice (some u) n cap),(0,.slice (some u) n cap)] 34 3 [] [] [(decide ((↑i:Int)<(↑n:Int)),true)] [((↑i:Int),n)] [(2,(i,n))] λd E q d s v j=>ah F b d q 13 44 #[.agg #[i6 (g i).st,.slice (g i).ta (g i).nt (g i).tc]] λd d=>?_;have j:=H i ω;refine NJ F h (λz=>by let⟨a,r,C⟩:=j z;exact⟨a,r,C.cons.cons⟩) q.sat ω λa j a=>d _ _ _ j λa O y o a=>?_;have e:fY g (m+1) i=if iF (g i).st (g i).nt (g i).T=false then i else fY g m (i+1):=rfl;rw[e]at K;cases I:iF (g i).st (g i).nt (g i).T<;>rw[I]at y K
  .refine UF F h b f o y 8 [] 7 [] 2 (i6 i) 43 7 [] λa c d e=>K a c.sat.tail.tail ω
  have j:IntKind.wrap .i64 ((i:Int)+1)=((i+1:Nat):Int):=by rw[aA ω ω];rfl
  refine Rb F h b o y 10 [] 5 [] [(7,i6 (IntKind.wrap .i64 ((↑i:Int)+1))),(6,i6 n),(5,.slice (some u) n cap),(0,.slice (some u) n cap)] 45 5 [] λk a c g d e d=>?_;rw[j]at c;replace c:=c.dB [(7,i6 ((i+1:Nat):Int)),(6,i6 n),(5,.slice (some u) n cap),(0,.slice (some u) n cap)] rfl;rw[show pc prog 26 45 (Bo 5) []=pc prog 26 13 [] [] by kernel_rfl];exact KZ F h b f L l H m (i+1) k a O ω g ω ω ⟨c.env,c.sat.tail,c.sz⟩ λw' r C=>K w' r ω
def Ge(F:aB prog U (DX D) Q)(f:HB B D){J:aC}(b:J.kind=.normal)(d:J.fn=25){X:aC}{W:cO}{M:aW}{sL:eP}{n cap:Nat}{L:oF}(hn:n<=6)(v:0<n->∃a,sL=some a):
 ∀(m i:Nat)(r:Int)(I:Act)(w:aj)(l:Nat),i+m=n->0<=r->r<=2->I.defers=[]->B<=l->w.heap.size=l->St D l 29 [(8,i6 i),(7,i6 n),(6,.slice sL n cap),(3,i6 r),(0,.slice sL n cap)] (fR (sL.getD ⟨0,0,none⟩) 6 (oG L) n false::M) 0 I w->
   (∀w',Sat D w' M->w.heap.size<=w'.heap.size->Q (G (X.finish (i6 (cZ L m i r))) W) w')->Q (G (J.at I (pc prog 25 17 [] [])) (X::W)) w
 |0,i,r,I,w,l,hi,Z,hr,h,Rg,R,N,K=>by
  have g1:decide ((i:Int)<(n:Int))=false:=θ
  have e:cZ L 0 i r=n:=by show i=n;omega
  rw[e]at K;refine ZI F f b d h N 13 [] 4 [] 2 (i6 n) 30 2 [] [] [(decide ((↑i:Int)<(↑n:Int)),false)] [] [] λC k q t=>K C k.sat.tail ω
 |m+1,i,r,I,w,l,hi,Z,hr,h,Rg,R,N,K=>by
  have g1:decide ((i:Int)<(n:Int))=true:=θ
  obtain⟨u,rfl⟩:=v ω;have e:cZ L (m+1) i r=if 2<(if L i 0=1 then r+1 else r)\/aF (L i 0) (L i 1) (L i 2) (L i 3) (L i 4) (L i 5)=false then i else cZ L m (i+1) (if L i 0=1 then r+1 else r):=rfl;rw[e]at K;have hw:IntKind.wrap .i64 ((i:Int)+1)=((i+1:Nat):Int):=by rw[aA ω ω];rfl
  have T:IntKind.wrap .i64 (r+1)=r+1:=aA ω ω;by_cases H:L i 0=1
  .have E:(L i 0==1)=true:=ξ
   rw[sJ H]at K;by_cases Y:r=2
   .subst Y;rw[sJ (.inl δ)]at K;refine oH (λM=>bR (l) [i6 (L i 0),i6 (L i 1),i6 (L i 2),i6 (L i 3),i6 (L i 4),i6 (L i 5)]::(M)) 1 F f b d h N 47 [0,i,0,106,0,0,0,6,0,0,0,1] 32746 [] 2 (i6 i) 64 15 [] [] [(L i 0==1,true),(decide ((↑i:Int)<(↑n:Int)),true)] [((↑i:Int),n)] [(6,(i,n))] λC k q t=>K C k.sat.tail.tail ω
   have a:decide (r+1>2)=false:=θ
   have V:decide (IntKind.wrap .i64 (r+1)>2)=false:=ξ
   refine aX (λM=>bR (l) [i6 (L i 0),i6 (L i 1),i6 (L i 2),i6 (L i 3),i6 (L i 4),i6 (L i 5)]::(M)) 1 F f b h N 37 [0,i,0,106,0,0,0,6,0,0,0,1,0,0,0,6] 298 [] [(21,.agg #[i6 (L i 0),i6 (L i 1),i6 (L i 2),i6 (L i 3),i6 (L i 4),i6 (L i 5)]),(20,.bool false),(3,i6 (IntKind.wrap .i64 (r+1))),(4,i6 i),(8,i6 i),(7,i6 n),(6,.slice (some u) n cap),(0,.slice (some u) n cap)] 54 7 [] [] [(decide (IntKind.wrap .i64 (r+1)>2),false),(L i 0==1,true),(decide ((↑i:Int)<(↑n:Int)),true)] [((↑i:Int),n)] [(6,(i,n))] λa1 C k y q t o9=>ah F b y k 22 43 #[.agg #[i6 (L i 0),i6 (L i 1),i6 (L i 2),i6 (L i 3),i6 (L i 4),i6 (L i 5)]] λyS j=>F8 F f (L i 0) (L i 1) (L i 2) (L i 3) (L i 4) (L i 5) k.sat ω λw2 z S=>j _ _ _ z λa2 B3 A g P=>?_;cases hq:aF (L i 0) (L i 1) (L i 2) (L i 3) (L i 4) (L i 5)<;>rw[hq]at A K
   .rw[sJ (.inr rfl)]at K;refine UF F f b d g A 9 [] 29 [] 2 (i6 i) 64 15 [] λo c p s=>K o c.sat.tail.tail ω
   rw[af ξ]at K;refine Rb F f b g A 11 [] 21 [] [(8,i6 (IntKind.wrap .i64 ((↑i:Int)+1))),(23,.bool false),(22,.bool true),(21,.agg #[i6 (L i 0),i6 (L i 1),i6 (L i 2),i6 (L i 3),i6 (L i 4),i6 (L i 5)]),(3,i6 (IntKind.wrap .i64 (r+1))),(7,i6 n),(6,.slice (some u) n cap),(0,.slice (some u) n cap)] 66 11 [] λa3 o c x p s mH=>?_;rw[hw,T]at c;replace c:=c.dB [(8,i6 ((i+1:Nat):Int)),(7,i6 n),(6,.slice (some u) n cap),(3,i6 (r+1)),(0,.slice (some u) n cap)] rfl;rw[show pc prog 25 66 (Bo 11) []=pc prog 25 17 [] [] by kernel_rfl];exact Ge F f b d hn v m (i+1) (r+1) a3 o B3 ω ω ω x ω ω ⟨c.env,c.sat.tail,c.sz⟩ λw' O z2=>K w' O ω
  .have E:(L i 0==1)=false:=ξ
   rw[af H]at K;have V:decide (r>2)=false:=θ
   refine aX (λM=>bR (l) [i6 (L i 0),i6 (L i 1),i6 (L i 2),i6 (L i 3),i6 (L i 4),i6 (L i 5)]::(M)) 1 F f b h N 33 [0,i,0,106,0,0,0,6,0,0,0,1,0,0,0,6] 266 [] [(21,.agg #[i6 (L i 0),i6 (L i 1),i6 (L i 2),i6 (L i 3),i6 (L i 4),i6 (L i 5)]),(20,.bool false),(4,i6 i),(8,i6 i),(7,i6 n),(6,.slice (some u) n cap),(3,i6 r),(0,.slice (some u) n cap)] 50 5 [] [] [(decide (r>2),false),(L i 0==1,false),(decide ((↑i:Int)<(↑n:Int)),true)] [((↑i:Int),n)] [(6,(i,n))] λa1 C k y q t o9=>ah F b y k 22 43 #[.agg #[i6 (L i 0),i6 (L i 1),i6 (L i 2),i6 (L i 3),i6 (L i 4),i6 (L i 5)]] λyS j=>F8 F f (L i 0) (L i 1) (L i 2) (L i 3) (L i 4) (L i 5) k.sat ω λw2 z S=>j _ _ _ z λa2 B3 A g P=>?_;cases hq:aF (L i 0) (L i 1) (L i 2) (L i 3) (L i 4) (L i 5)<;>rw[hq]at A K
   .rw[sJ (.inr rfl)]at K;refine UF F f b d g A 9 [] 29 [] 2 (i6 i) 60 13 [] λo c p s=>K o c.sat.tail.tail ω
   rw[af ξ]at K;refine Rb F f b g A 11 [] 21 [] [(8,i6 (IntKind.wrap .i64 ((↑i:Int)+1))),(23,.bool false),(22,.bool true),(21,.agg #[i6 (L i 0),i6 (L i 1),i6 (L i 2),i6 (L i 3),i6 (L i 4),i6 (L i 5)]),(7,i6 n),(6,.slice (some u) n cap),(3,i6 r),(0,.slice (some u) n cap)] 62 9 [] λa3 o c x p s mH=>?_;rw[hw]at c;replace c:=c.dB [(8,i6 ((i+1:Nat):Int)),(7,i6 n),(6,.slice (some u) n cap),(3,i6 r),(0,.slice (some u) n cap)] rfl;rw[show pc prog 25 62 (Bo 9) []=pc prog 25 17 [] [] by kernel_rfl];exact Ge F f b d hn v m (i+1) r a3 o B3 ω ω ω x ω ω ⟨c.env,c.sat.tail,c.sz⟩ λw' O z2=>K w' O ω
def Rj(F:aB prog U (DX D) Q)(f:HB B D){w:aj}{M:aW}{L:oF}(i:n<=6)(c:0<n->∃a,sL=some a/\Has M (fR a 6 (oG L) n false))(b:Sat D w M)(a:B<=w.heap.size)(K:∀w',Sat D w' M->w.heap.size<=w'.heap.size->Q (G (X.finish (i6 (cZ L n 0 0))) W) w'):Q (G (Frame.enter prog 25 #[.slice sL n cap] .normal) (X::W)) w:=by
 replace b:Sat D w (fR (sL.getD ⟨0,0,none⟩) 6 (oG L) n false::M):=by
  by_cases z:0<n
  .obtain⟨u,rfl,d⟩:=c z;exact b.get d
  .exact b.qj ξ rfl
 refine cJ func25 b 29 λJ a k a a d c h g=>Rb F f a c h 17 [] 1 [] [(8,i6 0),(7,i6 n),(6,.slice sL n cap),(3,i6 0),(0,.slice sL n cap)] 17 1 [] λj g e c h h h=>?_;replace e:=e.dB [(8,i6 ((0:Nat):Int)),(7,i6 n),(6,.slice sL n cap),(3,i6 0),(0,.slice sL n cap)] rfl;exact Ge F f a d i (λz=>χ) n 0 0 j g k (bK _) ω ω c ω ω e λw' a c=>K w' a ω
def Rk(F:aB prog U (DX D) Q)(f:HB B D){w:aj}{M:aW}{g:Nat->Cl}(l:n<=9)(d:0<n->∃a,sa=some a/\Has M (fR a 2 (λj=>[i6 (g j).st,.slice (g j).ta (g j).nt (g j).tc]) n false))(k:∀j,j<n->0<(g j).nt->∃a,(g j).ta=some a/\Has M (fR a 3 (λi=>[i6 ((g j).T i 0),i6 ((g j).T i 1),i6 ((g j).T i 2)]) (g j).nt false))(b:Sat D w M)(a:B<=w.heap.size)(K:∀w',Sat D w' M->w.heap.size<=w'.heap.size->Q (G (X.finish (i6 (fY g n 0))) W) w'):Q (G (Frame.enter prog 26 #[.slice sa n cap] .normal) (X::W)) w:=by
 replace b:Sat D w (fR (sa.getD ⟨0,0,none⟩) 2 (λj=>[i6 (g j).st,.slice (g j).ta (g j).nt (g j).tc]) n false::M):=by
  by_cases z:0<n
  .obtain⟨u,rfl,c⟩:=d z;exact b.get c
  .exact b.qj ξ rfl
 refine cJ func26 b 19 λJ a j a a d c h g=>Rb F f a c h 13 [] 1 [] [(7,i6 0),(6,i6 n),(5,.slice sa n cap),(0,.slice sa n cap)] 13 1 [] λi g e c h h h=>?_;replace e:=e.dB [(7,i6 ((0:Nat):Int)),(6,i6 n),(5,.slice sa n cap),(0,.slice sa n cap)] rfl;exact KZ F f a d l (λz=>χ) k n 0 i g j (bK _) c ω ω e λw' a c=>K w' a ω
def r8(F:aB prog U (DX D) Q)(d:HB B D){w:aj}{M:aW}{L:oF}{g:Nat->Cl}(s:0<n->∃a,sL=some a/\Has M (fR a 6 (oG L) n false))(u:0<m->∃a,sa=some a/\Has M (fR a 2 (λj=>[i6 (g j).st,.slice (g j).ta (g j).nt (g j).tc]) m false))(t:∀j,j<m->0<(g j).nt->∃a,(g j).ta=some a/\Has M (fR a 3 (λi=>[i6 ((g j).T i 0),i6 ((g j).T i 1),i6 ((g j).T i 2)]) (g j).nt false))(p:Sat D w M)(a:B<=w.heap.size)(K:∀w',Sat D w' M->w.heap.size<=w'.heap.size->Q (G (X.finish (.tuple #[i6 (jG n L m g).1,i6 (jG n L m g).2])) W) w'):Q (G (Frame.enter prog 14 #[.slice sL n cA,.slice sa m cap] .normal) (X::W)) w:=by
 unfold jG at K;by_cases q:6<n
 .have a:decide ((n:Int)>6)=true:=θ
  rw[sJ q]at K;refine cJ func14 p 28 λJ w x r a b e l i=>TP F d a e l 18 [] 6 [] [(5,i6 0),(4,i6 1)] 18 3 [] [] [(decide ((↑n:Int)>6),true)] [] [] λv o f c h j k=>cC F f a b c [] (.tuple #[i6 1,i6 0]) ?_;exact K o f.sat ω
 rw[af q]at K;refine cJ func14 p 28 λJ w x r a b e l i=>TP F d a e l 18 [] 4 [] [(11,.slice sL n cA),(0,.slice sL n cA),(1,.slice sa m cap)] 18 2 [] [] [(decide ((↑n:Int)>6),false)] [] [] λv o f c h j k=>ah F a c f 12 25 #[.slice sL n cA] λc c=>Rj F d ω s f.sat ω λe f e=>c _ _ _ f λc c o f c=>?_;by_cases p:cZ L n 0 0<n
 .have l:decide (((cZ L n 0 0:Nat):Int)<(n:Int))=true:=ξ
  rw[sJ p]at K;refine TP F d a f o 16 [] 6 [] [(5,i6 (↑(cZ L n 0 0):Int)),(4,i6 2)] 35 6 [] [] [(decide ((↑(cZ L n 0 0):Int)<(↑n:Int)),true)] [] [] λq k e c h i j=>cC F e a b c [] (.tuple #[i6 2,i6 (↑(cZ L n 0 0):Int)]) ?_;exact K k e.sat ω
 have l:decide (((cZ L n 0 0:Nat):Int)<(n:Int))=false:=ξ
 rw[af p]at K;by_cases l:9<m
 .have p:decide ((m:Int)>9)=true:=θ
  rw[sJ l]at K;refine TP F d a f o 24 [] 24 [] [(5,i6 0),(4,i6 3)] 43 12 [] [] [(decide ((↑m:Int)>9),true),(decide ((↑(cZ L n 0 0):Int)<(↑n:Int)),false)] [] [] λq k e c h i j=>cC F e a b c [] (.tuple #[i6 3,i6 0]) ?_;exact K k e.sat ω
 rw[af l]at K;refine TP F d a f o 24 [] 16 [] [(21,.slice sa m cap),(1,.slice sa m cap)] 43 8 [] [] [(decide ((↑m:Int)>9),false),(decide ((↑(cZ L n 0 0):Int)<(↑n:Int)),false)] [] [] λq k e c h i j=>ah F a c e 22 26 #[.slice sa m cap] λc c=>Rk F d ω u t e.sat ω λe f e=>c _ _ _ f λc c o e c=>?_;by_cases h:fY g m 0<m
 .have f:decide (((fY g m 0:Nat):Int)<(m:Int))=true:=ξ
  rw[sJ h]at K;refine TP F d a e o 16 [] 6 [] [(5,i6 (↑(fY g m 0):Int)),(4,i6 4)] 60 24 [] [] [(decide ((↑(fY g m 0):Int)<(↑m:Int)),true)] [] [] λp j i c k l n=>cC F i a b c [] (.tuple #[i6 4,i6 (↑(fY g m 0):Int)]) ?_;exact K j i.sat ω
 have f:decide (((fY g m 0:Nat):Int)<(m:Int))=false:=ξ
 rw[af h]at K;refine TP F d a e o 16 [] 4 [] [(5,i6 0),(4,i6 0)] 60 16 [] [] [(decide ((↑(fY g m 0):Int)<(↑m:Int)),false)] [] [] λp j i c k l n=>cC F i a b c [] (.tuple #[i6 0,i6 0]) ?_;exact K j i.sat ω
def JI:cV P program=some P:=rfl
def Cu{α:Type}(c:Prop)[Decidable c](x y:Sem α):cV P (if c then x else y)=if c then cV P x else cV P y:=by split<;>rfl
def aac(d:Nat)(t:TypeId)(k c:IntKind)(a b:Int)(h:P.underlying t=some (.int c)):cV P (Op.equalIn (d+1) t (.int k a) (.int k b))=some (a==b):=by
 simp[Op.equalIn,cr,nk _ _ h,gJ]
def aad(d:Nat)(t:TypeId)(j i:gd){c:Array Field}(p:P.underlying t=some (.struct c))(q:P.stoodInHeld t=false)(g:Field->Bool)(h:∀f∈c.toList,f.name≠ "_" /\∃u v,cV P (part f.type j f.offset)=some u/\cV P (part f.type i f.offset)=some v/\cV P (Op.equalIn d f.type u v)=some (g f)):
 cV P (Op.equalIn (d+1) t (.agg j) (.agg i))=some (c.toList.all g):=by
 simp only[Op.equalIn,cr,nk _ _ p,fJ,JI,q,sP,if_false];rw[<-Array.forIn_toList];generalize c.toList=l at h;induction l with
 |nil=>rfl
 |cons f l o=>
  let⟨n,u,v,m,k,b⟩:=h f (bI ..);have e:=o (λg a=>h g (aP _ a));cases a:g f with
  |true=>
   rw[a]at b;simp only[List.forIn_cons,cr,Cu,sJ n,m,k,b,fJ,Bool.not_true,sP,if_false,gJ,List.all_cons,a,Bool.true_and];simpa [cr]using e
  |false=>
   rw[a]at b;simp[List.forIn_cons,cr,Cu,n,m,k,b,gJ,a]
def Vm(o:Option TypeDesc)(i:Option TypeDesc):Bool:=match o,i with
 |some (.struct fs),some (.int _)=>fs.toList.all (λf=>f.type==3&&f.name != "_")&&fs.toList.map (·.offset)==[0,1,2]
 |_,_=>false
def aab(x y:Operand)(u:iN):cV prog (do eqGuard .eql 40 x y (.agg #[i6 u.k,i6 u.l,i6 u.n]) (.agg #[i6 4,i6 0,i6 0]);binOp .eql 40 (.agg #[i6 u.k,i6 u.l,i6 u.n]) (.agg #[i6 4,i6 0,i6 0]))=some (.bool (u.k==4&&(u.l==0&&(u.n==0&&true)))):=by
 have h:Vm (prog.underlying 40) (prog.underlying 3)=true:=ρ
 have i:prog.eqGuardType prog.depth 40=false:=ρ
 have c:cV prog (isAgg 3)=some false:=ρ
 have l:cV prog (eqGuard .eql 40 x y (.agg #[i6 u.k,i6 u.l,i6 u.n]) (.agg #[i6 4,i6 0,i6 0]))=some ():=by
  simp only[eqGuard,cr,JI,fJ,i,Cu,gJ];simp[cr,JI,i,gJ]
 unfold Vm at h;split at h
 .rename_i q k j p;simp only[bZ,beq_iff_eq]at h;let⟨n,g⟩:=h;have m:=aad 9999 40 #[i6 u.k,i6 u.l,i6 u.n] #[i6 4,i6 0,i6 0] j ρ (λf=>[u.k,u.l,u.n].getD f.offset 0==[4,0,0].getD f.offset 0) λf e=>?_
  .rw[cr,l,fJ];show cV prog (Op.equalIn 10000 40 (.agg #[i6 u.k,i6 u.l,i6 u.n]) (.agg #[i6 4,i6 0,i6 0])>>=λa=>pure (Value.bool a))=_;rw[cr,m];have:=List.all_map (f:=λf:Field=>f.offset) (l:=q.toList) (p:=λo=>[u.k,u.l,u.n].getD o 0==[4,0,0].getD o 0);rw[g]at this;exact cT (λb=>some (Value.bool b)) this.symm
  .have:=eZ.1 n f e;simp only[bZ,beq_iff_eq,bne_iff_ne]at this;have d:f.offset∈[0,1,2]:=by rw[<-g];exact List.mem_map_of_mem e
   refine⟨this.2,i6 ([u.k,u.l,u.n].getD f.offset 0),i6 ([4,0,0].getD f.offset 0),?_,?_,?_⟩;all_goals rw[this.1]
   .simp only[part,cr,c,fJ,Cu,sP,if_false];rcases(by simpa using d:f.offset=0\/f.offset=1\/f.offset=2)with z|z|z<;>rw[z]<;>rfl
   .simp only[part,cr,c,fJ,Cu,sP,if_false];rcases(by simpa using d:f.offset=0\/f.offset=1\/f.offset=2)with z|z|z<;>rw[z]<;>rfl
   .exact aac 9998 3 .i64 k _ _ p
 .cases h
def aae(o:Oper)(x y d t:Nat):Bool:=(match o.dst with|some d'=>d'==d|none=>false)&&(match o.op with
 |.binOp .eql t' (.tmp x') (.tmp y') _=>t'==t&&x'==x&&y'==y
 |_=>false)
def eqS(F:aB prog U (DX D) Q){b:aC}(L:b.kind=.normal){M:aW}{w:aj}{t:eC}(x y d:Nat)(u:iN)(m:kI t=true)(O:V0 E t=true)(e:aae (aQ t) x y d 40=true)(n:d<N)(H:look E x=some (.agg #[i6 u.k,i6 u.l,i6 u.n]))(C:look E y=some (.agg #[i6 4,i6 0,i6 0]))(S:St D B' N E M c a w)(K:∀o,aR ((d,.bool (u.k==4&&(u.l==0&&(u.n==0&&true))))::E) N o->o.defers=a.defers->Q (G (b.at o (jB t)) W) w):Q (G (b.at a t) W) w:=by
 let⟨B,i,r,V,p,l,J⟩:=dH m;have I:=Zh O S.env p;unfold aae at e;simp only[bZ]at e;let⟨f,k⟩:=e;have f:(aQ t).dst=some d:=by
  split at f
  .rename_i s n;rw[n];simp at f;rw[f]
  .cases f
 have h:∀q v,look E q=some v->a.eval (.tmp q)=v:=λq v j=>by rw[S.env.eval (by simp[kn,j])];simp[ev,j]
 have j:cV prog (execOp a.eval (aQ t))=some (.value (.bool (u.k==4&&(u.l==0&&(u.n==0&&true))))):=by
  split at k
  .rename_i T A z R m;simp only[bZ,beq_iff_eq]at k;obtain⟨⟨rfl,rfl⟩,rfl⟩:=k;unfold execOp;rw[m];simp only[h A _ H,h z _ C];rw[cr,aab];rfl
  .cases k
 have g:=fV _ _ j;rw[p];refine F.AZ l I (by rw[L];decide) (λs=>?_) λs X P=>?_
 .unfold Sem.events;rw[g]
 .rw[<-fH (es:=#[]),g];refine P _ ?_;rw[<-J,f];exact K _ (S.env.put n) (put_defers _ _ _)
def bkU(Z:aW)(alt:List (Nat×List Hint))(F:aB P U (DX D) Q)(Nd:P.follows .mixedOrders=true)(hB:HB B D){b:aC}(hk:b.kind=.normal){f g:Nat}{d:iy}{c:aN}(q:Nat)(V:List Hint)(X:iK)(C E2:Env){M:aW}(cY:iK)(Y:List (Int×Nat))(A:List (Nat×Nat))(x:List Hint)(ed:List aH->List aH)(dx:Nat)(vx:ay){ds:wN}(hd:a.defers=ds){w:aj}(ht:mP (pc P f g d c)=true)(r:((aL (pc P f g d c))[q]?).map (λo=>o.guard.isNone&&o.dst.isNone)=some true)(m:((aL (pc P f g d c))[q+1]?).map (λo=>o.guard.isNone&&!lN o&&o.op.operands.all (kn []))=some true)(j:((aL (pc P f g d c))[q+1]?).map (λo=>(o.dst,cV P (execOp (ev []) o)))=some (some dx,some (.value vx)))(h:J6 P Z alt (aL (pc P f g d c)) q E M 0 0 (C.map Prod.fst) (E2.map Prod.fst) [] (ux P B N E M 0 V X (aL (pc P f g d c)) q)=some (⟨C.map (λp=>some p.2),E2.map (λp=>some p.2),M,0,cY,Y,A,true⟩,[],true))(hq:K5 Prod.fst (ux P B N E M 0 V X (aL (pc P f g d c)) q)=K5 Prod.snd (ux P B N E M 0 V X (aL (pc P f g d c)) q))(halt:tT P (aL (pc P f g d c)) Z alt true (ux P B N E M 0 V X (aL (pc P f g d c)) q)=tT P (aL (pc P f g d c)) Z alt false (ux P B N E M 0 V X (aL (pc P f g d c)) q))(i:(MF P B C (((aL (pc P f g d c))[q]?).getD default) ⟨[],⟨x,M,0,[],[]⟩,[],[],[]⟩).map (λp=>(p.1,p.2.m.M,p.2.m.c,p.2.m.cW,p.2.cY,p.2.eK))=some (.tuple #[],ed M,0,[],[],[]))(n:(MF P B C (((aL (pc P f g d c))[q]?).getD default) ⟨[],⟨x,M,0,[],[]⟩,[],[],[]⟩).map (λp=>p.2.m.eqs.map Prod.fst)=(MF P B C (((aL (pc P f g d c))[q]?).getD default) ⟨[],⟨x,M,0,[],[]⟩,[],[],[]⟩).map (λp=>p.2.m.eqs.map Prod.snd))(UU:.inRegion (aL (pc P f g d c)) (bP (q+2) ((aL (pc P f g d c)).size-(q+2)))::behind (pc P f g d c)=pc P f (g+1) d (c++[q+2]))(KN:∀p∈cY,p.1=p.2)(Vo:∀p∈Y,0<=p.1/\p.1<(p.2:Int))(Fj:∀p∈A,p.1<p.2)(hZ:∀w,Sat D w (ed M)->Sat D w Z)(S:St D B N E M 0 a w)(K:∀a' w',St D B N ((dx,vx)::E2) (ed M) 0 a' w'->a'.defers=ds->w'.heap.size=B->Q (G (b.at a' (pc P f (g+1) d (c++[q+2]))) W) w'):Q (G (b.at a (pc P f g d c)) W) w:=by
 have Nh:b.kind≠.early:=ξ
 have J:∃id,pc P f g d c=.code (.region id (aL (pc P f g d c)) true)::behind (pc P f g d c):=by
  unfold mP at ht;split at ht
  .rename_i e;rw[e];exact⟨_,rfl⟩
  .cases ht
 let⟨id,J⟩:=J;rw[J];generalize UY:aL (pc P f g d c)=I at*;generalize QX:behind (pc P f g d c)=k at*;cases ho:I[q]? with
 |none=>rw[ho]at r;cases r
 |some o=>
 cases O:I[q+1]? with
 |none=>rw[O]at m;cases m
 |some ox=>
 rw[ho]at r i n;rw[O]at m j;simp only[cQ]at i n;simp only[fI,Option.some.injEq,bZ,Option.isNone_iff_eq_none,mA,Prod.mk.injEq]at r m j;let⟨hg,Nl⟩:=r;let⟨⟨Uw,Qb⟩,UM⟩:=m;let⟨j,Uu⟩:=j;cases L:ux P B N E M 0 V X I q with
 |none=>rw[L]at h;cases h
 |some rr=>
  let⟨gL,al,y⟩:=rr;rw[L]at h hq halt;simp only[J6,Option.some.injEq,Prod.mk.injEq,PX.mk.injEq,bZ]at h;let⟨⟨h1,h2,h3,h4,h5,h6,h7,h8,h9⟩,KW,KV⟩:=h;have hM:oE y:=⟨fB _ hq,ξ,ξ,χ⟩;cases hv:MF P B C o ⟨[],⟨x,M,0,[],[]⟩,[],[],[]⟩with
  |none=>rw[hv]at i;cases i
  |some vy=>
   let⟨v,y2⟩:=vy;rw[hv]at i n;simp only[fI,Option.some.injEq,Prod.mk.injEq]at i n;obtain⟨rfl,ZV,s3,s4,s5,s6⟩:=i;have hm:oE y2:=⟨fB _ n,ξ,ξ,ξ⟩;refine XT (Post:=λv T=>v=.tuple #[]/\Sat D T y2.m.M/\T.heap.size=B) (ox:=ox) (Ex:=λ_=>[]) (vx:=λ_=>vx) F Nd hB Nh (az 1) ho L hM h8 h9 halt S (λv T hp=>⟨hZ _ ξ,ω⟩) (λ_=>⟨O,KV,Uw⟩) (λv T Ze _ a hA w=>?_) (λv T _ _ e u t=>by cases t) (λa1 w1 rest z1 H z3 z4=>?_) (λM5 v T l a' w3 z1 H z3 z4 z5=>?_)
   .have R:execOp a.eval ox=execOp (ev []) ox:=execOp_congr Qb λy hy=>hA.eval (yJ.1 UM y hy);have Na:=fV _ _ Uu;exact⟨by rw[R,<-fH (es:=#[]),Na],by unfold raw Sem.events;simp_all⟩
   .have S1:St D B N C M 0 a1 w1:=⟨⟨z1.sz,λe u t=>z1.val e u (fy C _ h1 e u t)⟩,by rw[<-h3];exact H.fg _,by rw[z3,h4]⟩
    refine Fe F hB Nh ho (by simp[Region.wanted,hg]) hv hm S1.env ⟨S1.sat,S1.sz⟩ λw' hI _ _=>z4 _ _ ⟨rfl,hI.sat,by have:=hI.sz;omega⟩
   .rw[UU];refine K a' w3 ⟨⟨H.sz,λe u t=>?_⟩,by rw[<-ZV];exact z1.2.1.keep z4,ω⟩ (H.DL.trans hd) ω;simp only[look]at t;cases he:(dx==e)with
    |true=>rw[he]at t;simp at he t;subst he;subst t;exact H.ext rfl (z3 (q+1) ω) _ j
    |false=>
     rw[he]at t;have:=fy E2 _ h2 e u t;rcases lM _ _ _ _ this with ⟨s,s1,s2,s3⟩|z
     .rw[<-s3];exact H.val s s1 (z3 s.i χ) e s2
     .exact H.old e u z
abbrev sK(e:eP)(ev:Nat->OZ)(el:Nat):aH:=fR (e.getD ⟨0,0,none⟩) 5 (λj=>yt (ev j)) el false
abbrev nv(o:eP)(ou:Nat->Se)(oh:yX)(n:Nat):aH:=fR (o.getD ⟨0,0,none⟩) 4 (λj=>yL (ou j,oh j)) n false
abbrev Ru:aH:=oR 0 0 [.iface 233 (.agg #[.pointer (some ⟨1,136,none⟩)])] false
abbrev Yt(sa:eP)(m:Nat)(g:Nat->Cl):aH:=fR (sa.getD ⟨0,0,none⟩) 2 (λj=>[i6 (g j).st,.slice (g j).ta (g j).nt (g j).tc]) m false
abbrev Kd(g:Nat->Cl)(j:Nat):aH:=fR ((g j).ta.getD ⟨0,0,none⟩) 3 (λi=>[i6 ((g j).T i 0),i6 ((g j).T i 1),i6 ((g j).T i 2)]) (g j).nt false
def cM(sa:eP)(m:Nat)(g:Nat->Cl):List aH:=Ru::Yt sa m g::(List.range m).map (Kd g)
abbrev El(s0:eP)(n:Nat)(L:oF):aH:=fR (s0.getD ⟨0,0,none⟩) 6 (oG L) n false
def pY{g:Nat->Cl}:∀r∈cM sa m g,r.wr=false:=λr a=>by
 simp only[cM,ak,gV]at a;grind
def GP{g:Nat->Cl}:Flat (cM sa m g):=by
 rw[bO];intro r a;simp only[cM,ak,gV]at a;grind
def Yn(h:r∈C)(a:r.wr=false):Has C r:=mq.2 ⟨a,h⟩
section
variable{w:aj}
def lD{M:aW}(h:∀r∈M,xE D w r/\r.wr=false):Sat D w M:=by
 refine sat_iff.2 ⟨λr a=>(h r a).1,?_⟩;refine WE λr a a a a=>?_;simp_all
def nU(a:r.wr=false)(a:r.row=none)(a:∀j,r.has j->w.cell? (r.ad j)=some (r.get j))(b:∀j,r.has j->D (r.ad j) false):xE D w r:=
 ⟨a,λj a=>⟨b j a,λz=>ξ⟩,λz=>ξ,λg e n z=>ξ⟩
def vD{L:oF}(h:nF w s0 n L)(k:∀p:Addr,s0=some p->∀a:Addr,a.block=p.block->D a false):xE D w (El s0 n L):=by
 refine nU rfl rfl (λj c=>?_) (λj c=>?_)
 .let⟨i,f⟩:=j;let⟨g,e⟩:=c;obtain⟨b,o,rfl,d⟩:=h i g;simp only at g e;have:=d f e;simp only[cQ,ey];rw[show o+i*6+f=o+i*6+f from rfl,this];rcases f with _|_|_|_|_|_|f
  .rfl
  .rfl
  .rfl
  .rfl
  .rfl
  .rfl
  .omega
 .let⟨i,f⟩:=j;obtain⟨b,o,rfl,d⟩:=h i c.1;exact k _ rfl _ (by simp only[cQ,ey])
def zv{g:Nat->Cl}(h:sG w sa m g)(u:w.cell? ⟨0,0,none⟩=some (.iface 233 (.agg #[.pointer (some ⟨1,136,none⟩)])))(t:TO D sa m g)(q:D ⟨0,0,none⟩ false):Sat D w (cM sa m g):=by
 refine lD λr p=>?_;refine⟨?_,pY r p⟩;simp only[cM,ak,gV]at p;rcases p with rfl|rfl|⟨j,a,rfl⟩
 .refine nU rfl rfl (λj a=>?_) (λj a=>?_)
  .let⟨i,f⟩:=j;let⟨c,d⟩:=a;simp only[gB,iT]at c d;have s:f=0:=ω
   subst s;exact u
  .let⟨i,f⟩:=j;let⟨c,d⟩:=a;simp only[gB,iT]at c d;have s:f=0:=ω
   subst s;exact q
 .refine nU rfl rfl (λj a=>?_) (λj a=>?_)
  .let⟨i,f⟩:=j;let⟨c,d⟩:=a;obtain⟨b,o,rfl,n,l,_⟩:=h i c;simp only at c d;simp only[cQ,ey];rcases f with _|_|f
   .exact n
   .exact l
   .omega
  .let⟨i,f⟩:=j;obtain⟨b,o,rfl,n,l,_⟩:=h i a.1;exact t.1 _ rfl _ (by simp only[cQ,ey])
 .have l:j<m:=aZ.1 a;let⟨_,a,_,_,_,m⟩:=h j l;refine nU rfl rfl (λk a=>?_) (λk a=>?_)
  .let⟨i,f⟩:=k;let⟨c,d⟩:=a;let⟨b,o,e,h⟩:=m i c;simp only at c d;have:=h f d;show w.cell? ((((g j).ta.getD ⟨0,0,none⟩).add (i*3)).add f)=some (List.getD [i6 ((g j).T i 0),i6 ((g j).T i 1),i6 ((g j).T i 2)] f undef);rw[e];simp only[cQ,ey];grind
  .let⟨i,f⟩:=k;let⟨b,o,e,h⟩:=m i a.1;have b:=a.1;show D ((((g j).ta.getD ⟨0,0,none⟩).add (i*3)).add f) false;rw[e];exact t.2 j l χ _ e _ (by simp only[cQ,ey])
def Sat.ZL{s:PS}(h:Sat D w (pM s++C)):Sat D w (sK s.ea s.l.ev s.l.el::nv (some ⟨s.k.O,0,none⟩) s.l.ou s.oh s.k.V.nc::C):=by
 have c:Sat D w ([vR s.ea 5 (λj=>yt (s.l.ev j)) s.l.el s.ec 73,fR ⟨s.k.O,0,none⟩ 4 (λj=>yL (s.l.ou j,s.oh j)) s.k.V.nc true]++C):=h.sub (D7 (by
  show List.Sublist [_,_] [_,_,_,_,_,_,_];exact .cons _ (.cons _ (.cons _ (.cons_cons _ (.cons _ (.cons _ (.cons_cons _ .slnil))))))) C)
 have b:=c.G7 0 rfl (sK s.ea s.l.ev s.l.el) (λj a=>⟨a,rfl,rfl⟩) (λz=>by cases z) rfl;exact b.G7 1 rfl (nv (some ⟨s.k.O,0,none⟩) s.l.ou s.oh s.k.V.nc) (λj a=>⟨a,rfl,rfl⟩) (λz=>by cases z) rfl
end
def Sat.Wp{w:aj}{b:Nat}{M:aW}(h:Sat D w M)(l:∀j,j<vs.length->w.cell? ⟨b,j,none⟩=some (vs.getD j undef))(k:∀j wr,D ⟨b,j,none⟩ wr)(m:∀j,j<vs.length->w.frozen? ⟨b,j,none⟩=false)(o:∀r∈M,∀j,r.has j->∀i,i<vs.length->r.ad j≠⟨b,i,none⟩):Sat D w (bR b vs::M):=by
 refine sat_iff.2 ⟨λr d=>?_,iG.2 ⟨λr d i j f a c e=>?_,(sat_iff.1 h).2⟩⟩
 .rcases ak.1 d with rfl|d
  .refine⟨λj a=>?_,λj a=>⟨k _ _,λ_=>⟨k _ _,m _ a.2⟩⟩,λ_ j f a c e=>?_,λg e n z=>(by cases z)⟩
   .rw[show(bR b vs).ad j=⟨b,j.2,none⟩from rfl,l j.2 a.2];congr 1;have b:j.2<vs.length:=a.2;unfold aH.get;grind
   .have b:j.1<1:=a.1;have b:f.1<1:=c.1;grind
  .exact(sat_iff.1 h).1 r d
 .exact o r d f c j.2 a.2 e.symm
def Sat.aaI{w:aj}{b:Nat}{M:aW}(h:Sat D w M)(a:∀j,j<vs.length->w.cell? ⟨b,j,none⟩=some (vs.getD j undef))(c:∀j wr,D ⟨b,j,none⟩ wr)(d:∀j,j<vs.length->w.frozen? ⟨b,j,none⟩=false):∃C,Sat D w (bR b vs::C)/\∀r,Has M r->(∀j,r.has j->∀i,i<vs.length->r.ad j≠⟨b,i,none⟩)->Has C r:=by
 classical
 refine⟨M.filter λr=>decide (∀j,r.has j->∀i,i<vs.length->r.ad j≠⟨b,i,none⟩),(h.sub List.filter_sublist).Wp a c d λr a=>?_,λr a b=>?_⟩
 .simp_all
 .let⟨c,b⟩:=mq.1 a;exact mq.2 ⟨c,mK.2 ⟨b,ξ⟩⟩
def Ba:∀{E:Env}{n:Nat}{v:ay},look E n=some v->(n,v)∈E
 |[],n,v,h=>by cases h
 |(d,u)::E,n,v,h=>by
  simp only[look]at h;by_cases e:d=n
  .simp_all
  .have a:(d==n)=false:=ξ
   rw[a]at h;exact aP _ (Ba h)
def aR.sub{b:Env}(h:aR E N a)(c:∀p∈b,look E p.1=some p.2):aR b N a:=⟨h.sz,λn v a=>h.val n v (c (n,v) (Ba a))⟩
def Iw(w:aj):Old w w:=⟨rfl,rfl,rfl,az _,λ_ _=>rfl⟩
def Fg{a b c:aj}(h:Old a b)(k:Old b c):Old a c:=⟨k.1.trans h.1,k.2.1.trans h.2.1,k.2.2.1.trans h.2.2.1,aT h.2.2.2.1 k.2.2.2.1,λi a=>(k.2.2.2.2 i (ga a h.2.2.2.1)).trans (h.2.2.2.2 i a)⟩
theorem zw{L:LS}(Q:wM V)(S:yI V L)(P:Fin V Z m none L)(m:0<ng){w:aj}(L:∀x∈l,x<w.heap.size){dL:p9}{eu:bU}{M:aW}(E:Sj V sa dL eu M)(u:0<V.nl->∃c,sL=some c/\Has M (fR c 6 (λi=>EV (V.ly i)) V.nl false))(R:Sat (cP wI.heap.size l []) w M)(q:O3 (cP w.heap.size l []) (nM prog Post (Old w) (jq l) ng) w.heap.size M 14 #[.slice sL V.nl cA,.slice sa V.nc cap] (.tuple #[i6 0,i6 0]))(K:∀(c:LS),Z c->∀(b A:Nat)(o:Nat)(i:eP)(x:Nat)(v:yX)(C:aW)(w':aj),0<b->w.heap.size<=A->A<w'.heap.size->(0<V.nc->w.heap.size<=o)->Old w w'->Old wI w'->((0<c.el->∃a,i=some a)/\c.el<=x)->Sat (cP wI.heap.size (A::l) []) w' (sK i c.ev c.el::nv (some ⟨o,0,none⟩) c.ou v V.nc::C)->(∀r,Has M r->Has C r)->(∀j,j<V.nc->fu C (v j) (c.ou j).b.ch)->
 nM prog Post (Old wI) (jq (A::l)) b (G (X.finish (.tuple #[.agg #[.slice (some ⟨o,0,none⟩) V.nc V.nc,.slice i c.el x],i6 0,i6 0])) W) w'):
 nM prog Post (Old wI) (jq l) ng (G (Frame.enter prog 15 #[.slice sL V.nl cA,.slice sa V.nc cap] .normal) (X::W)) w:=by
 refine At.assume gN λt=>At.keep (K':=Old w) (λd=>Iw w) ?_;have p:wI.heap.size<=w.heap.size:=t.2.2.2.1;refine Pm Q S P m L E u (R.OB (λr e j D h=>⟨h.1,λz=>by cases z⟩) (λr e n=>by rw[E.ro r e]at n;cases n)) q λb A s C w' O N J I H f B y F k=>?_;subst H;refine At.keep (λd=>Fg t f) ?_;have T:Sat (cP wI.heap.size (A::l) []) w' (pM s++C):=B.OB (λr e j D h=>⟨h.1,λz=>by cases z⟩) (λr e n j D h=>⟨h.1,λz=>⟨aT p (h.2 z).1,(h.2 z).2⟩⟩);exact K s.l I b A s.k.O s.ea s.ec s.oh C w' O N J (λz=>(((B.ok 6 (fR ⟨s.k.O,0,none⟩ 4 (λj=>yL (s.l.ou j,s.oh j)) s.k.V.nc true) rfl (0,0) ⟨z,(by decide:0<4)⟩).2 rfl).1.2 rfl).1) f (Fg t f) ⟨(λz=>by
  rcases y.jr.row with ⟨_,a,_⟩|⟨g,a,_⟩
  .omega
  simp_all),y.jr.le⟩ T.ZL F k
def iX(c:∀A∈l,A<N)(c:N0<=N){a:Addr}(c:N<=a.block)(wr:Bool):cP N0 l [] a wr:=
 ⟨fun⟨A,a,z⟩=>χ,λ_=>⟨ω,fun⟨p,b,z⟩=>by cases b⟩⟩
def RP{L:oF}{g:Nat->Cl}(h:jG n L m g≠(0,0)):(jG n L m g).1≠0:=by
 unfold jG at h ⊢;grind
structure Ds(wI:aj)(s0:eP)(n:Nat)(L:oF)(sa:eP)(m:Nat)(g:Nat->Cl):Prop where
 hL:nF wI s0 n L
 bL:∀p:Addr,s0=some p->p.block<wI.heap.size
 hC:sG wI sa m g
 bC:∀p:Addr,sa=some p->p.block<wI.heap.size
 bT:∀i,i<m->0<(g i).nt->∀p:Addr,(g i).ta=some p->p.block<wI.heap.size
 i0:0<wI.heap.size
 hg:wI.cell? ⟨0,0,none⟩=some (.iface 233 (.agg #[.pointer (some ⟨1,136,none⟩)]))
def I4{w:aj}{g:Nat->Cl}(h:sG w sa m g)(a:Old w w'):sG w' sa m g:=λi c=>by
 let⟨b,o,e,g,d,f⟩:=h i c;exact⟨b,o,e,a.cell _ _ g,a.cell _ _ d,λj c=>by
  let⟨b,o,e,d⟩:=f j c;exact⟨b,o,e,λk b=>a.cell _ _ (d k b)⟩⟩
def IJ{w:aj}{L:oF}(h:nF w sa n L)(c:Old w w'):nF w' sa n L:=λi a=>by
 let⟨b,o,e,d⟩:=h i a;exact⟨b,o,e,λk a=>c.cell _ _ (d k a)⟩
def jN{a:Addr}(h:a.block∉l):cP N0 l [] a false:=
 ⟨fun⟨A,a,z⟩=>h χ,λz=>by cases z⟩
section
variable{L:oF}{g:Nat->Cl}
theorem Ds.rd(h:Ds wI s0 n L sa m g)(b:∀B∈l,wI.heap.size<=B):TO (cP N0 l []) sa m g:=⟨λp b a d=>jN λz=>by have:=h.bC p b;grind,λi c e p b a d=>jN λz=>by have:=h.bT i c e p b;grind⟩
end
def Q3(_ j:Nat):Int:=match j with|0=>1|1=>7|_=>3
abbrev CN(t:Nat)(_:Nat):Cl:=⟨5,some ⟨t,0,none⟩,1,1,Q3⟩
def Xy(t:Nat):jG 0 (λ_ _=>0) 1 (CN t)=(0,0):=ρ
def Oe(V:Ev0):yI V (ko V):=⟨rfl,rfl,λ_ _=>⟨rfl,rfl,rfl,rfl⟩,λ_=>rfl,λ_=>rfl,rfl,λ_=>rfl,rfl,rfl,λ_ _=>⟨rfl,rfl,rfl,rfl,rfl⟩⟩
theorem F5{w:aj}(hg:wI.cell? ⟨0,0,none⟩=some (.iface 233 (.agg #[.pointer (some ⟨1,136,none⟩)])))(i0:0<wI.heap.size)(hO:Old wI w)(K:∀l' C w',0<C->(∀x∈l',wI.heap.size<=x/\x<w'.heap.size)->Old wI w'->nM prog Post (Old wI) (jq l') C (G (X.finish (.bool true)) W) w'):nM prog Post (Old wI) (jq []) 1 (G (Frame.enter prog 23 #[] .normal) (X::W)) w:=by
 have F:=nA (P:=prog) (Post:=Post) (wI:=wI) (l:=[]) 1;have h:wI.heap.size<=w.heap.size:=hO.2.2.2.1;have u:∀(a:Addr)(wr:Bool),w.heap.size<=a.block->cP wI.heap.size [] [] a wr:=λa wr z=>iX (λx g=>by cases g) h z wr;have hS:Sat (cP wI.heap.size [] []) w []:=lD λr s=>by cases s
 have n:w.heap.size<=w.heap.size:=az _;generalize hB0:w.heap.size=B at u n h;rw[<-hB0]at n;replace n:B<=w.heap.size:=ω
 refine cJ func23 hS 59 λJ a0 b hn m qh tN S0 P9=>aq (λM=>bR (b+1) [i6 5,.slice (some ⟨b,0,none⟩) 1 1]::(bR (b) [i6 1,i6 7,i6 3]::(M))) 2 F u m tN S0 10 [] 1 [] [(9,.slice (some ⟨b+1,0,none⟩) 1 1)] 10 1 [] λa1 V U Nt zS Dx o9=>?_;have I:sG V (some ⟨b+1,0,none⟩) 1 (CN b):=λi hi=>by
  have e:i=0:=ω
  subst e;refine⟨b+1,0,rfl,U.sat.val 0 _ rfl (0,0) ⟨aD,(by decide:0<2)⟩,U.sat.val 0 _ rfl (0,1) ⟨aD,(by decide:1<2)⟩,λj t=>?_⟩;have e:j=0:=ξ
  subst e;refine⟨b,0,rfl,λk hk=>?_⟩;have:=U.sat.val 1 _ rfl (0,k) ⟨aD,hk⟩;rw[show(⟨b,0+0*3+k,none⟩:Addr)=⟨b,k,none⟩ by simp];refine this.trans (cT some ?_);have Nh:k=0\/k=1\/k=2:=ω
  rcases Nh with rfl|rfl|rfl<;>rfl
 have H:∀N:Nat,TO (cP N [] []) (some ⟨b+1,0,none⟩) 1 (CN b):=λN=>⟨λp S a ha=>jN ψ,λi hi h0 p S a ha=>jN ψ⟩
 refine Af F m 10 15 #[.slice none 0 0,.slice (some ⟨b+1,0,none⟩) 1 1] ρ ρ δ U λcR L=>At.assume gN λhO3=>?_;have VR:Sat (cP wI.heap.size [] []) V (cM (some ⟨b+1,0,none⟩) 1 (CN b)):=zv I (hO3.cell _ _ hg) (H _) (jN ψ);have d:∀r∈cM (some ⟨b+1,0,none⟩) 1 (CN b),Has (cM (some ⟨b+1,0,none⟩) 1 (CN b)) r:=λr s=>Yn s (pY r s);refine zw (V:=nC 0 (λ_ _=>0) 1 (CN b)) (M:=cM (some ⟨b+1,0,none⟩) 1 (CN b)) (dL:=λ_=>some ⟨b,0,none⟩) (eu:=λ_=>1) (sL:=none) (cA:=0) (sa:=some ⟨b+1,0,none⟩) (cap:=1) (zl (Xy b)) (Oe _) Xs δ (λx g=>by cases g) ⟨λr s=>pY r s,GP,λ_=>⟨_,rfl,d _ (aP _ (bI ..))⟩,λc hc _=>⟨_,rfl,?_⟩,d _ (bI ..)⟩ (λz=>absurd z (Ap 0)) VR (λBL yR w' M' O VO LM KK=>?_) λX1 hX1 A Q R ea1 P y C1 f k1 k2' k3 k3o k4 k5 k6 Y k8 k9=>L _ _ _ λa4 o l=>?_
 .have e:c=0:=by have:c<1:=hc;omega
  subst e;exact d (Kd (CN b) 0) (aP _ (aP _ (gV.2 ⟨0,aZ.2 δ,rfl⟩)))
 .exact r8 (n:=0) (m:=1) (L:=λ_ _=>0) (g:=CN b) (nA 1) (λa wr z=>iX (N:=V.heap.size) (λx g=>by cases g) (az _) z wr) (λz=>ω) (λ_=>⟨_,rfl,O _ (d _ (aP _ (bI ..)))⟩) (λj t _=>⟨_,rfl,O _ (by
   have e:j=0:=ω
   subst e;exact d (Kd (CN b) 0) (aP _ (aP _ (gV.2 ⟨0,aZ.2 δ,rfl⟩))))⟩) VO LM (by rw[Xy];exact KK)
 clear F;have F:=nA (P:=prog) (Post:=Post) (wI:=wI) (l:=[Q]) A;let⟨f1,f2,f3⟩:=end_1 hX1;replace l:=l.trans Nt;obtain⟨T,rfl⟩:=k6.1 ω;obtain⟨q,v,hoh⟩:∃q v,y 0=.slice q 0 v:=by
  have:=k9 0 aD;rw[f1]at this;rcases this with ⟨z,_⟩|⟨ca,cap,i,z,_⟩
  .simp_all
  simp_all
 rw[f2]at o Y;have h7:=(Y.sub (M':=[_,_]) (.cons_cons _ (.cons_cons _ (List.nil_sublist _)))).G7 0 rfl (fR T 5 (λj=>if j=1 then[i6 8,i6 0,i6 (-1),i6 2,i6 0]else yt (X1.ev j)) 2 false) (λj t=>⟨t,rfl,by
  show(if j.1=1 then[i6 8,i6 0,i6 (-1),i6 2,i6 0]else yt (X1.ev j.1)).getD j.2 undef=(yt (X1.ev j.1)).getD j.2 undef;split
  .rename_i e;rw[e,f3];rfl
  .rfl⟩) (λz=>by cases z) rfl
 have h8:=h7.G7 1 rfl (fR ⟨R,0,none⟩ 4 (λ_=>[i6 8,i6 1,i6 7,.slice q 0 v]) 1 false) (λj t=>⟨t,rfl,by
  have e:j.1=0:=by have:j.1<1:=t.1;omega
  show List.getD [i6 8,i6 1,i6 7,.slice q 0 v] j.2 undef=(yL (X1.ou j.1,y j.1)).getD j.2 undef;rw[e,hoh,f1];rfl⟩) (λz=>by cases z) rfl
 have S4:St (cP wI.heap.size [Q] []) f.heap.size 59 [(10,.tuple #[.agg #[.slice (some ⟨R,0,none⟩) 1 1,.slice (some T) 2 P],i6 0,i6 0])] [fR T 5 (λj=>if j=1 then[i6 8,i6 0,i6 (-1),i6 2,i6 0]else yt (X1.ev j)) 2 false,fR ⟨R,0,none⟩ 4 (λ_=>[i6 8,i6 1,i6 7,.slice q 0 v]) 1 false] 0 a4 f:=⟨o.sub (by intro p S;simp only[ak,bH,or_false]at S;subst S;rfl),h8,rfl⟩;have E:wI.heap.size<=f.heap.size:=k5.2.2.2.1;clear u;have D:∀x∈[Q],wI.heap.size<=x/\x<f.heap.size:=λx g=>by
  grind
 have u:∀(a:Addr)(wr:Bool),f.heap.size<=a.block->cP wI.heap.size [Q] [] a wr:=λa wr z=>iX (N:=f.heap.size) (λx g=>(D x g).2) E z wr;have Z:f.heap.size=f.heap.size:=rfl;clear o Y k8 k9 L h7 h8;generalize hB4:f.heap.size=B4 at S4 Z u D;refine oH (λM=>bR (B4+1) [i6 8,i6 1,i6 7,.slice q 0 v]::(bR (B4) [.slice (some ⟨R,0,none⟩) 1 1,.slice (some T) 2 P]::(M))) 2 F u m qh l S4 69 [0,0,0,2,0,0,0,2,0,0,0,1,2,0,0,4,0,0,0,4,0,0,0,4,1,0,1,1,2,1,0,5] 35958428274349397 [] 0 (.bool true) 80 2 [] [] [] [(1,2),(0,1)] [] λw5 S5 Y5 Dw=>At.assume gN λXh=>K [Q] A w5 k1 (λx g=>χ) Xh
section
variable{L:oF}{g:Nat->Cl}
theorem Ds.sat(H:Ds wI s0 n L sa m g)(d:∀x∈l,wI.heap.size<=x){w:aj}(c:Old wI w):Sat (cP wI.heap.size l []) w (El s0 n L::cM sa m g):=lD λr b=>by
 rcases ak.1 b with rfl|b
 .exact⟨vD (IJ H.hL c) λp e a a=>jN λz=>by have:=H.bL p e;grind,rfl⟩
 .exact⟨(zv (I4 H.hC c) (c.cell _ _ H.hg) (H.rd d) (jN λz=>by have h:wI.heap.size<=0:=d _ z;have:=H.i0;omega)).mem b,pY r b⟩
theorem Ds.lt(H:Ds wI s0 n L sa m g)(b:r∈El s0 n L::cM sa m g){j:Nat×Nat}(c:r.has j):(r.ad j).block<wI.heap.size:=
 au (((H.sat (l:=[]) (λx a=>by cases a) (Iw wI)).mem b).val j c)
def Ds.ro(a:r∈El s0 n L::cM sa m g):r.wr=false:=by
 rcases ak.1 a with rfl|a
 .rfl
 .exact pY r a
theorem Ds.q1(H:Ds wI s0 n L sa m g):0<n->∃a,s0=some a/\Has (El s0 n L::cM sa m g) (fR a 6 (oG L) n false):=λz=>by
 obtain⟨b,o,rfl,_⟩:=H.hL 0 z;exact⟨_,rfl,Yn (bI ..) rfl⟩
theorem Ds.q2(H:Ds wI s0 n L sa m g):0<m->∃a,sa=some a/\Has (El s0 n L::cM sa m g) (fR a 2 (λj=>[i6 (g j).st,.slice (g j).ta (g j).nt (g j).tc]) m false):=λz=>by
 obtain⟨b,o,rfl,_⟩:=H.hC 0 z;exact⟨_,rfl,Yn (aP _ (aP _ (bI ..))) rfl⟩
theorem Ds.q3(H:Ds wI s0 n L sa m g):∀j,j<m->0<(g j).nt->∃a,(g j).ta=some a/\Has (El s0 n L::cM sa m g) (fR a 3 (λi=>[i6 ((g j).T i 0),i6 ((g j).T i 1),i6 ((g j).T i 2)]) (g j).nt false):=λj a z=>by
 let⟨_,_,_,_,_,c⟩:=H.hC j a;let⟨b,o,e,_⟩:=c 0 z;refine⟨_,e,?_⟩;have:=Yn (C:=El s0 n L::cM sa m g) (r:=Kd g j) (aP _ (aP _ (aP _ (gV.2 ⟨j,aZ.2 a,rfl⟩)))) rfl;grind
def Yx(a:jG n L m g≠(0,0)):(1<=(jG n L m g).1/\(jG n L m g).1<=4)/\0<=(jG n L m g).2/\(jG n L m g).2<=8:=by
 unfold jG at a ⊢;grind
def HP(F:aB prog true (DX D) Q)(n:HB B D)(b:J.kind=.normal)(l:J.fn=8){M:aW}{m:Act}{g:aj}{f d:Nat}(j:m.defers=[])(o:B<=d){c i:Int}(o:1<=c/\c<=4)(o:0<=i/\i<=8)(e:St D d 70 [(12,i6 i),(11,i6 c),(10,ptr d),(9,i6 i),(8,i6 c),(7,.bool true),(4,ptr f)] (bR d [.slice none 0 0,.slice none 0 0]::bR f [.slice none 0 0,.slice none 0 0]::M) 1 m g)(K:∀w',g.heap.size<=w'.heap.size->Q (G (X.finish (.tuple #[.agg #[.slice none 0 0,.slice none 0 0],.bool false,.bool true])) W) w'):Q (G (J.at m (pc prog 8 44 [true] [])) (X::W)) g:=by
 replace e:=St.mk (c:=0) (B:=d+1) e.env e.sat e.sz;have g:i=0\/i=1\/i=2\/i=3\/i=4\/i=5\/i=6\/i=7\/i=8:=ω
 have k:c=1\/c=2\/c=3\/c=4:=ω
 have c:=e.sz;rcases g with rfl|rfl|rfl|rfl|rfl|rfl|rfl|rfl|rfl<;>rcases k with rfl|rfl|rfl|rfl
 all_goals
  refine bkU [oR d 0 [.slice none 0 0,.slice none 0 0] false] [(19,[]),(20,[(0,(0,1),true)]),(21,[]),(22,[]),(23,[])] F aK (λa wr z=>n a wr ω) b 24 (Hq [0,0,0,2,0,0,0,2]) [(true,true),(true,true),(true,true),(true,true),(true,true),(true,true),(true,true),(true,true),(true,true),(true,true),(true,true),(true,true),(true,true),(true,true)] [(30,.agg #[.slice none 0 0,.slice none 0 0]),(4,ptr f)] [(53,.bool true),(4,ptr f)] [] [] [] (Hq [1,0,0,2]) (λM=>bh 1 (0,1) (.slice none 0 0) (bh 1 (0,0) (.slice none 0 0) (M))) 5 (.bool false) j ρ ρ ρ ρ ρ ρ ρ ρ ρ ρ eU eU eU (λw h=>(h.sub (M':=[bR d [.slice none 0 0,.slice none 0 0]]) (.cons_cons _ (List.nil_sublist _))).fix) e λa a d a c=>Rb F n b a d 2 [] 1 [] [(6,.bool true),(5,.bool false),(4,ptr f)] 47 3 [26] λa c f a d d d=>cC F f b l a [1,0,0,2] (.tuple #[.agg #[.slice none 0 0,.slice none 0 0],.bool false,.bool true]) ?_;exact K c ω
theorem ES(H:Ds wI s0 n L sa m g)(hZ:jG n L m g=(0,0)->Fin (nC n L m g) Z 80001 none (ko (nC n L m g)))(K0:∀l' O w',0<O->(∀x∈l',wI.heap.size<=x/\x<w'.heap.size)->Old wI w'->nM prog Post (Old wI) (jq l') O (G (X.finish (.tuple #[.agg #[.slice none 0 0,.slice none 0 0],.bool false,.bool true])) W) w')(K1:jG n L m g=(0,0)->∀t,Z t->∀l' O (o:Nat) R ec oh C w',0<O->(∀x∈l',wI.heap.size<=x/\x<w'.heap.size)->Old wI w'->((0<t.el->∃a,R=some a)/\t.el<=ec)->Sat (cP wI.heap.size l' []) w' C->Has C (sK R t.ev t.el)->Has C (nv (some ⟨o,0,none⟩) t.ou oh m)->(∀j,j<m->fu C (oh j) (t.ou j).b.ch)->(∀r∈El s0 n L::cM sa m g,Has C r)->nM prog Post (Old wI) (jq l') O (G (X.finish (.tuple #[.agg #[.slice (some ⟨o,0,none⟩) m m,.slice R t.el ec],.bool true,.bool true])) W) w'):
 nM prog Post (Old wI) (jq []) 1 (G (Frame.enter prog 8 #[.slice s0 n c0,.slice sa m cap] .normal) (X::W)) wI:=by
 have F:=nA (P:=prog) (Post:=Post) (wI:=wI) (l:=[]) 1;have v:∀(a:Addr)(wr:Bool),wI.heap.size<=a.block->cP wI.heap.size [] [] a wr:=λa wr z=>iX (λx y=>by cases y) (az _) z wr;have hS:Sat (cP wI.heap.size [] []) wI []:=lD λr u=>by cases u
 refine cJ func8 hS 70 λJ G k G h qh G Z O=>aq (λM=>bR (k) [.slice none 0 0,.slice none 0 0]::(M)) 1 F v h G Z 8 [] 1 [] [(4,ptr k),(0,.slice s0 n c0),(1,.slice sa m cap)] 8 1 [] λG G S1 Z O O O=>Af F h 14 23 #[] ρ ρ δ S1 λcR Q=>At.assume gN λO=>At.keep (K':=Old G) (λd=>Iw G) ?_;refine F5 (wI:=G) (O.cell _ _ H.hg) ω (Iw G) λI ng1 N U hl1 D=>?_;have hO2:=Fg O D;refine At.keep (K':=Old wI) (λd=>hO2) ?_;refine Q _ _ _ λa2 OR DF=>?_;replace DF:=DF.trans Z;clear F Q;have F:=nA (P:=prog) (Post:=Post) (wI:=wI) (l:=I) ng1;have d:G.heap.size<=N.heap.size:=D.2.2.2.1;clear v;have v:∀(a:Addr)(wr:Bool),N.heap.size<=a.block->cP wI.heap.size I [] a wr:=λa wr z=>iX (N:=N.heap.size) (λx y=>(hl1 x y).2) ω z wr;have hsB:∀l:List Nat,(∀x∈l,G.heap.size<=x)->∀j wr,cP wI.heap.size l [] ⟨k,j,none⟩ wr:=λl d j wr=>⟨(jN (N0:=0) (l:=l) (a:=⟨k,j,none⟩) λz=>χ).1,λ_=>⟨χ,fun⟨p,hp,z⟩=>by cases hp⟩⟩
 have d:∀j,j<2->N.cell? ⟨k,j,none⟩=some ([Value.slice none 0 0,.slice none 0 0].getD j undef):=λj b=>by
  refine D.cell _ _ ?_;refine(S1.sat.val 0 _ rfl (0,j) ⟨aD,b⟩).trans (cT some ?_);rfl
 have l:∀j,j<2->N.frozen? ⟨k,j,none⟩=false:=λj b=>(World.frozen?_of_block (D.2.2.2.2 k ω)).trans ((S1.sat.ok 0 _ rfl (0,j) ⟨aD,b⟩).2 rfl).2;have h2:Sat (cP wI.heap.size I []) N (bR k [.slice none 0 0,.slice none 0 0]::El s0 n L::cM sa m g):=(H.sat (λx y=>χ) hO2).Wp d (hsB I λx y=>(hl1 x y).1) l λr u j b i V e=>by
  have:=H.lt u b;grind
 have S2:St (cP wI.heap.size I []) N.heap.size 70 [(14,.bool true),(0,.slice s0 n c0),(1,.slice sa m cap),(4,ptr k)] (bR k [.slice none 0 0,.slice none 0 0]::El s0 n L::cM sa m g) 0 a2 N:=⟨OR.sub (by intro p hp;simp only[ak,bH,or_false]at hp;rcases hp with rfl|rfl|rfl|rfl<;>rfl),h2,rfl⟩;have tM:N.heap.size=N.heap.size:=rfl;have q1:=H.q1;have q2:=H.q2;have q3:=H.q3;have M6:∀r∈El s0 n L::cM sa m g,r.wr=false:=λr u=>Ds.ro u;have d:∀r∈El s0 n L::cM sa m g,∀j,r.has j->(r.ad j).block<wI.heap.size:=λr u j b=>H.lt u b;generalize hM:El s0 n L::cM sa m g=M at*;generalize hB2:N.heap.size=d at S2 tM v;refine Rb F v h DF S2 6 [] 1 [] [(17,.slice sa m cap),(16,.slice s0 n c0),(7,.bool true),(0,.slice s0 n c0),(1,.slice sa m cap),(4,ptr k)] 15 1 [] λd d l d D D D=>ah F h d l 18 14 #[.slice s0 n c0,.slice sa m cap] λd d=>r8 F v (λz=>by let⟨a,B,w⟩:=q1 z;exact⟨a,B,w.cons⟩) (λz=>by let⟨a,B,w⟩:=q2 z;exact⟨a,B,w.cons⟩) (λj b z=>by let⟨a,B,w⟩:=q3 j b z;exact⟨a,B,w.cons⟩) l.sat ω λl D l=>d _ _ _ D λd d S4 Vx d=>?_;by_cases K:jG n L m g=(0,0)
 .rw[K]at S4;refine Rb F v h Vx S4 10 [] 1 [] [(23,.slice sa m cap),(22,.slice s0 n c0),(9,i6 0),(8,i6 0),(7,.bool true),(1,.slice sa m cap),(4,ptr k)] 26 1 [] λa5 w5 S5 Yv Y5 Dw qO=>Af F h 24 15 #[.slice s0 n c0,.slice sa m cap] ρ ρ δ S5 λcR Q=>At.assume gN λd=>?_;have Xi:Sj (nC n L m g) sa (λj=>(g j).ta) (λj=>(g j).tc) M:=⟨M6,by
   subst hM;rw[bO];intro r u;rcases ak.1 u with rfl|u
   .rfl
   .exact(bO.1 GP) r u,q2,q3,by
   subst hM;exact Yn (aP _ (bI ..)) rfl⟩
  have d:∀x∈I,x<w5.heap.size:=λx y=>χ
  refine zw (V:=nC n L m g) (zl K) (Oe _) (hZ K) U d (sL:=s0) (sa:=sa) (cA:=c0) (cap:=cap) Xi q1 S5.sat.tail (λBL yR w' M' S VO LM KK=>?_) λt hLf W9 A o R ec oh C E k1 l l k3o k4 l k6 k7 k8 k9=>Q _ _ _ λa6 TF P=>?_
  .exact r8 (n:=n) (m:=m) (L:=L) (g:=g) (nA ng1) (λa wr z=>iX (N:=w5.heap.size) d (az _) z wr) (λz=>χ) (λz=>χ) (λj b z=>by let⟨a,B,w⟩:=q3 j b z;grind) VO LM χ
  replace P:=P.trans Yv;clear F Q;have F:=nA (P:=prog) (Post:=Post) (wI:=wI) (l:=A::I) W9;have d:w5.heap.size<=E.heap.size:=k4.2.2.2.1;have hl6:∀x∈A::I,wI.heap.size<=x/\x<E.heap.size:=λx y=>by
   rcases ak.1 y with rfl|y
   .omega
   grind
  clear v;have v:∀(a:Addr)(wr:Bool),E.heap.size<=a.block->cP wI.heap.size (A::I) [] a wr:=λa wr z=>iX (N:=E.heap.size) (λx y=>(hl6 x y).2) ω z wr;have hv6:∀j,j<2->E.cell? ⟨k,j,none⟩=some ([Value.slice none 0 0,.slice none 0 0].getD j undef):=λj b=>by
   refine k4.cell _ _ ?_;refine(S5.sat.val 0 _ rfl (0,j) ⟨aD,b⟩).trans (cT some ?_);rfl
  have hf6:∀j,j<2->E.frozen? ⟨k,j,none⟩=false:=λj b=>(World.frozen?_of_block (k4.2.2.2.2 k ω)).trans ((S5.sat.ok 0 _ rfl (0,j) ⟨aD,b⟩).2 rfl).2;have sl:∀i,i<2->∃s p q,E.cell? ⟨k,i,none⟩=some (Value.slice s p q):=λi V=>by
   rw[hv6 i V];have KG:i=0\/i=1:=ω
   rcases KG with rfl|rfl<;>exact⟨_,_,_,rfl⟩
  let⟨C',h6,T⟩:=Sat.aaI (b:=k) (vs:=[.slice none 0 0,.slice none 0 0]) k7 hv6 (hsB (A::I) λx y=>by
   grind) hf6
  have c1:Has C' (sK R t.ev t.el):=T _ (Yn (bI ..) rfl) λj b i V e=>by
   have hv:=(k7.mem (bI ..)).val j b;let⟨s,p,q,z⟩:=sl i V;rw[e,z]at hv;let⟨j,f⟩:=j;have hf:f<5:=b.2;have Wm:f=0\/f=1\/f=2\/f=3\/f=4:=ω
   rcases Wm with rfl|rfl|rfl|rfl|rfl<;>cases hv
  have c2:Has C' (nv (some ⟨o,0,none⟩) t.ou oh m):=T _ (Yn (aP _ (bI ..)) rfl) λj b i V e=>by
   have d:=k3o (by have:j.1<m:=b.1;show 0<m;omega);have hb:(((⟨o,0,none⟩:Addr).add (j.1*4)).add j.2).block=k:=cT Addr.block e;rw[add_add]at hb;grind
  have c3:∀j,j<m->fu C' (oh j) (t.ou j).b.ch:=λj b=>by
   rcases k9 j b with z|⟨ca,cp,i,B,w⟩
   .exact .inl z
   .have d:Has C (gQ ca (t.ou j).b.ch):=⟨rfl,i,w⟩
    let⟨_,i',KG⟩:=T _ d.cons.cons λj b i V e=>by
     have hv:=(k7.mem (aP _ (aP _ (gO w)))).val j b;let⟨s,p,q,z⟩:=sl i V;rw[e,z]at hv;let⟨j,f⟩:=j;have hf:f<3:=b.2;have Wm:f=0\/f=1\/f=2:=ω
     rcases Wm with rfl|rfl|rfl<;>cases hv
    exact .inr ⟨ca,cp,i',B,KG⟩
  have c4:∀r∈M,Has C' r:=λr u=>T _ (k8 r (Yn u (M6 r u))).cons.cons λj b i V e=>by
   grind
  have t1:((m:Int)==(m:Int))=true:=ψ
  have S6:St (cP wI.heap.size (A::I) []) E.heap.size 70 [(24,.tuple #[.agg #[.slice (some ⟨o,0,none⟩) m m,.slice R t.el ec],i6 0,i6 0]),(8,i6 0),(7,.bool true),(1,.slice sa m cap),(4,ptr k)] (bR k [.slice none 0 0,.slice none 0 0]::C') 0 a6 E:=⟨TF.sub (by intro p hp;simp only[ak,bH,or_false]at hp;rcases hp with rfl|rfl|rfl|rfl|rfl<;>rfl),h6,rfl⟩;have YG:E.heap.size=E.heap.size:=rfl;generalize hB6:E.heap.size=B6 at S6 YG v;generalize Ty:t.el=el at S6;refine aq (λM=>bR (B6) [.slice (some ⟨o,0,none⟩) m m,.slice R el ec]::(bh 0 (0,1) (.slice R el ec) (bh 0 (0,0) (.slice (some ⟨o,0,none⟩) m m) (M)))) 1 F v h P S6 43 [0,0,0,2,0,0,0,1,0,0,0,2,1,0,0,2] 131069 [] [(6,.bool ((↑m:Int)==(↑m:Int))),(5,.bool ((↑m:Int)==(↑m:Int))),(4,ptr k)] 70 2 [] λa7 w7 S7 CI OD YQ DJ=>cC F S7 h qh CI [1,0,0,2] (.tuple #[.agg #[.slice (some ⟨o,0,none⟩) m m,.slice R el ec],.bool ((↑m:Int)==(↑m:Int)),.bool ((↑m:Int)==(↑m:Int))]) ?_;subst Ty;rw[t1];exact At.assume gN λXh=>K1 K t hLf (A::I) W9 o R ec oh C' w7 k1 (λx y=>χ) Xh k6 S7.sat.tail.tail c1 c2 c3 c4
 .have W1:=RP K;have Y:((jG n L m g).1 !=0)=true:=χ
  have t1:((jG n L m g).1==(jG n L m g).1)=true:=ψ
  have t2:((jG n L m g).2==(jG n L m g).2)=true:=ψ
  generalize u:jG n L m g=r at W1 Y t1 t2 S4;let⟨c,i⟩:=r;dsimp only at W1 Y t1 t2 S4;refine Rb F v h Vx S4 10 [] 1 [] [(23,.slice sa m cap),(22,.slice s0 n c0),(9,i6 i),(8,i6 c),(7,.bool true),(1,.slice sa m cap),(4,ptr k)] 26 1 [] λa5 w5 S5 Yv Y5 Dw qO=>ah F h Yv S5 24 15 #[.slice s0 n c0,.slice sa m cap] λd d=>Ui (i:=i) F v W1 S5.sat ω (λBL yR w' M' S VO LM KK=>?_) λE h6 e=>d _ _ _ h6 λa6 B6 S6 P YG=>?_
  .exact r8 F v (λz=>by let⟨a,B,w⟩:=q1 z;exact⟨a,B,S _ w.cons⟩) (λz=>by let⟨a,B,w⟩:=q2 z;exact⟨a,B,S _ w.cons⟩) (λj b z=>by let⟨a,B,w⟩:=q3 j b z;exact⟨a,B,S _ w.cons⟩) VO LM χ
  refine aX (λM=>bR (B6) [.slice none 0 0,.slice none 0 0]::(M)) 1 F v h P S6 17 [0,0,0,2] 6 [] [(12,i6 i),(11,i6 c),(10,ptr B6),(9,i6 i),(8,i6 c),(7,.bool true),(4,ptr k)] 44 3 [] [] [(c !=0,true)] [] [] λa7 w7 S7 CI OD YQ DJ=>?_;let⟨r1,r2⟩:=Yx K;rw[u]at r1 r2;exact HP F v h qh CI ω r1 r2 (S7.dB _ rfl) λa b=>At.assume gN λXh=>K0 I ng1 a U (λx y=>χ) Xh
end
def Rm:Qc prog 22 26 6 48=true:=ρ
def Lt(y:Nat->Int)(L:oF)(i j:Nat):Int:=if i=0 then y j else L (i-1) j
abbrev PM(y:Nat->Int):List Value:=[i6 (y 0),i6 (y 1),i6 (y 2),i6 (y 3),i6 (y 4),i6 (y 5)]
def ET(y:Nat->Int)(a:j<6):(PM y)[j]? =some (i6 (y j)):=by
 match j,a with
 |0,_=>rfl
 |1,_=>rfl
 |2,_=>rfl
 |3,_=>rfl
 |4,_=>rfl
 |5,_=>rfl
def aag(F:aB prog U (DX D) Q)(hB:HB B D){b:aC}(P:b.kind=.normal){t:eC}{M:aW}{w:aj}(s x d:Nat){q:Nat}{y:Nat->Int}{L:oF}(ho:kI t=true)(O:oD (aQ t) s x d 22=true)(hd:d<N)(Y:look E s=some (.slice (some ⟨q,0,none⟩) 1 1))(X:look E x=some (.slice s0 n c0))(hn:n<=2932031007317)(H:nF w s0 n L)(hBB:B<=B')(S:St D B' N E (bR q (PM y)::M) c a w)(p:∀a:Addr,D a false)(K:∀c R V w',w.heap.size<=w'.heap.size->c<w'.heap.size->nF w' (some ⟨c,0,none⟩) (n+1) (Lt y L)->aR ((d,.slice (some ⟨c,0,none⟩) (n+1) R)::E) N V->V.defers=a.defers->Q (G (b.at V (jB t)) W) w'):Q (G (b.at a t) W) w:=by
 let⟨_,i,r,b,ht,A,C⟩:=dH ho;let⟨g1,g2,g3⟩:=mh O;have l:∀q v,look E q=some v->a.eval (.tmp q)=v:=λq v o=>by rw[S.env.eval (by simp[kn,o])];simp[ev,o]
 have f:∀j,j<6->w.cell? ⟨q,j,none⟩=some (i6 (y j)):=λj g=>by
  have:=S.sat.val 0 _ rfl (0,j) ⟨aD,g⟩;refine this.trans (cT some ?_);match j,g with
  |0,_=>rfl
  |1,_=>rfl
  |2,_=>rfl
  |3,_=>rfl
  |4,_=>rfl
  |5,_=>rfl
 have o:q<w.heap.size:=au (f 0 ω);rw[ht];by_cases h0:n=0
 .subst h0;refine aB.app0 Rm F A (by simp[Region.wanted,g1]) (by rw[P];decide) (.tmp s) (.tmp x) g3 (l s _ Y) (l x _ X) (λz=>by cases z) (az _) ?_;rw[<-C,g2];refine K q 1 _ w (az _) o (λi hi=>⟨q,0,rfl,λj g=>?_⟩) (S.env.put hd) (put_defers _ _ _);have e:i=0:=ω
  subst e;rw[show 0+0*6+j=j by omega];exact f j g
 .obtain⟨ab,T,rfl,_⟩:=H 0 ω;have Z:∀k,k<n*6->w.cell? ((⟨ab,T,none⟩:Addr).add k)=some (i6 (L (k / 6) (k % 6))):=λk P=>by
   let⟨_,b,e,hc⟩:=H (k / 6) ω;cases e;have:=hc (k % 6) ω;rw[show T+k / 6*6+k % 6=T+k by omega]at this;rw[ey];exact this
  refine aB.Om Rm δ F A (by simp[Region.wanted,g1]) (by rw[P];decide) (.tmp s) (.tmp x) g3 (olds:=PM y) (news:=(List.range (n*6)).map λk=>i6 (L (k / 6) (k % 6))) (l s _ Y) (l x _ X) rfl (λb m j u g=>?_) (λz=>by cases z) ψ (λj u g=>?_) (λu b=>by obtain⟨k,_,rfl⟩:=gV.1 b;rfl) ω ω (λJ m=>by cases m;exact⟨o,λa _=>p a⟩) ⟨au (Z 0 ω),λa _=>p a⟩ λR rs b b b I=>?_
  .cases m;have h:j<6:=by simpa using(lg.1 g).1
   rw[ET y h]at g;cases g;rw[ey,bK];exact f j h
  .have h:j<n*6:=by simpa using(lg.1 g).1
   rw[Z j h];simp[h]at g;rw[g]
  .rw[<-C,g2];subst I;have b:HB w.heap.size D:=λa wr z=>hB a wr (by have:=S.sz;omega);have a:=S.sat.R0 b ((PM y++(List.range (n*6)).map λk=>i6 (L (k / 6) (k % 6))).toArray++rs) 26;refine K w.heap.size R _ _ ψ ψ (λi hi=>⟨w.heap.size,0,rfl,λj g=>?_⟩) (by rw[Nat.add_comm];exact S.env.put hd) (put_defers _ _ _);have h3:=a.val 0 _ rfl (i*6+j,0) ⟨by show i*6+j<Array.size _;simp;omega,aD⟩;simp only[aH.get,lm,ey,jI,bK]at h3;rw[bK];refine h3.trans (cT some ?_);rw[ve θ];show((PM y++(List.range (n*6)).map λk=>i6 (L (k / 6) (k % 6))).toArray[i*6+j]?).getD undef=_;simp only[Hz];unfold Lt;by_cases e:i=0
   .subst e;rw[sJ rfl,nO θ,Nat.zero_mul,bK,ET y g];rfl
   .rw[af e,vf θ];have a:i*6+j-(PM y).length=(i-1)*6+j:=θ
    rw[a];have c:(i-1)*6+j<n*6:=ω
    have b:((i-1)*6+j) / 6=i-1:=ω
    have a:((i-1)*6+j) % 6=j:=ω
    simp[c,b,a]
section
variable{L:oF}{g:Nat->Cl}
theorem Ds.old(H:Ds wI s0 n L sa m g){w:aj}(c:Old wI w):Ds w s0 n L sa m g:=
 have b:wI.heap.size<=w.heap.size:=c.2.2.2.1
 ⟨IJ H.hL c,λp a=>ga (H.bL p a) b,I4 H.hC c,λp a=>ga (H.bC p a) b,λi d e p a=>ga (H.bT i d e p a) b,ga H.i0 b,c.cell _ _ H.hg⟩
abbrev SY(o:Nat)(ou:Nat->Se)(os:p9)(oc:bU)(m:Nat):aH:=fR ⟨o,0,none⟩ 4 (λj=>[i6 (ou j).a,i6 (ou j).b.k,i6 (ou j).b.n,.slice (os j) (ou j).b.ch.length (oc j)]) m false
def Zt{w:aj}{o:Nat}{a:Nat->Se}{g:yX}(h:Sat D w C)(q:Has C (nv (some ⟨o,0,none⟩) a g m))(n:∀j,j<m->fu C (g j) (a j).b.ch):
 ∃os l,Sat D w (SY o a os l m::C)/\∀j,j<m->0<(a j).b.ch.length->∃b,os j=some b/\Has C (gQ b (a j).b.ch):=by
 have d:∀j,∃p:Option Addr×Nat,j<m->g j=.slice p.1 (a j).b.ch.length p.2/\(0<(a j).b.ch.length->∃b,p.1=some b/\Has C (gQ b (a j).b.ch)):=λj=>by
  by_cases c:j<m
  .rcases n j c with ⟨k,f⟩|⟨b,cap,i,k,f⟩
   .exact⟨(none,0),λ_=>⟨by rw[k,f];rfl,λz=>by rw[f]at z;cases z⟩⟩
   .exact⟨(some b,cap),λ_=>⟨k,λ_=>⟨b,rfl,rfl,i,f⟩⟩⟩
  .exact⟨(none,0),λz=>absurd z c⟩
 refine⟨λj=>(d j).choose.1,λj=>(d j).choose.2,?_,λj c=>((d j).choose_spec c).2⟩;refine(h.get q).G7 0 rfl (SY o a _ _ m) (λj c=>⟨c,rfl,?_⟩) (λz=>by cases z) rfl;have e:=((d j.1).choose_spec c.1).1;show List.getD [i6 (a j.1).a,i6 (a j.1).b.k,i6 (a j.1).b.n,.slice (d j.1).choose.1 (a j.1).b.ch.length (d j.1).choose.2] j.2 undef=(yL (a j.1,g j.1)).getD j.2 undef;rw[<-e];rfl
end
def Fi(b:Bk):Prop:=b.k=2/\b.ch=[⟨4,0,0⟩]
def JM(F:aB prog U (DX D) Q)(n:HB B D){c:Int}{w:aj}(a:-9223372036854775808<=c/\c<9223372036854775808)(m:Sat D w C)(a:B<=w.heap.size)(K:∀w' x,B<=w'.heap.size->0<=x->x<1000->Sat D w' C->Q (G (X.finish (i6 x)) W) w'):Q (G (Frame.enter prog 7 #[i6 c,i6 1000] .normal) (X::W)) w:=by
 by_cases h:c<0
 .have a:decide (c<0)=true:=by simpa using h
  have e:IntKind.wrap .i64 (0-IntKind.wrap .i64 (c+1))=-(c+1):=by rw[aA (n:=c+1) ω ω,aA ω ω];omega
  refine cJ func7 m 13 λJ q r o a d b l i=>TP F n a b l 24 [] 6 [] [(4,i6 (Int.tmod (IntKind.wrap .i64 (0-IntKind.wrap .i64 (c+1))) 1000))] 24 3 [] [] [(decide (c<0),true)] [] [] λg g f k h j p=>?_;rw[e]at f;refine cC F f a d k [] (i6 (Int.tmod (-(c+1)) 1000)) ?_;exact K g _ ω (Int.tmod_nonneg _ ω) (Int.tmod_lt_of_pos _ ω) f.sat
 .refine cJ func7 m 13 λJ q r o a d b l i=>ZI F n a d b l 19 [] 4 [] 4 (i6 (Int.tmod c 1000)) 19 2 [] [] [(decide (c<0),false)] [] [] λg f h j=>K g _ ω (Int.tmod_nonneg _ ω) (Int.tmod_lt_of_pos _ ω) f.sat
def aaj(F:aB prog U (DX D) Q)(p:HB B D)(d:J.kind=.normal){R:aW}{s:ay}{g q N:Nat}{I on A:Int}{os:eP}(v:0<b.ch.length->∃C,os=some C/\Has R (gQ C b.ch)){E:Act}{u:aj}{t:Nat}(j:E.defers=[])(M:B<=t)(B:u.heap.size=t)(f:St D t 97 [(71,.bool (b.k==2)),(13,ptr g),(12,i6 c),(9,ptr q),(7,i6 A),(1,s)] (bR g [i6 I,i6 b.k,i6 on,.slice os b.ch.length N]::R) 0 E u)(K:∀(z:Bool) B H w',(z=true↔Fi b)->w'.heap.size=t->H.defers=[]->aR [(14,.bool z),(13,ptr g),(12,i6 c),(9,ptr q),(7,i6 A),(1,s)] 97 H->Sat D w' (bR g [i6 I,i6 b.k,i6 on,B]::R)->Q (G (J.at H (pc prog 3 104 [false,true,false] [18])) W) w'):Q (G (J.at E (pc prog 3 89 [false,true,false] [18])) W) u:=by
 by_cases w:b.k=2
 .have t:(b.k==2)=true:=by simpa using w
  by_cases y:b.ch.length=1
  .let⟨C,t,l⟩:=v ω;let⟨x,ex⟩:=List.length_eq_one_iff.1 y;rw[ex]at l f;rw[t]at f;replace f:=St.mk f.env (f.sat.get l.cons) f.sz;refine TP F p d j f 11 [1,0,3,1,1,0,3,1,0,0,0,3] 2080766 [] [(82,.agg #[i6 4,i6 0,i6 0]),(77,.bool true),(81,.agg #[i6 (List.getD [x] 0 (iN.mk 0 0 0)).k,i6 (List.getD [x] 0 (iN.mk 0 0 0)).l,i6 (List.getD [x] 0 (iN.mk 0 0 0)).n]),(13,ptr g),(12,i6 c),(9,ptr q),(7,i6 A),(1,s)] 100 10 [18] [] [(b.k==2,true)] [(0,1)] [] λr o e a h k n=>eqS F d 81 82 83 x ρ ρ ρ δ rfl rfl e λt m i=>?_;rw[show jB (pc prog 3 100 (Bo 10) [18])=pc prog 3 101 [false,true,false] [18] by kernel_rfl];replace i:=i.trans a;have L:(x.k==4&&(x.l==0&&(x.n==0&&true)))=true↔Fi b:=by
    unfold Fi;rw[ex];let⟨_,_,t⟩:=x;simp[w]
   generalize (x.k==4&&(x.l==0&&(x.n==0&&true)))=z at m L;have u:=St.mk m e.sat e.sz;have t:=h;refine Rb F p d i u 3 [] 1 [] [(14,.bool z),(82,.agg #[i6 4,i6 0,i6 0]),(81,.agg #[i6 (List.getD [x] 0 (iN.mk 0 0 0)).k,i6 (List.getD [x] 0 (iN.mk 0 0 0)).l,i6 (List.getD [x] 0 (iN.mk 0 0 0)).n]),(13,ptr g),(12,i6 c),(9,ptr q),(7,i6 A),(1,s)] 104 10 [18] λB v u t x x x=>K z _ B v L ω t (u.dB _ rfl).env u.sat.tail
  .refine TP F p d j f 15 [0,0,3,1] 1398014 [] [(14,.bool false),(82,.tuple #[]),(81,.tuple #[]),(13,ptr g),(12,i6 c),(9,ptr q),(7,i6 A),(1,s)] 104 10 [18] [] [((↑(List.length b.ch):Int)==1,false),(b.k==2,true)] [] [] λr o e a h k n=>K false _ r o ⟨λz=>(by cases z),λz=>by rw[z.2]at y;exact absurd rfl y⟩ ω a (e.dB _ rfl).env e.sat
 .refine TP F p d j f 15 [] 1398100 [] [(14,.bool false),(82,.tuple #[]),(81,.tuple #[]),(13,ptr g),(12,i6 c),(9,ptr q),(7,i6 A),(1,s)] 104 10 [18] [] [(b.k==2,false)] [] [] λr o e a h k n=>K false _ r o ⟨λz=>(by cases z),λz=>absurd z.1 w⟩ ω a (e.dB _ rfl).env e.sat
def Tg(F:aB prog U (DX D) Q)(s:HB B D){J:aC}(d:J.kind=.normal){W:cO}{C:aW}{v:ay}{q o m cap:Nat}{A:Int}{sa:eP}{g:Nat->Cl}{b:Nat->Se}{os:p9}{oc:bU}(hm:m<=9)(n:0<m->∃a,sa=some a)(hA:1<=A/\A<=1000)(l:∀c,c<m->0<=(g c).st/\(g c).st<=1000)(hT:∀c,c<m->((g c).st<=(b c).a/\(b c).a<(g c).st+A/\NL (b c).b)\/((b c).a=(g c).st+A/\(b c).b=c9 4 0 0))(p:∀j,j<m->0<(b j).b.ch.length->∃x,os j=some x/\Has C (gQ x (b j).b.ch)):
 ∀(r c:Nat)(t:Act)(w:aj)(e:Nat),c+r=m->t.defers=[]->B<=e->w.heap.size=e->
   St D e 97 [(12,i6 c),(9,ptr q),(7,i6 A),(1,.slice sa m cap)] (bR q [.slice (some ⟨o,0,none⟩) m m,v]::Yt sa m g::SY o b os oc m::C) 0 t w->
   (∀S w',S.defers=[]->aR [(6,.bool true)] 97 S->Q (G (J.at S (pc prog 3 67 [false,false] [])) W) w')->Q (G (J.at t (pc prog 3 53 [false] [])) W) w
 |0,c,t,w,e,hi,h,N,H,V,K=>by
  have a:decide ((c:Int)<(m:Int))=false:=θ
  refine TP F s d h V 14 [] 4 [] [(6,.bool true)] 67 4 [] [] [(decide ((↑c:Int)<(↑m:Int)),false)] [] [] λa1 Z y f E I R=>K a1 Z f y.env
 |r+1,c,t,w,e,hi,h,N,H,V,K=>by
  obtain⟨u,rfl⟩:=n ω;have a:=l c ω;have o:=hT c ω;have L:IntKind.wrap .i64 ((c:Int)+1)=((c+1:Nat):Int):=by rw[aA ω ω];rfl
  have a:IntKind.wrap .i64 ((g c).st+A)=(g c).st+A:=aA ω ω;have j:decide ((b c).a>IntKind.wrap .i64 ((g c).st+A))=false:=by rw[a];simp;omega
  refine aX (λM=>bR (e) [i6 (b c).a,i6 (b c).b.k,i6 (b c).b.n,.slice (os c) (List.length (b c).b.ch) (oc c)]::(M)) 1 F s d h V 36 [0,0,0,1,2,c,0,104,0,0,0,4,0,0,0,1,2,c,0,101,0,0,0,1,2,c,0,101,0,0,1,1] 1073872938 [18] [(71,.bool ((b c).b.k==2)),(13,ptr e),(12,i6 c),(9,ptr q),(7,i6 A),(1,.slice (some u) m cap)] 89 10 [18] [1,10] [(decide ((b c).a>IntKind.wrap .i64 ((g c).st+A)),false),(decide ((b c).a<(g c).st),false),(decide ((↑c:Int)<(↑m:Int)),true)] [((↑c:Int),m),((↑c:Int),m),((↑c:Int),m)] [(6,(c,m))] λa1 Z y f E I R=>aaj (b:=(b c).b) F s d (λz=>by let⟨x,j,h⟩:=p c ω z;exact⟨x,j,h.cons.cons.cons⟩) f ω rfl ⟨(y.dB _ rfl).env,y.sat,rfl⟩ λz f a2 i hz f O P h2=>?_;have f:(z !=((b c).a==IntKind.wrap .i64 ((g c).st+A)))=false:=by
   rw[a];rcases o with ⟨Y,X,y3⟩|⟨Y,X⟩
   .have:z=false:=by
     cases z with
     |false=>rfl
     |true=>
      have:=(hz.1 rfl).2;exact absurd rfl (y3 ⟨4,0,0⟩ (by rw[this];exact wP.2 rfl) rfl)
    rw[this];simp;omega
   .have:z=true:=hz.2 (by rw[X];exact⟨rfl,rfl⟩);rw[this];simp;exact Y
  have S2:St D i.heap.size 97 [(14,.bool z),(13,ptr e),(12,i6 c),(9,ptr q),(7,i6 A),(1,.slice (some u) m cap)] _ 0 a2 i:=⟨P,h2,rfl⟩;have k:i.heap.size=i.heap.size:=rfl;generalize hB3:i.heap.size=a at S2 k;refine TP F s d O S2 13 [0,0,0,1,2,c,0,101] 18 [11] [(12,i6 (IntKind.wrap .i64 ((↑c:Int)+1))),(9,ptr q),(7,i6 A),(1,.slice (some u) m cap)] 117 18 [18,11] [] [(!z==((b c).a==IntKind.wrap .i64 ((g c).st+A)),false)] [((↑c:Int),m)] [(1,(c,m))] λf b T a e e e=>?_;rw[L]at T;rw[show pc prog 3 117 (Bo 18) [18,11]=pc prog 3 53 [false] [] by kernel_rfl];exact Tg F s d hm n hA l hT p r (c+1) f b b.heap.size ω a ω rfl ⟨(T.dB _ rfl).env,T.sat.tail,rfl⟩ K
def zo{b:aC}{fn:Func}{c:eC}{w:aj}{v:ay}(e:b.kind=.normal)(f:P.inits.idxOf? b.fn=none)(i:a.defers=[])(g:P.funcs[b.fn]? =some fn)(d:(results fn a.tmps).run P w=.ok v w)(h:(results fn a.tmps).events P w #[]=#[]):
 stepG P true (G {b.at a c with mode:=.returning} []) w=.ended (.done v) w #[]:=by
 simp[G,stepG,unwind,doReturn,Frame.at,e,i,g,d,h,f,seen,GStep.after]
def It:prog.inits.idxOf? 3=none:=ρ
theorem Sc(F:aB prog true (DX (cP wI.heap.size l [])) (nM prog Post (Old wI) (jq l) ng))(f:J.kind=.normal)(c:J.fn=3){w:aj}{k:eC}(h:a.defers=[])(j:aR [(6,.bool true)] N a)(i:∀w',Old wI w'->Post (.bool true) w'):nM prog Post (Old wI) (jq l) ng (G (J.at a (.code .ret::k)) []) w:=by
 have b:∀t:List Item,nM prog Post (Old wI) (jq l) ng (G {J.at a t with mode:=.returning} []) w:=λt=>by
  have g:a.tmps.getD 6 undef=.bool true:=by rw[oK,j.val 6 (.bool true) rfl];rfl
  have e:=resultsC_tmp (P:=prog) (fn:=f3) (t:=6) φ a.tmps;rw[g]at e;refine At.Rv (v:=.bool true) (es:=#[]) rfl (λd=>?_) ψ (λd a=>i _ a) gN;exact zo f (by rw[c];exact It) h (by rw[c];exact func3) (e _).1 (e _).2
 exact F.ctl (λ_=>stepG_ret') (b _)
def tmY(a:Int)(j:Nat):Int:=match j with|0=>6|1=>a|_=>0
section
variable{L:oF}{g:Nat->Cl}
theorem Cf(H:Ds wI s0 n L sa m g)(hn:0<n)(h6:L 0 0=6){A:Int}(TG:L 0 1=A)(VV:1<=A/\A<=1000)(f:J.kind=.normal)(P:J.fn=3){Q:Act}(tN:Q.defers=[])(hA:aR [(22,.slice s0 n c0),(7,i6 A),(1,.slice sa m cap)] 97 Q)(hP:∀w',Old wI w'->Post (.bool true) w'):nM prog Post (Old wI) (jq []) 1 (G (J.at Q (pc prog 3 18 [] [])) []) wI:=by
 have F:=nA (P:=prog) (Post:=Post) (wI:=wI) (l:=[]) 1;have j:∀(a:Addr)(wr:Bool),wI.heap.size<=a.block->cP wI.heap.size [] [] a wr:=λa wr z=>iX (λx I=>by cases I) (az _) z wr;have hS:Sat (cP wI.heap.size [] []) wI []:=lD λr W=>by cases W
 have L:St (cP wI.heap.size [] []) wI.heap.size 97 _ [] 0 Q wI:=⟨hA,hS,rfl⟩;have G:wI.heap.size=wI.heap.size:=rfl;refine Rb F j f tN L 6 [] 1 [] [(25,.slice sa m cap),(24,.slice s0 n c0),(7,i6 A),(1,.slice sa m cap)] 24 1 [] λG i L N G G G=>Af F f 26 8 #[.slice s0 n c0,.slice sa m cap] ρ ρ δ L λn O=>At.assume gN λy=>At.keep (K':=Old i) (λd=>Iw i) ?_;have d:=H.old y;refine ES (wI:=i) d (λh=>Rr (zl h) (VE (zl h) ⟨hn,h6⟩) (aan (zl h))) (λk l b d u w=>?_) λhck Lf B k l o ea ec h C b d u w _ hC d X mQ Z=>?_
 .refine O _ _ _ λa2 D e=>?_;clear F j;have F:=nA (P:=prog) (Post:=Post) (wI:=i) (l:=k) l;have t:i.heap.size<=b.heap.size:=w.2.2.2.1;have j:∀(a:Addr)(wr:Bool),b.heap.size<=a.block->cP i.heap.size k [] a wr:=λa wr z=>iX (N:=b.heap.size) (λx I=>(u x I).2) t z wr;have T0:Sat (cP i.heap.size k []) b []:=lD λr W=>by cases W
  have E:St (cP i.heap.size k []) b.heap.size 97 [(26,.tuple #[.agg #[.slice none 0 0,.slice none 0 0],.bool false,.bool true])] [] 0 a2 b:=⟨D.sub (by intro p K;simp only[ak,bH,or_false]at K;subst K;rfl),T0,rfl⟩;have q:b.heap.size=b.heap.size:=rfl;replace e:=e.trans N;generalize hB2:b.heap.size=S at E q j;refine aq (λM=>bR (S) [.slice none 0 0,.slice none 0 0]::(M)) 1 F j f e E 25 [0,0,0,2] 127 [] [(6,.bool true)] 50 3 [] λa3 T R v U V mH=>Sc F f P v R.env λw' s=>hP w' (Fg y s)
 .refine O _ _ _ λa2 D e=>?_;clear F j;have F:=nA (P:=prog) (Post:=Post) (wI:=i) (l:=k) l;have t:i.heap.size<=b.heap.size:=w.2.2.2.1;have j:∀(a:Addr)(wr:Bool),b.heap.size<=a.block->cP i.heap.size k [] a wr:=λa wr z=>iX (N:=b.heap.size) (λx I=>(u x I).2) t z wr;let⟨os,d,h2,Y⟩:=Zt hC X mQ;have TW:Has C (Yt sa m g):=Z _ (aP _ (aP _ (bI ..)));have E:St (cP i.heap.size k []) b.heap.size 97 [(26,.tuple #[.agg #[.slice (some ⟨o,0,none⟩) m m,.slice ea Lf.el ec],.bool true,.bool true]),(7,i6 A),(1,.slice sa m cap)] (Yt sa m g::SY o Lf.ou os d m::C) 0 a2 b:=⟨D.sub (by intro p K;simp only[ak,bH,or_false]at K;rcases K with rfl|rfl|rfl<;>rfl),h2.get TW.cons,rfl⟩;have q:b.heap.size=b.heap.size:=rfl;replace e:=e.trans N;generalize hB2:b.heap.size=S at E q j;generalize Ty:Lf.el=el at E;refine aq (λM=>bR (S) [.slice (some ⟨o,0,none⟩) m m,.slice ea el ec]::(M)) 1 F j f e E 28 [0,0,0,2] 85 [] [(12,i6 0),(9,ptr S),(7,i6 A),(1,.slice sa m cap)] 53 2 [] λa3 T R v U V mH=>?_;have b:=zl hck;refine Tg F j f (g:=g) (m:=m) b.nc (λz=>by let⟨a,d,_⟩:=H.q2 z;exact⟨a,d⟩) VV (λc a=>b.st c a) (λc a=>?_) Y m 0 a3 T T.heap.size ω v ω rfl ⟨(R.dB _ rfl).env,R.sat,rfl⟩ λb w' d b=>Sc F f P d b λw' s=>hP w' (Fg y s);have:=B.1.1.en c a (B.2.2.1 c (ga a B.2.1));rw[<-TG];exact this
theorem Bu(H:Ds wI s0 n L sa m g)(l:n<=2932031007317){t:Int}(v:-9223372036854775808<=t/\t<9223372036854775808)(A:∀w',Old wI w'->Post (.bool true) w'):nM prog Post (Old wI) (jq []) 1 (G (Frame.enter prog 3 #[.slice s0 n c0,.slice sa m cap,i6 t] .normal) []) wI:=by
 have F:=nA (P:=prog) (Post:=Post) (wI:=wI) (l:=[]) 1;have i:∀(a:Addr)(wr:Bool),wI.heap.size<=a.block->cP wI.heap.size [] [] a wr:=λa wr z=>iX (λx c=>by cases c) (az _) z wr;have y:Sat (cP wI.heap.size [] []) wI []:=lD λr w=>by cases w
 have c:wI.heap.size<=wI.heap.size:=az _;refine cJ func3 y 97 λJ c c c b s c r g=>Rb F i b c r 7 [] 1 [] [(15,i6 t),(0,.slice s0 n c0),(1,.slice sa m cap)] 7 1 [] λc c g c r r r=>ah F b c g 16 7 #[i6 t,i6 1000] λc c=>JM F i v g.sat ω λg x g g g g=>c _ _ _ g λc r t g c=>?_;have c:IntKind.wrap .i64 (1+x)=1+x:=aA ω ω;refine aq (λM=>bR (r) [i6 6,i6 (IntKind.wrap .i64 (1+x)),i6 0,i6 0,i6 0,i6 0]::(M)) 1 F i b g t 9 [] 1 [] [(21,.slice s0 n c0),(20,.slice (some ⟨r,0,none⟩) 1 1),(7,i6 (IntKind.wrap .i64 (1+x))),(1,.slice sa m cap)] 17 1 [] λg g j q g g g=>?_;rw[c]at j;refine At.assume gN λc=>aag F i b 20 21 22 (y:=tmY (1+x)) ρ ρ δ rfl rfl l (IJ H.hL c) ω ⟨j.env,j.sat,j.sz⟩ (λa=>jN ψ) λg i a c a k a u o=>At.assume gN λe=>At.keep (K':=Old c) (λd=>Iw c) ?_;have f:=H.old e;refine Cf (c0:=i) (cap:=cap) (L:=Lt (tmY (1+x)) L) (s0:=some ⟨g,0,none⟩) ⟨a,λp h=>by cases h;exact k,f.hC,f.bC,f.bT,f.i0,f.hg⟩ (Nat.succ_pos _) rfl (A:=1+x) rfl ω b s (o.trans q) (u.sub ?_) λw' a=>A w' (Fg e a);intro p h;simp only[ak,bH,or_false]at h;rcases h with rfl|rfl|rfl<;>rfl
end
end Go.Proofs.YtobagnjnbmgidabGreatDoor
