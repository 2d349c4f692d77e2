import Derived.Test.YtobagnjnbmgidaaGreatDoorE14
set_option linter.all false
namespace Go.Proofs.YtobagnjnbmgidaaGreatDoor
open Go.Conc Go.RowKit
variable{X:Int}{i j k m t:Nat}{a:Nat->Int}{E:Nat->Option Nat}{D:bU}
structure iN where
 k:Int
 l:Int
 n:Int
structure Bk where
 k:Int
 n:Int
 ch:List iN
structure qy where
 a:Int
 t:Int
 w:Int
 c:Int
 o:Bool
structure Ot where
 c:Int
 f:Int
 p:Int
 o:Int
 x:Bool
 e:Bool
 w:Int
 a:Nat->Int
 q:Nat->Int
structure tU where
 t:Int
 l:Int
 x:Bool
 e:Bool
 b:Bk
structure Se where
 a:Int
 b:Bk
structure OZ where
 a:Int
 c:Int
 l:Int
 w:Int
 n:Int
structure ju where
 k:Int
 a:Int
 b:Int
 c:Int
 d:Int
 e:Int
structure Lm where
 k:Int
 n:Int
 t:Int
structure Ev0 where
 nl:Nat
 ly:Nat->ju
 nc:Nat
 st:Nat->Int
 nt:Nat->Nat
 tr:Nat->Nat->Lm
structure Gt where
 sm:Bool
 nx:Int
 st:Int
 pd:Int
 si:Int
 la:List Bool
 pr:Int
 tn:Int
structure LS where
 now:Int
 al:Nat
 ag:Nat->qy
 tl:Nat
 tk:Nat->Ot
 wl:Nat
 wt:Nat->tU
 us:Nat->Int
 ou:Nat->Se
 el:Nat
 ev:Nat->OZ
 gt:Nat->Gt
def LS.say(L:LS)(t:Nat)(l q n:Int):LS:={L with el:=L.el+1,ev:=upd L.ev L.el ⟨L.now,(L.tk t).c,l,q,n⟩}
def LS.put(L:LS)(e:qy):LS:={L with al:=L.al+1,ag:=upd L.ag L.al e}
def LS.cB(L:LS)(t:Nat)(l:Int):LS:={L with wl:=L.wl+1,wt:=upd L.wt L.wl ⟨t,l,false,false,⟨0,0,[]⟩⟩,tk:=upd L.tk t {L.tk t with w:=L.wl}}
def LS.wait(L:LS)(t:Nat)(l d:Int):LS:=(L.cB t l).put ⟨L.now+d,t,L.wl,1,false⟩
def LS.end_(L:LS)(t:Nat)(b:Bk):LS:={L with tk:=upd L.tk t {L.tk t with e:=true},ou:=upd L.ou (L.tk t).c.toNat ⟨L.now,b⟩}
def c9(k l n:Int):Bk:=⟨2,0,[⟨k,l,n⟩]⟩
def cE(b:Bk)(k:Int):Bool:=b.ch.any λx=>x.k==k
def cN(x:Lm):Bk:=if x.k=2 then c9 1 (-1) x.n else if x.k=3 then c9 2 (-1) x.n else if x.k=4 then⟨3,x.n,[]⟩else⟨1,x.n,[]⟩
def aU(V:Ev0)(c:Nat)(n:Nat):Lm:=if n<V.nt c then V.tr c n else⟨1,0,0⟩
def dN(c d:Int):Nat->Int->Int
 |0,p=>p
 |m+1,p=>if p<=d then dN c d m (p*c)else p
def aI(y:ju)(n:Int):Int:=let p:=dN y.c y.d (n-1).toNat y.b;if p>y.d then y.d else p
def LS.aO(L:LS)(k:Nat)(g:Gt):LS:={L with gt:=upd L.gt k g}
def Gt.turn(g:Gt)(now st:Int):Gt:={g with st:=st,pd:=g.pd+1,si:=now,la:=[],pr:=0}
def dY(l:iy):Nat:=(l.filter id).length
def bq(b:Bk):Int:=match b.ch.getLast? with
 |some x=>x.k
 |none=>0
def LS.nV(t k:Nat)(L:LS):LS×Option (Nat×Option Bk):=(L.say t k 7 0,some (k,some (c9 3 k 0)))
def LS.jg(y:ju)(t k:Nat)(L:LS):LS×Option (Nat×Option Bk):=
 if(L.gt k).sm=true/\(L.gt k).nx-L.now>(y.b-1)*y.a then L.nV t k
 else((L.aO k {L.gt k with sm:=true,nx:=(if(L.gt k).sm=false\/(L.gt k).nx<L.now then L.now else(L.gt k).nx)+y.a}).say t k 6 0,some (k+1,none))
def LS.aM(t k:Nat)(L:LS):LS:=if(L.gt k).st=1 then(L.aO k ((L.gt k).turn L.now 2)).say t k 10 0 else L
def LS.cz(k:Nat)(L:LS):LS:=if(L.gt k).st=2 then L.aO k {L.gt k with pr:=(L.gt k).pr+1} else L
def LS.mark(t k:Nat)(L:LS):LS:={L with tk:=upd L.tk t {L.tk t with q:=upd (L.tk t).q k (L.gt k).pd}}
def LS.pass(y:ju)(t k:Nat)(L:LS):LS×Option (Nat×Option Bk):=
 if(L.gt k).st=1/\L.now-(L.gt k).si<y.d then L.nV t k
 else if((L.aM t k).gt k).st=2/\((L.aM t k).gt k).pr=y.e then(L.aM t k).nV t k
 else((((L.aM t k).cz k).mark t k).say t k 8 0,some (k+1,none))
def Gt.keep(y:ju)(g:Gt)(x:Bool):List Bool:=if g.st=0/\((g.la.length:Int)+1>y.a)then(g.la++[x]).tail else g.la++[x]
def over(y:ju)(l:iy):Bool:=decide (y.c*(l.length:Int)<=(dY l:Int)*100)
def LS.count(y:ju)(t j:Nat)(b:Bk)(L:LS):LS:=
 if(L.tk t).q j≠(L.gt j).pd then L
 else if bq b=3\/bq b=5 then L.aO j {L.gt j with pr:=if(L.gt j).st=2 then(L.gt j).pr-1 else(L.gt j).pr}
 else
  let g:Gt:={L.gt j with la:=(L.gt j).keep y (decide (b.k≠1))}
  if(g.st=0/\y.b<=g.la.length\/g.st=2/\(g.la.length:Int)=y.e)/\over y g.la=true then(L.aO j (g.turn L.now 1)).say t j 9 0
  else if g.st=2/\(g.la.length:Int)=y.e then(L.aO j (g.turn L.now 0)).say t j 11 0
  else L.aO j g
def LS.take(y:ju)(t k:Nat)(L:LS):LS×Option (Nat×Option Bk):=
 if(L.gt k).tn<y.a then((L.aO k {L.gt k with tn:=(L.gt k).tn+1}).say t k 13 0,some (k+1,none))
 else if y.b=0 then L.nV t k
 else((L.say t k 12 0).wait t k y.b,none)
def tJ(wt:Nat->tU)(k:Int):Nat->Option Nat
 |0=>none
 |i+1=>match tJ wt k i with
  |some w=>some w
  |none=>if(wt i).l=k/\(wt i).x=false/\(wt i).e=false then some i else none
def LS.dg(L:LS)(w:Nat):LS:=LS.put {L with wt:=upd L.wt w {L.wt w with x:=true,b:=⟨0,0,[]⟩}} ⟨L.now,(L.wt w).t,w,2,false⟩
def LS.fC(t k:Nat)(L:LS):LS:=match tJ L.wt k L.wl with
 |some w=>(L.say t k 14 0).dg w
 |none=>(L.say t k 14 0).aO k {L.gt k with tn:=(L.gt k).tn-1}
def LS.step(V:Ev0)(t k:Nat)(ob:Option Bk)(L:LS):LS×Option (Nat×Option Bk):=match ob with
 |none=>
  if k=V.nl then
   let c:=(L.tk t).c.toNat
   let n:=L.us c
   let L1:LS:={L with us:=upd L.us c (n+1)}
   let L2:=L1.say t (-1) 1 n
   let x:=aU V c n.toNat
   if x.t=0 then(L2.say t (-1) 2 n,some (V.nl,some (cN x)))
   else
    let L3:=L2.wait t V.nl x.t
    ({L3 with wt:=upd L3.wt L2.wl {L3.wt L2.wl with b:=⟨(cN x).k,(cN x).n,⟨0,0,n⟩::(cN x).ch⟩}},none)
  else if(V.ly k).k=1 then({L with tk:=upd L.tk t {L.tk t with a:=upd (L.tk t).a k 1}},some (k+1,none))
  else if(V.ly k).k=3 then L.jg (V.ly k) t k
  else if(V.ly k).k=4 then L.pass (V.ly k) t k
  else if(V.ly k).k=5 then L.take (V.ly k) t k
  else(L,some (k+1,none))
 |some b=>
  if k=0 then(L.end_ t b,none)
  else
   let j:=k-1
   let y:=V.ly j
   if y.k=1 then
    if b.k≠2\/cE b 2=true\/cE b 5=true then(L,some (j,some b))
    else
     let n:=(L.tk t).a j
     if n=y.a then(L.say t j 4 0,some (j,some ⟨2,0,⟨7,j,0⟩::b.ch⟩))
     else
      let p:=aI y n
      let L1:=L.say t j 3 p
      let L2:LS:={L1 with tk:=upd L1.tk t {L1.tk t with a:=upd (L1.tk t).a j (n+1)}}
      if p>0 then(L2.wait t j p,none)else(L2,some (j+1,none))
   else if y.k=4 then(L.count y t j b,some (j,some b))
   else if y.k=5 then(L.fC t j,some (j,some b))
   else if y.k=2/\b.k=3 then(L.say t j 5 b.n,some (j,some (c9 6 j b.n)))
   else(L,some (j,some b))
def cj(ag:Nat->qy):Nat->Int
 |0=>-1
 |i+1=>if(ag i).o=false/\(cj ag i<0\/(ag i).a<(ag (cj ag i).toNat).a)then(i:Int)else cj ag i
theorem rS(a:Nat->qy):∀i,cj a i=-1\/∃k:Nat,k<i/\cj a i=k
 |0=>.inl rfl
 |i+1=>by
  unfold cj;split
  .exact .inr ⟨i,by omega,rfl⟩
  .rcases rS a i with h|⟨k,a,a⟩
   .exact .inl h
   .exact .inr ⟨k,by omega,a⟩
def Ih(ly:Nat->ju):Nat->Nat
 |0=>0
 |n+1=>Ih ly n+if(ly n).k=1 then 1 else 0
structure qR(y:ju)(g:Gt)(X:Int)(m:Nat):Prop where
 nx:0<=g.nx/\g.nx<=X+20000
 sm:g.sm=false->g.nx=0
 st:(g.st=0/\(g.la.length:Int)<=y.a)\/(g.st=1/\g.la=[])\/(g.st=2/\(g.la.length:Int)<y.e)
 pd:0<=g.pd/\g.pd+m<1000000
 si:0<=g.si/\g.si<=X
 pr:-1000000<g.pr-m/\g.pr+m<1000000
 tn:-1000000<g.tn-m/\g.tn+m<1000000
structure wM(V:Ev0):Prop where
 nl:V.nl<=6
 nc:V.nc<=9
 kd:∀k,k<V.nl->(V.ly k).k=1\/(V.ly k).k=2\/(V.ly k).k=3\/(V.ly k).k=4\/(V.ly k).k=5
 r2:Ih V.ly V.nl<=2
 ra:∀k,k<V.nl->(V.ly k).k=3->(1<=(V.ly k).a/\(V.ly k).a<=1000)/\(1<=(V.ly k).b/\(V.ly k).b<=20)
 br:∀k,k<V.nl->(V.ly k).k=4->(1<=(V.ly k).a/\(V.ly k).a<=20)/\(1<=(V.ly k).b/\(V.ly k).b<=(V.ly k).a)/\(1<=(V.ly k).c/\(V.ly k).c<=100)/\(0<=(V.ly k).d/\(V.ly k).d<=1000)/\(1<=(V.ly k).e/\(V.ly k).e<=9)
 ro:∀k,k<V.nl->(V.ly k).k=5->(1<=(V.ly k).a/\(V.ly k).a<=9)/\(0<=(V.ly k).b/\(V.ly k).b<=1000)
 rt:∀k,k<V.nl->(V.ly k).k=1->(1<=(V.ly k).a/\(V.ly k).a<=9)/\(0<=(V.ly k).b/\(V.ly k).b<=1000)/\(1<=(V.ly k).c/\(V.ly k).c<=9)/\(0<=(V.ly k).d/\(V.ly k).d<=10000)
 st:∀c,c<V.nc->0<=V.st c/\V.st c<=1000
 nt:∀c,c<V.nc->V.nt c<=12
 tr:∀c,c<V.nc->∀j,j<V.nt c->(1<=(V.tr c j).k/\(V.tr c j).k<=4)/\(0<=(V.tr c j).t/\(V.tr c j).t<=1000)
structure qm(V:Ev0)(t:Nat)(L:LS):Prop where
 tl:L.tl=V.nc
 tn:t<V.nc
 el:L.el<1000000
 wl:L.wl<1000000
 al:L.al<1000000
 now:0<=L.now/\L.now<1000000000000
 tc:(L.tk t).c=t
 tf:(L.tk t).f=-1
 to:(L.tk t).o=-1
 tx:(L.tk t).x=false
 us:0<=L.us t/\L.us t<1000000
 gt:∀k,k<V.nl->3<=(V.ly k).k->qR (V.ly k) (L.gt k) 1000000000000 0
 q:∀k,k<V.nl->(V.ly k).k=4->(L.gt k).st=1->(L.tk t).q k≠(L.gt k).pd
def G5(b:Bk):Prop:=b.ch.length<1000000/\(∀x∈b.ch.dropLast,x.k=7)/\((b.k=1/\b.ch=[])\/(b.k=2/\b.n=0/\b.ch≠[])\/(b.k=3/\b.ch=[]))
def Oy(V:Ev0)(L:LS)(t k:Nat):Prop:=(V.ly k).k=1->1<=(L.tk t).a k/\(L.tk t).a k<=(V.ly k).a
def LS.pop(L:LS)(i:Nat):LS:={L with ag:=upd L.ag i {L.ag i with o:=true},now:=(L.ag i).a}
def LS.bV(L:LS)(t w:Nat):LS:={L with wt:=upd L.wt w {L.wt w with e:=true},tk:=upd L.tk t {L.tk t with w:=-1}}
def Fin(V:Ev0)(Lf:LS):Nat->Option (Nat×Nat×Option Bk)->LS->Prop
 |0,_,_=>False
 |m+1,some (t,k,ob),L=>qm V t L/\k<=V.nl/\(∀b,ob=some b->G5 b/\(0<k->Oy V L t (k-1)))/\match L.step V t k ob with
  |(L',none)=>Fin V Lf m none L'
  |(L',some (k',PE))=>Fin V Lf m (some (t,k',PE)) L'
 |m+1,none,L=>L.al<1000000/\if cj L.ag L.al<0 then L=Lf else
  let i:=(cj L.ag L.al).toNat
  let e:=L.ag i
  ∃t:Nat,e.t=t/\((e.c=0/\qm V t (L.pop i)/\Fin V Lf m (some (t,0,none)) (L.pop i))\/
   ∃w:Nat,e.w=w/\w<L.wl/\((e.c=1/\((L.wt w).x=true\/(L.wt w).e=true)/\Fin V Lf m none (L.pop i))\/
    ((L.wt w).t=t/\(L.wt w).e=false/\((e.c=1/\(L.wt w).x=false)\/(e.c=2/\(L.wt w).x=true))/\qm V t (L.pop i)/\
    ((e.c=1/\(L.wt w).l=V.nl/\∃y ch,(L.wt w).b.ch=y::ch/\Fin V Lf m (some (t,V.nl,some ⟨(L.wt w).b.k,(L.wt w).b.n,ch⟩)) (((L.pop i).bV t w).say t (-1) 2 y.n))\/
     (∃k:Nat,k<V.nl/\(L.wt w).l=k/\((e.c=1/\(V.ly k).k=1/\Fin V Lf m (some (t,k+1,none)) ((L.pop i).bV t w))\/
       ((V.ly k).k=5/\e.c=1/\Fin V Lf m (some (t,k,some (c9 3 k 0))) (((L.pop i).bV t w).say t k 7 0))\/
       ((V.ly k).k=5/\e.c=2/\Fin V Lf m (some (t,k+1,none)) (((L.pop i).bV t w).say t k 13 0))))))))
def BA(e:qy):List Value:=[i6 e.a,i6 e.t,i6 e.w,i6 e.c,.bool e.o]
def Ep(t:Ot):List Value:=[i6 t.c,i6 t.f,i6 t.p,i6 t.o,.bool t.x,.bool t.e,i6 t.w,i6 (t.a 0),i6 (t.a 1),i6 (t.a 2),i6 (t.a 3),i6 (t.a 4),i6 (t.a 5),i6 (t.q 0),i6 (t.q 1),i6 (t.q 2),i6 (t.q 3),i6 (t.q 4),i6 (t.q 5)]
def oL(p:tU×Value):List Value:=[i6 p.1.t,i6 p.1.l,.bool p.1.x,.bool p.1.e,i6 p.1.b.k,i6 p.1.b.n,p.2]
def yL(p:Se×Value):List Value:=[i6 p.1.a,i6 p.1.b.k,i6 p.1.b.n,p.2]
def yt(t:OZ):List Value:=[i6 t.a,i6 t.c,i6 t.l,i6 t.w,i6 t.n]
def pR(t:ju):List Value:=[i6 t.k,i6 t.a,i6 t.b,i6 t.c,i6 t.d,i6 t.e]
theorem A4(e:OZ):∀u∈yt e,u.oneCell'=true:=by intro u a;simp[yt]at a;rcases a with rfl|rfl|rfl|rfl|rfl<;>rfl
def Yt(g:Gt)(p:eP)(c:Nat):List Value:=[.bool g.sm,i6 g.nx,i6 g.st,i6 g.pd,i6 g.si,.slice p g.la.length c,i6 g.pr,i6 g.tn]
def qg(x:iN):List Value:=[i6 x.k,i6 x.l,i6 x.n]
abbrev gQ(ca:Addr)(L:List iN):aH:=fR ca 3 (λj=>qg (L.getD j ⟨0,0,0⟩)) L.length false
def fu(C:aW)(h:ay)(L:List iN):Prop:=(h=.slice none 0 0/\L=[])\/∃ca cap i,h=.slice (some ca) L.length cap/\nth C i=some (gQ ca L)
abbrev BN(ca:Addr)(L:iy):aH:=fR ca 1 (λj=>[.bool (L.getD j false)]) L.length false
abbrev ko(b:Bk)(h:ay):Value:=.agg #[i6 b.k,i6 b.n,h]
def wG(f:bU):Nat->Nat
 |0=>0
 |n+1=>wG f n+f n
theorem l5(f:bU)(t v:Nat):∀n,wG (upd f t v) n+(if t<n then f t else 0)=wG f n+(if t<n then v else 0)
 |0=>by simp[wG]
 |n+1=>by
  have h:=l5 f t v n;simp only[wG];by_cases b:t<n
  .have:(upd f t v) n=f n:=by simp[upd];omega
   grind
  .by_cases a:t=n
   .subst a;have:(upd f t v) t=v:=by simp[upd]
    grind
   .have:(upd f t v) n=f n:=by simp[upd];omega
    grind
theorem Et(f:bU)(t:Nat):∀n,t<n->f t<=wG f n
 |0,h=>by omega
 |n+1,h=>by
  simp only[wG];by_cases a:t=n
  .simp_all
  .have:=Et f t n (by omega);omega
theorem qI(a:Nat->qy):∀i,∀k:Nat,cj a i=k->k<i/\(a k).o=false
 |0,k,h=>by simp[cj]at h
 |i+1,k,h=>by
  unfold cj at h;split at h
  .grind
  .have:=qI a i k h;grind
def cI(V:Ev0):Nat->Nat
 |0=>6
 |d+1=>if(V.ly (V.nl-(d+1))).k=1 then 9*(cI V d+6)+6 else cI V d+6
def oC(V:Ev0)(a:Nat->Int):Nat->Nat
 |0=>1
 |j+1=>oC V a j+3+if(V.ly j).k=1 then((V.ly j).a-a j).toNat*(cI V (V.nl-(j+1))+6)else 0
def jo(V:Ev0)(a:Nat->Int)(k:Nat)(ob:Option Bk):Nat:=oC V a k+match ob with
 |none=>cI V (V.nl-k)
 |some _=>0
theorem Fj{V:Ev0}(j:Nat):oC V a (j+1)=oC V a j+3+if(V.ly j).k=1 then((V.ly j).a-a j).toNat*(cI V (V.nl-(j+1))+6)else 0:=rfl
theorem rR{V:Ev0}{a b:Nat->Int}:∀k,(∀i,i<k->a i=b i)->oC V a k=oC V b k
 |0,_=>rfl
 |k+1,h=>by unfold oC;rw[rR k λi a=>h i (by omega),h k (by omega)]
theorem Lg{V:Ev0}(a:k<V.nl):cI V (V.nl-k)=if(V.ly k).k=1 then 9*(cI V (V.nl-(k+1))+6)+6 else cI V (V.nl-(k+1))+6:=by
 rw[show V.nl-k=(V.nl-(k+1))+1 by omega]
 conv=>lhs;unfold cI
 grind
theorem GQ{V:Ev0}:∀d,6<=cI V d
 |0=>by simp[cI]
 |d+1=>by have:=GQ (V:=V) d;unfold cI;grind
theorem Fo{V:Ev0}:∀k,0<oC V a k
 |0=>by simp[oC]
 |k+1=>by unfold oC;omega
theorem Le{V:Ev0}:∀d,d<=V.nl->∃r,Ih V.ly V.nl=Ih V.ly (V.nl-d)+r/\(r=0->cI V d<=6*d+6)/\(r<=1->cI V d<=60*d+114)/\(r<=2->cI V d<=546*d+1086)
 |0,_=>⟨0,by simp,by simp[cI],by simp[cI],by simp[cI]⟩
 |d+1,h=>by
  obtain⟨r,a,b,b,b⟩:=Le (V:=V) d (by omega);rw[show V.nl-d=(V.nl-(d+1))+1 by omega]at a;simp only[Ih]at a;unfold cI;by_cases e:(V.ly (V.nl-(d+1))).k=1
  .rw[ah e]at a ⊢;exact⟨r+1,by omega,λz=>by omega,λz=>by omega,λz=>by omega⟩
  grind
theorem RJ{V:Ev0}(c:k<V.nl)(b:(V.ly k).k=1)(d:1<=(V.ly k).a/\(V.ly k).a<=9):jo V (upd a k 1) (k+1) none+2<jo V a k none:=by
 have e:oC V (upd a k 1) k=oC V a k:=rR k λi d=>by simp[upd];omega
 have d:upd a k 1 k=1:=by simp[upd]
 have a:((V.ly k).a-1).toNat<=8:=by omega
 have f:=B9 (cI V (V.nl-(k+1))+6) a;simp only[jo];rw[Lg c,ah b,Fj,ah b,e,d];omega
theorem yy{V:Ev0}(c:k<V.nl)(b:¬(V.ly k).k=1):jo V a (k+1) none+2<jo V a k none:=by
 simp only[jo];rw[Lg c,af b,Fj,af b];omega
theorem mw{V:Ev0}{b:Bk}:jo V a k (some b)+2<jo V a k none:=by have:=GQ (V:=V) (V.nl-k);simp only[jo];omega
theorem jd{V:Ev0}{b b':Bk}:jo V a j (some b')+2<jo V a (j+1) (some b):=by
 simp only[jo,Fj];omega
theorem RL{V:Ev0}{b:Bk}(c:(V.ly j).k=1)(d:a j<(V.ly j).a):jo V (upd a j (a j+1)) (j+1) none+2<jo V a (j+1) (some b):=by
 have e:oC V (upd a j (a j+1)) j=oC V a j:=rR j λi b=>by simp[upd];omega
 have d:upd a j (a j+1) j=a j+1:=by simp[upd]
 have b:((V.ly j).a-a j).toNat=((V.ly j).a-(a j+1)).toNat+1:=by omega
 simp only[jo,Fj,ah c,e,d,b,YD];omega
def Sw(m:Nat)(b:Bk):Prop:=b.ch.length+m<1000000/\(∀x∈b.ch.dropLast,x.k=7)/\((b.k=1/\b.ch=[])\/(b.k=2/\b.n=0/\b.ch≠[])\/(b.k=3/\b.ch=[]))
theorem qR.less{y:ju}{g:Gt}{a:Nat}(h:qR y g X m)(b:a<=m):qR y g X a:=⟨h.nx,h.sm,h.st,by have:=h.pd;omega,h.si,by have:=h.pr;omega,by have:=h.tn;omega⟩
theorem qR.x{y:ju}{g:Gt}{a:Int}(h:qR y g X m)(b:X<=a):qR y g a m:=⟨by have:=h.nx;omega,h.sm,h.st,h.pd,by have:=h.si;omega,h.pr,h.tn⟩
def X8(V:Ev0)(L:LS):Prop:=∀t k,t<V.nc->k<V.nl->(V.ly k).k=4->(L.tk t).q k<=(L.gt k).pd/\((L.gt k).st=1->(L.tk t).q k<(L.gt k).pd)
def fq(V:Ev0)(L:LS)(X:Int)(m:Nat):Prop:=(∀k,k<V.nl->3<=(V.ly k).k->qR (V.ly k) (L.gt k) X m)/\X8 V L
theorem fq.g{V:Ev0}{L:LS}(h:fq V L X m):∀k,k<V.nl->3<=(V.ly k).k->qR (V.ly k) (L.gt k) X m:=h.1
theorem fq.q{V:Ev0}{L:LS}(h:fq V L X m):X8 V L:=h.2
theorem fq.less{V:Ev0}{L:LS}{X:Int}{m:Nat}(h:fq V L X (m+1)):fq V L X m:=⟨λk a b=>(h.g k a b).less (by omega),h.q⟩
theorem fq.rW{V:Ev0}{L a:LS}(h:fq V L X (m+1))(e:a.gt=L.gt)(c:∀u,(a.tk u).q=(L.tk u).q):fq V a X m:=⟨λk a b=>by rw[e];exact(h.g k a b).less (by omega),λt k b a d=>by rw[e,c];exact h.q t k b a d⟩
theorem fq.x{V:Ev0}{L:LS}{X a:Int}{m:Nat}(h:fq V L X m)(b:X<=a):fq V L a m:=⟨λk a c=>(h.g k a c).x b,h.q⟩
theorem fq.set{V:Ev0}{L:LS}{g:Gt}(h:fq V L X (m+1))(d:3<=(V.ly k).k->qR (V.ly k) g X m)(f:(L.gt k).pd<g.pd\/(g.pd=(L.gt k).pd/\g.st=(L.gt k).st)):fq V (L.aO k g) X m:=⟨λj a b=>by
 by_cases e:j=k
 .subst e;simp only[LS.aO,upd,if_true];exact d b
 .simp only[LS.aO,upd,af e];exact(h.g j a b).less (by omega),λt j b a d=>by
 have c:=h.q t j b a d;by_cases e:j=k
 .subst e;simp only[LS.aO,upd,if_true];omega
 .simp only[LS.aO,upd,af e];exact c⟩
theorem fq.mark{V:Ev0}{L:LS}{X:Int}{m k t:Nat}(h:fq V L X m)(b:(L.gt k).st≠1):fq V (L.mark t k) X m:=⟨h.g,λu j b d f=>by
 have c:=h.q u j b d f;by_cases e:u=t
 .by_cases a:j=k
  .subst a;simp only[LS.mark,upd,ah e,if_true];omega
  .simp only[LS.mark,upd,ah e,af a];simp_all
 .simp only[LS.mark,upd,af e];exact c⟩
structure Lc(V:Ev0)(m:Nat)(L:LS)(t k:Nat)(ob:Option Bk):Prop where
 kl:k<=V.nl
 a:∀j,j<k->Oy V L t j
 b:∀b,ob=some b->Sw m b
def Si(V:Ev0)(m:Nat)(L:LS)(D:bU)(t:Nat)(e:qy):Prop:=
 (e.c=0/\jo V (L.tk t).a 0 none<=D t)\/∃w:Nat,e.w=w/\w<L.wl/\(L.wt w).t=t/\(L.wt w).e=false/\((e.c=1/\(L.wt w).x=false)\/(e.c=2/\(L.wt w).x=true))/\
   ((e.c=1/\(L.wt w).l=V.nl/\∃y ch,(L.wt w).b.ch=y::ch/\Lc V m L t V.nl (some ⟨(L.wt w).b.k,(L.wt w).b.n,ch⟩)/\jo V (L.tk t).a V.nl (some ⟨(L.wt w).b.k,(L.wt w).b.n,ch⟩)<=D t)\/
    ∃k:Nat,k<V.nl/\(L.wt w).l=k/\((V.ly k).k=5\/(e.c=1/\(V.ly k).k=1))/\Lc V m L t (k+1) none/\jo V (L.tk t).a (k+1) none<=D t)
def opn(L:LS):Nat:=wG (λi=>if(L.ag i).o=true then 0 else 1) L.al
structure uW(V:Ev0)(m:Nat)(L:LS)(X:Int)(D:bU)(E:Nat->Option Nat)(cur:u5):Prop where
 tl:L.tl=V.nc
 el:L.el+3*m<1000000
 wl:L.wl+m<1000000
 al:L.al+m<1000000
 now:0<=L.now/\L.now<=X
 x:X+10000*m<1000000000000
 tk:∀t:Nat,t<V.nc->(L.tk t).c=t/\(L.tk t).f=-1/\(L.tk t).o=-1/\(L.tk t).x=false
 us:∀t:Nat,t<V.nc->0<=L.us t/\L.us t+m<1000000
 ta:∀i,i<L.al->(L.ag i).o=false->0<=(L.ag i).a/\(L.ag i).a<=X
 pd:∀i,i<L.al->(L.ag i).o=false->∃t:Nat,t<V.nc/\(L.ag i).t=t/\(E t=some i\/((L.ag i).c=1/\∃w:Nat,(L.ag i).w=w/\w<L.wl/\((L.wt w).x=true\/(L.wt w).e=true)))
 lv:∀t i,t<V.nc->E t=some i->i<L.al/\(L.ag i).o=false/\(L.ag i).t=t/\Si V m L D t (L.ag i)
 wa:∀w,w<L.wl->(L.wt w).x=false->(L.wt w).e=false->∃t i:Nat,t<V.nc/\(L.wt w).t=t/\E t=some i/\(L.ag i).c=1/\(L.ag i).w=w
 cu:∀t,cur=some t->E t=none
 sm:wG D V.nc+opn L<=m
 gt:fq V L X m
structure uX(V:Ev0)(t:Nat)(L L':LS):Prop where
 tl:L'.tl=L.tl
 el:L'.el<=L.el+3
 tk:∀j,j≠t->L'.tk j=L.tk j
 tt:(L'.tk t).c=(L.tk t).c/\(L'.tk t).f=(L.tk t).f/\(L'.tk t).o=(L.tk t).o/\(L'.tk t).x=(L.tk t).x
 us:∀j,j≠t->L'.us j=L.us j
 ut:L.us t<=L'.us t/\L'.us t<=L.us t+1
 gt:∀(X:Int)(m:Nat),(0<=L.now/\L.now<=X)->fq V L X (m+1)->fq V L' X m
theorem Lc.mv{V:Ev0}{c:Nat}{L d:LS}{a:Option Bk}(h:Lc V m L t k a)(e:c<=m)(e:d.tk t=L.tk t):Lc V c d t k a:=
 ⟨h.kl,λj a=>by have:=h.a j a;unfold Oy at*;simp_all,λb a=>⟨by have:=(h.b b a).1;omega,(h.b b a).2⟩⟩
theorem Si.mv{V:Ev0}{m g:Nat}{L b:LS}{D a:bU}{u:Nat}{e:qy}(h:Si V m L D u e)(f:b.tk u=L.tk u)(c:L.wl<=b.wl)(d:∀w,w<L.wl->(L.wt w).t=u->b.wt w=L.wt w)(i:g<=m)(c:a u=D u):Si V g b a u e:=by
 unfold Si;rw[f,c];rcases h with h|⟨w,j,g,a,e,c,b⟩
 .exact .inl h
 .refine .inr ⟨w,j,by omega,?_⟩;rw[d w g a];refine⟨a,e,c,?_⟩;rcases b with ⟨e,d,y,ch,c,b,a⟩|⟨k,e,d,c,b,a⟩
  .exact .inl ⟨e,d,y,ch,c,b.mv i f,a⟩
  .exact .inr ⟨k,e,d,c,b.mv i f,a⟩
theorem uX.T6{V:Ev0}{L a:LS}(O:uX V t L a)(h:∀j:Nat,j<V.nc->(L.tk j).c=j/\(L.tk j).f=-1/\(L.tk j).o=-1/\(L.tk j).x=false)(j:Nat)(b:j<V.nc):(a.tk j).c=j/\(a.tk j).f=-1/\(a.tk j).o=-1/\(a.tk j).x=false:=by
 by_cases e:j=t
 .subst e;rw[O.tt.1,O.tt.2.1,O.tt.2.2.1,O.tt.2.2.2];exact h j b
 .rw[O.tk j e];exact h j b
theorem uX.T3{V:Ev0}{L a:LS}(O:uX V t L a)(h:∀j:Nat,j<V.nc->0<=L.us j/\L.us j+(m+1:Nat)<1000000)(j:Nat)(b:j<V.nc):0<=a.us j/\a.us j+m<1000000:=by
 have:=h j b;by_cases e:j=t
 .subst e;have:=O.ut;omega
 .rw[O.us j e];omega
theorem oM{f g:bU}:∀n,(∀i,i<n->f i=g i)->wG f n=wG g n
 |0,_=>rfl
 |n+1,h=>by simp only[wG];rw[oM n λi a=>h i (by omega),h n (by omega)]
theorem A0{L:LS}{e:qy}(b:e.o=false):opn (L.put e)=opn L+1:=by
 unfold opn;show wG _ (L.al+1)=_;simp only[wG];rw[oM (g:=λi=>if(L.ag i).o=true then 0 else 1) L.al λi a=>by simp[LS.put,upd,iS a]];simp[LS.put,upd,b]
theorem vI{L:LS}(b:i<L.al)(a:(L.ag i).o=false):opn (L.pop i)+1=opn L:=by
 have:=l5 (λi=>if(L.ag i).o=true then 0 else 1) i 0 L.al;simp only[b,if_true,a]at this;unfold opn;rw[oM (g:=upd (λi=>if(L.ag i).o=true then 0 else 1) i 0) (L.pop i).al λj a=>by by_cases e:j=i<;>simp[LS.pop,upd,e]];simpa [LS.pop]using this
theorem uW.mv{V:Ev0}{m:Nat}{L b:LS}{X:Int}{D:bU}{E:Nat->Option Nat}{t v:Nat}{cur:u5}(h:uW V (m+1) L X D E (some t))(n:t<V.nc)(O:uX V t L b)(f:b.now=L.now)(d:b.al=L.al)(a:b.ag=L.ag)(e:b.wl=L.wl)(c:b.wt=L.wt)(p:v<D t)(o:∀u,cur=some u->u=t):uW V m b X (upd D t v) E cur where
 tl:=by rw[O.tl,h.tl]
 el:=by have:=O.el;have:=h.el;omega
 wl:=by have:=h.wl;omega
 al:=by have:=h.al;omega
 now:=by rw[f];exact h.now
 x:=by have:=h.x;omega
 tk:=O.T6 h.tk
 us:=O.T3 h.us
 ta:=by rw[d,a];exact h.ta
 pd:=by rw[d,a,e,c];exact h.pd
 lv:=λu i g j=>by
  have l:u≠t:=by rintro rfl;rw[h.cu u rfl]at j;cases j
  obtain⟨k,f,q,p⟩:=h.lv u i g j;rw[d,a];exact⟨k,f,q,p.mv (O.tk u l) (by omega) (λ_ _ _=>by rw[c]) (by omega) (af l)⟩
 wa:=by rw[e,c,a];exact h.wa
 cu:=λu g=>by rw[o u g];exact h.cu t rfl
 sm:=by
  have k:=l5 D t v V.nc;have f:=h.sm;simp only[n,if_true]at k;have:opn b=opn L:=by unfold opn;simp_all
  omega
 gt:=O.gt X m h.now h.gt
theorem uW.pk{V:Ev0}{L d:LS}{a:Int}{v:Nat}{l:Int}{b:Bk}(h:uW V (m+1) L X D E (some t))(F:t<V.nc)(O:uX V t L d)(p:d.now=L.now)(q:d.al=L.al+1)(f:d.ag=upd L.ag L.al ⟨a,t,L.wl,1,false⟩)(B:d.wl=L.wl+1)(g:d.wt=upd L.wt L.wl ⟨t,l,false,false,b⟩)(B:0<=a/\a<=X+10000)(I:v+1<D t)(I:(l=V.nl/\∃y ch,b.ch=y::ch/\Lc V m d t V.nl (some ⟨b.k,b.n,ch⟩)/\jo V (d.tk t).a V.nl (some ⟨b.k,b.n,ch⟩)<=v)\/∃k:Nat,k<V.nl/\l=k/\((V.ly k).k=5\/(V.ly k).k=1)/\Lc V m d t (k+1) none/\jo V (d.tk t).a (k+1) none<=v):uW V m d (X+10000) (upd D t v) (upd E t (some L.al)) none where
 tl:=by rw[O.tl,h.tl]
 el:=by have:=O.el;have:=h.el;omega
 wl:=by have:=h.wl;omega
 al:=by have:=h.al;omega
 now:=by rw[p];have:=h.now;omega
 x:=by have:=h.x;omega
 tk:=O.T6 h.tk
 us:=O.T3 h.us
 ta:=λi b n=>by
  rw[f]at n ⊢;by_cases e:i=L.al
  .simp only[upd,ah e];exact B
  .simp only[upd,af e]at n ⊢;have:=h.ta i (by omega) n;omega
 pd:=λi b n=>by
  rw[f]at n ⊢;by_cases e:i=L.al
  .simp only[upd,ah e];grind
  .simp only[upd,af e]at n ⊢;obtain⟨u,o,r,c⟩:=h.pd i (by omega) n;refine⟨u,o,r,?_⟩;rcases c with c|⟨c,w,s,z,H⟩
   .have G:u≠t:=by rintro rfl;rw[h.cu u rfl]at c;cases c
    simp_all
   .refine .inr ⟨c,w,s,by omega,?_⟩;rw[g];simp only[upd,af (iS z)];exact H
 lv:=λu i C j=>by
  rw[f,q];by_cases e:u=t
  .subst e;simp only[upd,if_true]at j;cases j;simp only[upd,if_true];refine⟨by omega,trivial,trivial,.inr ⟨L.wl,rfl,by omega,?_⟩⟩;rw[g];simp only[upd,if_true];simp_all
  .simp only[upd,af e]at j;obtain⟨o,r,c,s⟩:=h.lv u i C j;have A:i≠L.al:=by omega
   simp only[upd,af A];exact⟨by omega,r,c,s.mv (O.tk u e) (by omega) (λw b _=>by rw[g];simp only[upd,af (iS b)]) (by omega) (af e)⟩
 wa:=λw b x j=>by
  rw[g]at x j ⊢;rw[f];by_cases e:w=L.wl
  .subst e;simp only[upd,if_true];grind
  .simp only[upd,af e]at x j ⊢;obtain⟨u,i,o,r,c,s,z⟩:=h.wa w (by omega) x j;have G:u≠t:=by rintro rfl;rw[h.cu u rfl]at c;cases c
   have A:i≠L.al:=by have:=(h.lv u i o c).1;omega
   grind
 cu:=λ_ h=>by cases h
 sm:=by
  have o:=l5 D t v V.nc;have r:=h.sm;simp only[F,if_true]at o;have c:=A0 (L:=L) (e:=⟨a,t,L.wl,1,false⟩) rfl;have:opn d=opn (L.put ⟨a,t,L.wl,1,false⟩):=by unfold opn;rw[f,q];rfl
  omega
 gt:=(O.gt X m h.now h.gt).x (by omega)
theorem uW.dg{V:Ev0}{m:Nat}{L:LS}{X:Int}{D:bU}{E:Nat->Option Nat}{t w k:Nat}(h:uW V m L X D E (some t))(y:w<L.wl)(P:k<V.nl)(R:(V.ly k).k=5)(O:(L.wt w).l=k)(M:(L.wt w).x=false)(G:(L.wt w).e=false)(C:L.al+1+m<1000000)(N:wG D V.nc+opn L+1<=m):∃N,uW V m (L.dg w) X D N (some t):=by
 obtain⟨u,i,H,F,s,S,Q⟩:=h.wa w y M G;have B:u≠t:=by rintro rfl;rw[h.cu u rfl]at s;cases s
 obtain⟨m,m,m,K⟩:=h.lv u i H s;have x:(L.dg w).wt w={L.wt w with x:=true,b:=⟨0,0,[]⟩}:=by simp[LS.dg,LS.put,upd]
 have n:∀j,j≠w->(L.dg w).wt j=L.wt j:=λj c=>by simp[LS.dg,LS.put,upd,c]
 have d:∀j,j≠L.al->(L.dg w).ag j=L.ag j:=λj c=>by simp[LS.dg,LS.put,upd,c]
 have DM:(L.dg w).ag L.al=⟨L.now,(L.wt w).t,w,2,false⟩:=by simp[LS.dg,LS.put,upd]
 refine⟨upd E u (some L.al),{tl:=h.tl,el:=h.el,wl:=h.wl,al:=C,now:=h.now,x:=h.x,tk:=h.tk,us:=h.us,ta:=λj c p=>?_,pd:=λj c p=>?_,lv:=λv j A c=>?_,wa:=λj c o q=>?_,cu:=λv A=>?_,sm:=?_,gt:=h.gt}⟩
 .by_cases e:j=L.al
  .rw[e,DM];exact h.now
  .rw[d j e]at p ⊢;exact h.ta j (by have:(L.dg w).al=L.al+1:=rfl
                                    omega) p
 .by_cases e:j=L.al
  .rw[e,DM];exact⟨u,H,F,.inl (ah rfl)⟩
  .rw[d j e]at p ⊢
   obtain⟨v,f,l,b⟩:=h.pd j (by have:(L.dg w).al=L.al+1:=rfl
                               omega) p
   refine⟨v,f,l,?_⟩;have st:∀a:Nat,a<L.wl->((L.wt a).x=true\/(L.wt a).e=true)->(((L.dg w).wt a).x=true\/((L.dg w).wt a).e=true):=λa _ z=>by
    grind
   rcases b with b|⟨b,a,g,r,T⟩
   .by_cases I:v=u
    .subst I;rw[s]at b;cases b;exact .inr ⟨S,w,Q,y,by simp_all⟩
    .exact .inl (by simp only[upd,af I];exact b)
   .exact .inr ⟨b,a,g,r,st a r T⟩
 .by_cases e:v=u
  .subst e;simp only[upd,if_true]at c;cases c;rw[DM];refine⟨gr _,rfl,F,.inr ⟨w,rfl,y,?_⟩⟩;rw[x];refine⟨F,G,.inr ⟨rfl,rfl⟩,.inr ⟨k,P,O,.inl R,?_⟩⟩;rcases K with ⟨z,_⟩|⟨a,i,i,i,i,i,J⟩
   .omega
   .have:a=w:=by omega
    subst this;rcases J with ⟨_,z,_⟩|⟨i,f,l,b,g,r⟩
    .omega
    .have:i=k:=by omega
     subst this;exact⟨g.mv (az _) rfl,r⟩
  .simp only[upd,af e]at c;obtain⟨f,l,b,g⟩:=h.lv v j A c;rw[d j (by omega)];exact⟨BX f,l,b,g.mv rfl (az _) (λa _ d=>n a (by grind)) (az _) rfl⟩
 .have e:j≠w:=by grind
  rw[n j e]at o q ⊢;obtain⟨v,a,f,l,b,g,r⟩:=h.wa j c o q;have d:v≠u:=by grind
  have e:=(h.lv v a f b).1;exact⟨v,a,f,l,by simp only[upd,af d];exact b,by grind,by grind⟩
 .cases A;simp only[upd,af (Ne.symm B)];exact h.cu t rfl
 .have:opn (L.dg w)=opn L+1:=A0 (L:={L with wt:=upd L.wt w {L.wt w with x:=true,b:=⟨0,0,[]⟩}}) rfl;omega
theorem uW.pop{V:Ev0}{m:Nat}{L a:LS}{X:Int}{D:bU}{E:Nat->Option Nat}{t v i:Nat}(h:uW V (m+1) L X D E none)(F:t<V.nc)(H:E t=some i)(O:uX V t L a)(k:a.now=(L.ag i).a)(n:a.al=L.al)(b:a.ag=upd L.ag i {L.ag i with o:=true})(s:a.wl=L.wl)(d:(a.wt=L.wt/\(L.ag i).c=0)\/∃w:Nat,(L.ag i).w=w/\a.wt=upd L.wt w {L.wt w with e:=true}/\(L.wt w).t=t)(P:v<=D t):uW V m a X (upd D t v) (upd E t none) (some t):=by
 obtain⟨B,A,E,E⟩:=h.lv t i F H;have wn:∀w,w<L.wl->(L.wt w).t≠t->a.wt w=L.wt w:=λw _ g=>by
  rcases d with ⟨z,_⟩|⟨r,_,z,E⟩
  .rw[z]
  .rw[z];simp only[upd];grind
 have J:∀w,(a.wt w).x=(L.wt w).x/\((L.wt w).e=true->(a.wt w).e=true)/\(a.wt w).t=(L.wt w).t:=λw=>by
  rcases d with ⟨z,_⟩|⟨r,_,z,_⟩
  .simp_all
  .rw[z];simp only[upd];grind
 refine{tl:=by rw[O.tl,h.tl],el:=by have:=O.el;have:=h.el;omega,wl:=by have:=h.wl;omega,al:=by have:=h.al;omega,now:=by rw[k];exact h.ta i B A,x:=by have:=h.x;omega,tk:=O.T6 h.tk,us:=O.T3 h.us,ta:=λj l c=>?_,pd:=λj l c=>?_,lv:=λu j x l=>?_,wa:=λw g C G=>?_,cu:=λu x=>by cases x;exact ah rfl,sm:=?_,gt:=O.gt X m h.now h.gt}
 .rw[b]at c ⊢;by_cases e:j=i
  .subst e;simp[upd]at c
  .simp only[upd,af e]at c ⊢;exact h.ta j (by omega) c
 .rw[b]at c ⊢;by_cases e:j=i
  .subst e;simp[upd]at c
  .simp only[upd,af e]at c ⊢;obtain⟨u,o,q,f⟩:=h.pd j (by omega) c;refine⟨u,o,q,?_⟩;grind
 .by_cases e:u=t
  .subst e;simp[upd]at l
  .simp only[upd,af e]at l;obtain⟨o,q,f,y⟩:=h.lv u j x l;have p:j≠i:=by grind
   rw[b,n];simp only[upd,af p];exact⟨o,q,f,y.mv (O.tk u e) (by omega) (λw g z=>wn w g (by omega)) (by omega) (af e)⟩
 .rw[s]at g;rw[(J w).1]at C;have e:(L.wt w).e=false:=by
   grind
  obtain⟨u,j,o,q,f,y,N⟩:=h.wa w g C e;have K:u≠t:=by
   rintro rfl;rw[H]at f;cases f;rcases d with ⟨_,z⟩|⟨r,d,I,_⟩
   .omega
   .have:r=w:=by omega
    subst this;rw[I]at G;simp[upd]at G
  have p:j≠i:=by grind
  rw[b];exact⟨u,j,o,by simp_all,by simp only[upd,af K];exact f,by simp only[upd,af p];exact y,by simp only[upd,af p];exact N⟩
 .have M:=l5 D t v V.nc;have d:=h.sm;simp only[F,if_true]at M;have d:=vI B A;have:opn a=opn (L.pop i):=by unfold opn;rw[b,n];rfl
  omega
theorem uW.off{V:Ev0}{L:LS}(h:uW V (m+1) L X D E none)(o:i<L.al)(n:(L.ag i).o=false)(g:∀t,t<V.nc->E t≠some i):uW V m (L.pop i) X D E none:=by
 have c:∀j,j≠i->(L.pop i).ag j=L.ag j:=λj a=>by simp[LS.pop,upd,a]
 have d:∀j,((L.pop i).ag j).o=false->j≠i:=λj a e=>by subst e;simp[LS.pop,upd]at a
 refine{tl:=h.tl,el:=by have:=h.el;show L.el+3*m<1000000;omega,wl:=by have:=h.wl;show L.wl+m<1000000;omega,al:=by have:=h.al;show L.al+m<1000000;omega,now:=h.ta i o n,x:=by have:=h.x;omega,tk:=h.tk,us:=λj a=>by have:=h.us j a;show 0<=L.us j/\L.us j+m<1000000;omega,ta:=λj a b=>?_,pd:=λj a b=>?_,lv:=λu j f a=>?_,wa:=λw q p r=>?_,cu:=λu f=>(by cases f),sm:=?_,gt:=?_}
 .have e:=d j b;rw[c j e]at b ⊢;exact h.ta j a b
 .have e:=d j b;rw[c j e]at b ⊢;exact h.pd j a b
 .obtain⟨l,g,d,m⟩:=h.lv u j f a;have e:j≠i:=by grind
  rw[c j e];exact⟨l,g,d,m.mv rfl (az _) (λ_ _ _=>rfl) (by omega) rfl⟩
 .obtain⟨u,j,l,g,d,m,c⟩:=h.wa w q p r;have e:j≠i:=by grind
  exact⟨u,j,l,g,d,by simp_all,by simp_all⟩
 .have:=vI o n;have:=h.sm;omega
 .exact⟨λk c d=>(h.gt.g k c d).less (by omega),h.gt.q⟩
theorem uX.bY{V:Ev0}{L:LS}:uX V t L L:=⟨rfl,by omega,λ_ _=>rfl,⟨rfl,rfl,rfl,rfl⟩,λ_ _=>rfl,by omega,λ_ _ _ h=>h.less⟩
theorem uW.Ua{V:Ev0}{L:LS}{a:u5}(h:uW V m L X D E a)(a:t<V.nc):qm V t L where
 tl:=h.tl
 tn:=a
 el:=by have:=h.el;omega
 wl:=by have:=h.wl;omega
 al:=by have:=h.al;omega
 now:=by have:=h.now;have:=h.x;omega
 tc:=(h.tk t a).1
 tf:=(h.tk t a).2.1
 to:=(h.tk t a).2.2.1
 tx:=(h.tk t a).2.2.2
 us:=by have:=h.us t a;omega
 gt:=λk b c=>((h.gt.g k b c).x (by have:=h.x;omega)).less (by omega)
 q:=λk b c d=>by have:=(h.gt.q t k a b c).2 d;omega
theorem Pc(x:Lm)(m:Nat)(a:m<900000):Sw m (cN x):=by
 unfold cN c9 Sw;grind
theorem AW(y:ju)(n:Int)(a:0<=y.d/\y.d<=10000):aI y n<=10000:=by
 unfold aI;grind
theorem Ke{V:Ev0}(b:wM V){c:Nat}(a:c<V.nc)(n:Nat):0<=(aU V c n).t/\(aU V c n).t<=1000:=by
 unfold aU;split
 .exact(b.tr c a n (by assumption)).2
 .simp
structure Gl(V:Ev0)(L L':LS):Prop where
 tl:L'.tl=L.tl
 el:L'.el<=L.el+1
 wl:L'.wl=L.wl
 tk:L'.tk=L.tk
 us:L'.us=L.us
 wt:L'.wt=L.wt
 now:L'.now=L.now
 al:L'.al=L.al
 ag:L'.ag=L.ag
 gt:∀(X:Int)(m:Nat),(0<=L.now/\L.now<=X)->fq V L X (m+1)->fq V L' X m
theorem Ik{y:ju}{g:Gt}{now:Int}(a:(1<=y.a/\y.a<=1000)/\(1<=y.b/\y.b<=20))(a:0<=now/\now<=X)(a:0<=g.nx/\g.nx<=X+20000)(a:g.sm=false->g.nx=0)(b:¬(g.sm=true/\g.nx-now>(y.b-1)*y.a)):0<=(if g.sm=false\/g.nx<now then now else g.nx)+y.a/\(if g.sm=false\/g.nx<now then now else g.nx)+y.a<=X+20000:=by
 by_cases e:g.sm=false\/g.nx<now
 .grind
 .rw[af e];have a:g.sm=true:=by simp_all
  have c:¬g.nx-now>(y.b-1)*y.a:=λz=>b ⟨a,z⟩;have a:(y.b-1)*y.a<=19*y.a:=WD (by omega) (by omega);omega
theorem F4{V:Ev0}{L:LS}(t:Nat)(c:k<V.nl)(a:1<=(V.ly k).e/\(V.ly k).e<=9):Gl V L (L.aM t k):=by
 unfold LS.aM;split
 .refine⟨rfl,by simp[LS.say,LS.aO],rfl,rfl,rfl,rfl,rfl,rfl,rfl,λX m b h=>?_⟩;refine(fq.set (k:=k) (g:=(L.gt k).turn L.now 2) h (λd=>?_) (.inl (by simp only[Gt.turn];omega)));have a:=h.g k c d;exact⟨a.nx,a.sm,.inr (.inr ⟨rfl,by simp[Gt.turn];omega⟩),by have:=a.pd;simp only[Gt.turn];omega,b,by have:=a.pd;simp only[Gt.turn];omega,by have:=a.tn;simp only[Gt.turn];omega⟩
 .exact⟨rfl,by omega,rfl,rfl,rfl,rfl,rfl,rfl,rfl,λX m b h=>h.less⟩
theorem EZ{V:Ev0}{L:LS}(t:Nat)(p:k<V.nl)(q:1<=(V.ly k).e/\(V.ly k).e<=9)(b:Gl V L (L.aM t k)):Gl V L ((L.aM t k).cz k):=by
 unfold LS.cz;split
 .rename_i o;refine⟨b.tl,b.el,b.wl,b.tk,b.us,b.wt,b.now,b.al,b.ag,λX m f h=>?_⟩;have g:=b.gt X m f h;refine⟨λj c i=>?_,λu j l c n=>?_⟩
  .by_cases e:j=k
   .subst e;simp only[LS.aO,upd,if_true];have a:=h.g j c i;unfold LS.aM at o ⊢;split
    .refine⟨?_,?_,?_,?_,?_,?_,?_⟩<;>simp only[LS.say,LS.aO,upd,if_true,Gt.turn]
     .exact a.nx
     .exact a.sm
     .exact .inr (.inr ⟨trivial,by simp;omega⟩)
     .have:=a.pd;omega
     .exact f
     .have:=a.pd;omega
     .have:=a.tn;omega
    .exact⟨a.nx,a.sm,a.st,by have:=a.pd;grind,a.si,by have:=a.pr;grind,by have:=a.tn;grind⟩
   .simp only[LS.aO,upd,af e];exact g.g j c i
  .have d:=g.q u j l c n;by_cases e:j=k
   .subst e;simp only[LS.aO,upd,if_true];exact d
   .simp only[LS.aO,upd,af e];exact d
 .exact b
theorem F3{L:LS}:(((L.aM t k).cz k).gt k).st≠1:=by
 have h:((L.aM t k).gt k).st≠1:=by
  unfold LS.aM;split
  .simp[LS.say,LS.aO,upd,Gt.turn]
  omega
 unfold LS.cz;split
 .simp only[LS.aO,upd,if_true];exact h
 .exact h
theorem FJ(y:ju)(g:Gt)(x:Bool):(g.st=0->(g.la.length:Int)<=y.a->1<=y.a->((g.keep y x).length:Int)<=y.a)/\(g.st≠0->(g.keep y x).length=g.la.length+1):=by
 unfold Gt.keep;grind
theorem GJ{V:Ev0}{L:LS}(b:Bk)(n:j<V.nl)(i:(L.gt j).st=1->(L.tk t).q j≠(L.gt j).pd)(r:(1<=(V.ly j).a/\(V.ly j).a<=20)/\(1<=(V.ly j).b/\(V.ly j).b<=(V.ly j).a)/\(1<=(V.ly j).c/\(V.ly j).c<=100)/\(0<=(V.ly j).d/\(V.ly j).d<=1000)/\(1<=(V.ly j).e/\(V.ly j).e<=9)):Gl V L (L.count (V.ly j) t j b):=by
 have set:∀g:Gt,(∀(X:Int)(m:Nat),(0<=L.now/\L.now<=X)->qR (V.ly j) (L.gt j) X (m+1)->qR (V.ly j) g X m)->((L.gt j).pd<g.pd\/(g.pd=(L.gt j).pd/\g.st=(L.gt j).st))->Gl V L (L.aO j g):=λg o k=>
  ⟨rfl,by simp[LS.aO],rfl,rfl,rfl,rfl,rfl,rfl,rfl,λX m a h=>h.set (λp=>o X m a (h.g j n p)) k⟩
 have say:∀(c:LS)(q:Int),c.el=L.el->Gl V L c->Gl V L (c.say t j q 0):=λc q s h=>⟨h.tl,by simp[LS.say];omega,h.wl,h.tk,h.us,h.wt,h.now,h.al,h.ag,h.gt⟩
 unfold LS.count;split
 .exact⟨rfl,by omega,rfl,rfl,rfl,rfl,rfl,rfl,rfl,λX m a h=>h.less⟩
 .rename_i f;split
  .refine set _ (λX m a h=>⟨h.nx,h.sm,h.st,by have:=h.pd;grind,h.si,(by have:=h.pr;grind),by have:=h.tn;dsimp only;omega⟩) (.inr ⟨rfl,rfl⟩)
  .have l:=FJ (V.ly j) (L.gt j) (decide (b.k≠1));dsimp only;split
   .refine say _ 9 rfl (set _ (λX m a h=>⟨h.nx,h.sm,.inr (.inl ⟨rfl,rfl⟩),by have:=h.pd;simp only[Gt.turn];omega,a,by have:=h.pd;simp only[Gt.turn];omega,by have:=h.tn;simp only[Gt.turn];omega⟩) (.inl (by simp only[Gt.turn];omega)))
   .split
    .refine say _ 11 rfl (set _ (λX m a h=>⟨h.nx,h.sm,.inl ⟨rfl,by simp[Gt.turn];omega⟩,by have:=h.pd;simp only[Gt.turn];omega,a,by have:=h.pd;simp only[Gt.turn];omega,by have:=h.tn;simp only[Gt.turn];omega⟩) (.inl (by simp only[Gt.turn];omega)))
    .rename_i v u;refine set _ (λX m a h=>⟨h.nx,h.sm,?_,by have:=h.pd;grind,h.si,by have:=h.pr;grind,by have:=h.tn;grind⟩) (.inr ⟨rfl,rfl⟩);rcases h.st with ⟨e,d⟩|⟨e,d⟩|⟨e,d⟩
     .simp_all
     .simp_all
     grind
theorem Jr{x:iN}{l:List iN}(h:∀y∈l.dropLast,y.k=7)(a:l≠[])(b:x.k=7:=by rfl):∀y∈(x::l).dropLast,y.k=7:=by
 obtain⟨z,b,rfl⟩:=List.exists_cons_of_ne_nil a;simp_all
theorem Kz{wt:Nat->tU}{k:Int}{w:Nat}:∀{n:Nat},tJ wt k n=some w->w<n/\(wt w).l=k/\(wt w).x=false/\(wt w).e=false
 |0,h=>by cases h
 |n+1,h=>by
  unfold tJ at h;split at h
  .rename_i z;cases h;have:=Kz z;grind
  grind
theorem NQ{V:Ev0}(hV:wM V):∀(m:Nat)(T:Option (Nat×Nat×Option Bk))(L:LS)(X:Int)(D:bU)(E:Nat->Option Nat),uW V m L X D E (T.map (·.1))->(∀t k B,T=some (t,k,B)->t<V.nc/\Lc V m L t k B/\jo V (L.tk t).a k B<=D t)->∃g,Fin V g (m+1) T L:=by
 intro m;induction m with
 |zero=>
  intro T L X D E I C;match T with
  |none=>
   refine⟨L,by have:=I.al;omega,?_⟩;rcases rS L.ag L.al with h|⟨k,f,h2⟩
   .simp_all
   .exfalso;have h3:=vI f (qI _ _ _ h2).2;have h8:=I.sm;omega
  |some (t,k,B)=>
   exfalso;obtain⟨f,h2,h3⟩:=C t k B rfl;have h7:=Et D t V.nc f;have h8:=I.sm;have:0<jo V (L.tk t).a k B:=by have:=Fo (V:=V) (a:=(L.tk t).a) k;unfold jo;omega
   omega
 |succ m ih=>
  intro T L X D E I C;match T with
  |none=>
   have rZ:L.al<1000000:=by have:=I.al;omega
   rcases rS L.ag L.al with h|⟨i,f,h2⟩
   .exact⟨L,rZ,by simp_all⟩
   .have ho:=(qI _ _ _ h2).2;have Y:¬cj L.ag L.al<0:=by omega
    have T:(cj L.ag L.al).toNat=i:=by omega
    by_cases x:∃t,t<V.nc/\E t=some i
    .obtain⟨t,N,hE⟩:=x;obtain⟨_,_,h4,h6⟩:=I.lv t i N hE;have Op:uX V t L (L.pop i):=⟨rfl,by simp[LS.pop],λ_ _=>rfl,⟨rfl,rfl,rfl,rfl⟩,λ_ _=>rfl,by simp[LS.pop];omega,λ_ _ _ h=>h.less⟩;have fin:∀(g:LS),_->Fin V g (m+1+1) none L:=λg (F:∃t:Nat,(L.ag i).t=t/\_)=>⟨rZ,by rw[af Y];simp_all;omega⟩
     rcases h6 with ⟨h6,h7⟩|⟨w,h7,h8,h9,KV,Rg,h6⟩
     .have I':=I.pop (v:=jo V (L.tk t).a 0 none) N hE Op rfl rfl rfl rfl (.inl ⟨rfl,h6⟩) h7;obtain⟨g,F⟩:=ih (some (t,0,none)) (L.pop i) X _ _ I' (by
       rintro _ _ _ ⟨⟩;exact⟨N,⟨gl _,λj A=>by omega,λb S=>by cases S⟩,by simp[upd,LS.pop]⟩)
      exact⟨g,fin g ⟨t,h4,.inl ⟨h6,I'.Ua N,F⟩⟩⟩
     .have Ow:uX V t L ((L.pop i).bV t w):=⟨rfl,by simp[LS.pop,LS.bV],λj A=>af A,by simp[LS.pop,LS.bV,upd],λ_ _=>rfl,by simp[LS.pop,LS.bV];omega,λ_ _ _ h=>h.rW rfl λu=>by simp only[LS.pop,LS.bV,upd];grind⟩
      have Os:∀l q n,uX V t L (((L.pop i).bV t w).say t l q n):=λl q n=>⟨Ow.tl,by simp[LS.pop,LS.bV,LS.say],Ow.tk,Ow.tt,Ow.us,Ow.ut,Ow.gt⟩
      have T:∀a:LS,a.wt=((L.pop i).bV t w).wt->(a.wt=L.wt/\(L.ag i).c=0)\/∃w:Nat,(L.ag i).w=w/\a.wt=upd L.wt w {L.wt w with e:=true}/\(L.wt w).t=t:=λa e=>.inr ⟨w,h7,e,h9⟩;have sk:qm V t (L.pop i):=by
       have s:=(I.pop (v:=0) N hE Ow rfl rfl rfl rfl (T _ rfl) (gl _)).Ua N;exact⟨s.tl,N,s.el,s.wl,s.al,s.now,(I.tk t N).1,(I.tk t N).2.1,(I.tk t N).2.2.1,(I.tk t N).2.2.2,s.us,s.gt,λk G h4 f=>by have:=(I.gt.q t k N G h4).2 f;simp only[LS.pop];omega⟩
      rcases h6 with ⟨K,Jd,y,ch,Rf,J,s⟩|⟨k,Jd,Rf,J,s,h17⟩
      .have I':=I.pop (v:=jo V (L.tk t).a V.nl (some ⟨(L.wt w).b.k,(L.wt w).b.n,ch⟩)) N hE (Os (-1) 2 y.n) rfl rfl rfl rfl (T _ rfl) s;obtain⟨g,F⟩:=ih (some (t,V.nl,some ⟨(L.wt w).b.k,(L.wt w).b.n,ch⟩)) _ X _ _ I' (by
        rintro _ _ _ ⟨⟩;refine⟨N,⟨J.kl,λj A=>?_,λb S=>⟨by have:=(J.b b S).1;omega,(J.b b S).2⟩⟩,by simp[upd,LS.pop,LS.bV,LS.say]⟩;have:=J.a j A;simpa [Oy,LS.pop,LS.bV,LS.say,upd]using this)
       exact⟨g,fin g ⟨t,h4,.inr ⟨w,h7,h8,.inr ⟨h9,KV,Rg,sk,.inl ⟨K,Jd,y,ch,Rf,F⟩⟩⟩⟩⟩
      .have go:∀(a:LS)(r:Nat)(B:Option Bk),uX V t L a->a.now=(L.ag i).a->a.al=L.al->a.ag=upd L.ag i {L.ag i with o:=true}->a.wl=L.wl->a.wt=((L.pop i).bV t w).wt->(a.tk t).a=(L.tk t).a->r<=k+1->(∀b,B=some b->Sw m b)->jo V (L.tk t).a r B<=jo V (L.tk t).a (k+1) none->∃g,Fin V g (m+1) (some (t,r,B)) a:=λa r B O n1 n2 n3 n4 n5 n6 n7 n8 n9=>
        ih (some (t,r,B)) a X _ _ (I.pop (v:=jo V (L.tk t).a r B) N hE O n1 n2 n3 n4 (T _ n5) (aT n9 h17)) (by
         rintro _ _ _ ⟨⟩;refine⟨N,⟨by omega,λj A h=>?_,n8⟩,by simp[upd,n6]⟩;rw[n6];exact s.a j (by omega) h)
       rcases J with J|⟨K,J⟩
       .have s:=Rg;rcases s with ⟨K,_⟩|⟨K,_⟩
        .obtain⟨g,F⟩:=go (((L.pop i).bV t w).say t k 7 0) k (some (c9 3 k 0)) (Os _ _ _) rfl rfl rfl rfl rfl (by simp[LS.say,LS.bV,LS.pop,upd]) (by omega) (λb e=>by cases e;exact⟨by have:=I.el;simp[c9];omega,by simp[c9],.inr (.inl ⟨rfl,rfl,by simp[c9]⟩)⟩) (by simp only[jo,Fj];omega);exact⟨g,fin g ⟨t,h4,.inr ⟨w,h7,h8,.inr ⟨h9,KV,Rg,sk,.inr ⟨k,Jd,Rf,.inr (.inl ⟨J,K,F⟩)⟩⟩⟩⟩⟩
        .obtain⟨g,F⟩:=go (((L.pop i).bV t w).say t k 13 0) (k+1) none (Os _ _ _) rfl rfl rfl rfl rfl (by simp[LS.say,LS.bV,LS.pop,upd]) (by omega) (λb e=>by cases e) (az _);exact⟨g,fin g ⟨t,h4,.inr ⟨w,h7,h8,.inr ⟨h9,KV,Rg,sk,.inr ⟨k,Jd,Rf,.inr (.inr ⟨J,K,F⟩)⟩⟩⟩⟩⟩
       .obtain⟨g,F⟩:=go ((L.pop i).bV t w) (k+1) none Ow rfl rfl rfl rfl rfl (by simp[LS.bV,LS.pop,upd]) (by omega) (λb e=>by cases e) (az _);exact⟨g,fin g ⟨t,h4,.inr ⟨w,h7,h8,.inr ⟨h9,KV,Rg,sk,.inr ⟨k,Jd,Rf,.inl ⟨K,J,F⟩⟩⟩⟩⟩⟩
    .have s:∀t,t<V.nc->E t≠some i:=λt W e=>x ⟨t,W,e⟩;obtain⟨g,F⟩:=ih none (L.pop i) X D E (I.off f ho s) (by simp);obtain⟨t,h4,N,h6⟩:=I.pd i f ho;rcases h6 with h6|⟨h6,w,h7,h8,h9⟩
     .simp_all
     .exact⟨g,rZ,by rw[af Y];grind⟩
  |some (t,k,B)=>
   obtain⟨W,M,XY⟩:=C t k B rfl;have I:uW V (m+1) L X D E (some t):=I;have hs:=I.Ua W;have K:(L.tk t).c.toNat=t:=by rw[hs.tc];omega
   have fin:∀g,(match L.step V t k B with
    |(a,none)=>Fin V g (m+1) none a
    |(a,some (r,P))=>Fin V g (m+1) (some (t,r,P)) a)->Fin V g (m+1+1) (some (t,k,B)) L:=λg F=>⟨hs,M.kl,λb S=>⟨⟨by have:=(M.b b S).1;omega,(M.b b S).2⟩,λh0=>M.a (k-1) (by omega)⟩,F⟩
   have go:∀(a:LS)(r:Nat)(P:Option Bk),L.step V t k B=(a,some (r,P))->uX V t L a->(a.now=L.now/\a.al=L.al/\a.ag=L.ag/\a.wl=L.wl/\a.wt=L.wt)->Lc V m a t r P->jo V (a.tk t).a r P+2<jo V (L.tk t).a k B->∃g,Fin V g (m+1+1) (some (t,k,B)) L:=by
    intro a r P e O ⟨n1,n2,n3,n4,n5⟩ l c;obtain⟨g,F⟩:=ih (some (t,r,P)) a X _ E (I.mv (v:=jo V (a.tk t).a r P) (cur:=some t) W O n1 n2 n3 n4 n5 (by omega) (λu h=>by cases h;rfl)) (by
     rintro _ _ _ ⟨⟩;exact⟨W,l,by simp[upd]⟩)
    exact⟨g,fin g (by simp_all)⟩
   have cB:∀(a:LS)(d l:Int)(b:Bk),L.step V t k B=(a,none)->uX V t L a->(a.now=L.now/\a.al=L.al+1/\a.ag=upd L.ag L.al ⟨L.now+d,t,L.wl,1,false⟩/\a.wl=L.wl+1/\a.wt=upd L.wt L.wl ⟨t,l,false,false,b⟩)->(0<=d/\d<=10000)->((l=V.nl/\∃y ch,b.ch=y::ch/\Lc V m a t V.nl (some ⟨b.k,b.n,ch⟩)/\jo V (a.tk t).a V.nl (some ⟨b.k,b.n,ch⟩)+2<jo V (L.tk t).a k B)\/∃r:Nat,r<V.nl/\l=r/\((V.ly r).k=5\/(V.ly r).k=1)/\Lc V m a t (r+1) none/\jo V (a.tk t).a (r+1) none+2<jo V (L.tk t).a k B)->∃g,Fin V g (m+1+1) (some (t,k,B)) L:=by
    intro a d l b e O ⟨n1,n2,n3,n4,n5⟩ c hE;have Y:=I.now;obtain⟨v,d,c⟩:∃v,v+1<D t/\((l=V.nl/\∃y ch,b.ch=y::ch/\Lc V m a t V.nl (some ⟨b.k,b.n,ch⟩)/\jo V (a.tk t).a V.nl (some ⟨b.k,b.n,ch⟩)<=v)\/∃r:Nat,r<V.nl/\l=r/\((V.ly r).k=5\/(V.ly r).k=1)/\Lc V m a t (r+1) none/\jo V (a.tk t).a (r+1) none<=v):=by
     rcases hE with ⟨f,y,ch,h2,h3,h4⟩|⟨r,f,h2,h3,h4,N⟩
     .exact⟨_,by omega,.inl ⟨f,y,ch,h2,h3,az _⟩⟩
     .exact⟨_,by omega,.inr ⟨r,f,h2,h3,h4,az _⟩⟩
    obtain⟨g,F⟩:=ih none a (X+10000) _ _ (I.pk W O n1 n2 n3 n4 n5 (by omega) d c) (by simp);grind
   have hm:m<900000:=by have:=I.el;omega
   have c:=I.us t W;have err:∀(q n:Int)(j:Nat),Sw m (c9 q j n):=λq n j=>⟨by simp[c9];omega,by simp[c9],.inr (.inl ⟨rfl,rfl,by simp[c9]⟩)⟩
   have say:∀(l q n:Int),uX V t L (L.say t l q n):=λl q n=>⟨rfl,by simp[LS.say],λ_ _=>rfl,⟨rfl,rfl,rfl,rfl⟩,λ_ _=>rfl,by simp[LS.say];omega,λ_ _ _ h=>h.less⟩
   match B with
   |none=>
    by_cases G:k=V.nl
    .subst G;have c:=Ke hV W (L.us t).toNat;have S:=Pc (aU V t (L.us t).toNat) m hm;by_cases h0:(aU V t (L.us t).toNat).t=0
     .exact go (((({L with us:=upd L.us t (L.us t+1)}:LS).say t (-1) 1 (L.us t))).say t (-1) 2 (L.us t)) V.nl (some (cN (aU V t (L.us t).toNat))) (by simp only[LS.step,K,if_true,h0]) ⟨rfl,by simp[LS.say],λ_ _=>rfl,⟨rfl,rfl,rfl,rfl⟩,λj A=>af A,by simp[LS.say,upd];omega,λ_ _ _ h=>h.less⟩ ⟨rfl,rfl,rfl,rfl,rfl⟩ ⟨az _,λj A=>M.a j A,λb e=>by grind⟩ mw
     .refine cB {(({L with us:=upd L.us t (L.us t+1)}:LS).say t (-1) 1 (L.us t)).wait t V.nl (aU V t (L.us t).toNat).t with wt:=upd ((({L with us:=upd L.us t (L.us t+1)}:LS).say t (-1) 1 (L.us t)).wait t V.nl (aU V t (L.us t).toNat).t).wt L.wl {((({L with us:=upd L.us t (L.us t+1)}:LS).say t (-1) 1 (L.us t)).wait t V.nl (aU V t (L.us t).toNat).t).wt L.wl with b:=⟨(cN (aU V t (L.us t).toNat)).k,(cN (aU V t (L.us t).toNat)).n,⟨0,0,L.us t⟩::(cN (aU V t (L.us t).toNat)).ch⟩}} (aU V t (L.us t).toNat).t V.nl ⟨(cN (aU V t (L.us t).toNat)).k,(cN (aU V t (L.us t).toNat)).n,⟨0,0,L.us t⟩::(cN (aU V t (L.us t).toNat)).ch⟩ (by simp only[LS.step,K,if_true,af h0];rfl) ⟨rfl,by simp[LS.say,LS.wait,LS.cB,LS.put],λj A=>by simp[LS.say,LS.wait,LS.cB,LS.put,upd,A],by simp[LS.say,LS.wait,LS.cB,LS.put,upd],λj A=>af A,by simp[LS.say,LS.wait,LS.cB,LS.put,upd];omega,λ_ _ _ h=>h.rW rfl λu=>by simp only[LS.say,LS.wait,LS.cB,LS.put,upd];grind⟩ ⟨rfl,rfl,rfl,rfl,?_⟩ (by omega) (.inl ⟨rfl,_,_,rfl,⟨az _,λj A=>?_,λb e=>by cases e;exact S⟩,?_⟩)
      .funext j;simp only[LS.say,LS.wait,LS.cB,LS.put,upd];split<;>rfl
      .have:=M.a j A;simpa [Oy,LS.say,LS.wait,LS.cB,LS.put,upd]using this
      .have:=mw (V:=V) (a:=(L.tk t).a) (k:=V.nl) (b:=⟨(cN (aU V t (L.us t).toNat)).k,(cN (aU V t (L.us t).toNat)).n,(cN (aU V t (L.us t).toNat)).ch⟩);simpa [LS.say,LS.wait,LS.cB,LS.put,upd]using this
    .have o:k<V.nl:=by have:=M.kl;omega
     have Z:¬(V.ly k).k=1->∀(a:LS),(a.tk t).a=(L.tk t).a->Lc V m a t (k+1) none:=λf a e=>⟨by omega,λj A h=>by
      rw[e];by_cases z:j=k
      .grind
      .exact M.a j (by omega) h,λb e=>by cases e⟩
     have U:∀(a:LS),(a.tk t).a=(L.tk t).a->Lc V m a t k (some (c9 3 k 0)):=λa e=>⟨M.kl,λj A h=>by rw[e];exact M.a j A h,λb z=>by grind⟩
     rcases hV.kd k o with f|f|f|f|f
     .have hr:=hV.rt k o f;refine go {L with tk:=upd L.tk t {L.tk t with a:=upd (L.tk t).a k 1}} (k+1) none (by simp only[LS.step,af G,ah f]) ⟨rfl,by simp,λj A=>af A,by simp[upd],λ_ _=>rfl,by grind,λ_ _ _ h=>h.rW rfl λu=>by simp only[upd];grind⟩ ⟨rfl,rfl,rfl,rfl,rfl⟩ ⟨by omega,λj A=>?_,λb e=>by cases e⟩ (by
       have e:(({L with tk:=upd L.tk t {L.tk t with a:=upd (L.tk t).a k 1}}:LS).tk t).a=upd (L.tk t).a k 1:=by simp[upd]
       rw[e];exact RJ o f hr.1)
      by_cases e:j=k
      .subst e;intro _;simp[upd];exact hr.1.1
      .have:=M.a j (by omega);simpa [Oy,upd,e]using this
     .exact go L (k+1) none (by simp only[LS.step,af G,f];rfl) uX.bY ⟨rfl,rfl,rfl,rfl,rfl⟩ (Z (by omega) L rfl) (yy o (by omega))
     .have x:L.step V t k none=L.jg (V.ly k) t k:=by simp only[LS.step,af G,f];rfl
      by_cases K:(L.gt k).sm=true/\(L.gt k).nx-L.now>((V.ly k).b-1)*(V.ly k).a
      .exact go (L.say t k 7 0) k (some (c9 3 k 0)) (by rw[x,LS.jg,ah K];rfl) (say _ _ _) ⟨rfl,rfl,rfl,rfl,rfl⟩ (U _ rfl) mw
      .refine go ((L.aO k {L.gt k with sm:=true,nx:=(if(L.gt k).sm=false\/(L.gt k).nx<L.now then L.now else(L.gt k).nx)+(V.ly k).a}).say t k 6 0) (k+1) none (by rw[x,LS.jg,af K]) ⟨rfl,by simp[LS.say,LS.aO],λ_ _=>rfl,⟨rfl,rfl,rfl,rfl⟩,λ_ _=>rfl,by simp[LS.say,LS.aO];omega,λX m Y h=>?_⟩ ⟨rfl,rfl,rfl,rfl,rfl⟩ (Z (by omega) _ rfl) (yy o (by omega));refine(fq.set (k:=k) (g:={L.gt k with sm:=true,nx:=(if(L.gt k).sm=false\/(L.gt k).nx<L.now then L.now else(L.gt k).nx)+(V.ly k).a}) h (λh3=>?_) (.inr ⟨rfl,rfl⟩):fq V (L.aO k _) X m);have H:=h.g k o (by omega);have hy:=hV.ra k o f;exact⟨Ik hy Y H.nx H.sm K,(λz=>by cases z),H.st,by have:=H.pd;grind,H.si,by have:=H.pr;grind,by have:=H.tn;grind⟩
     .have x:L.step V t k none=L.pass (V.ly k) t k:=by simp only[LS.step,af G,f];rfl
      have hy:=hV.br k o f;by_cases K:(L.gt k).st=1/\L.now-(L.gt k).si<(V.ly k).d
      .exact go (L.say t k 7 0) k (some (c9 3 k 0)) (by rw[x,LS.pass,ah K];rfl) (say _ _ _) ⟨rfl,rfl,rfl,rfl,rfl⟩ (U _ rfl) mw
      .have c:=F4 (V:=V) (L:=L) t o hy.2.2.2.2;by_cases d:((L.aM t k).gt k).st=2/\((L.aM t k).gt k).pr=(V.ly k).e
       .refine go ((L.aM t k).say t k 7 0) k (some (c9 3 k 0)) (by rw[x,LS.pass,af K,ah d];rfl) ⟨c.tl,by have:=c.el;simp only[LS.say];omega,λj _=>by simp only[LS.say];rw[c.tk],by simp only[LS.say];rw[c.tk];simp,λj _=>by simp only[LS.say];rw[c.us],by simp only[LS.say];rw[c.us];omega,c.gt⟩ ⟨c.now,c.al,c.ag,c.wl,c.wt⟩ (U _ (by simp only[LS.say];rw[c.tk])) ?_;simp only[LS.say];rw[c.tk];exact mw
       .have R:=EZ (V:=V) (L:=L) t o hy.2.2.2.2 c;refine go ((((L.aM t k).cz k).mark t k).say t k 8 0) (k+1) none (by rw[x,LS.pass,af K,af d]) ⟨R.tl,by have:=R.el;simp only[LS.say,LS.mark];omega,λj A=>by simp only[LS.say,LS.mark,upd,af A];rw[R.tk],by simp only[LS.say,LS.mark,upd,if_true];rw[R.tk];simp,λj _=>by simp only[LS.say,LS.mark];rw[R.us],by simp only[LS.say,LS.mark];rw[R.us];omega,λX m Y h=>(R.gt X m Y h).mark F3⟩ ⟨R.now,R.al,R.ag,R.wl,R.wt⟩ (Z (by omega) _ (by simp only[LS.say,LS.mark,upd,if_true];rw[R.tk])) ?_;have e:((((((L.aM t k).cz k).mark t k).say t k 8 0).tk t).a)=(L.tk t).a:=by simp only[LS.say,LS.mark,upd,if_true];rw[R.tk]
        rw[e];exact yy o (by omega)
     .have x:L.step V t k none=L.take (V.ly k) t k:=by simp only[LS.step,af G,f];rfl
      have hy:=hV.ro k o f;by_cases K:(L.gt k).tn<(V.ly k).a
      .refine go ((L.aO k {L.gt k with tn:=(L.gt k).tn+1}).say t k 13 0) (k+1) none (by rw[x,LS.take,ah K]) ⟨rfl,by simp[LS.say,LS.aO],λ_ _=>rfl,⟨rfl,rfl,rfl,rfl⟩,λ_ _=>rfl,by simp[LS.say,LS.aO];omega,λX m Y h=>?_⟩ ⟨rfl,rfl,rfl,rfl,rfl⟩ (Z (by omega) _ rfl) (yy o (by omega));refine(fq.set (k:=k) (g:={L.gt k with tn:=(L.gt k).tn+1}) h (λh3=>?_) (.inr ⟨rfl,rfl⟩):fq V (L.aO k _) X m);have H:=h.g k o (by omega);exact⟨H.nx,H.sm,H.st,by have:=H.pd;grind,H.si,by have:=H.pr;grind,by have:=H.tn;grind⟩
      .by_cases h0:(V.ly k).b=0
       .exact go (L.say t k 7 0) k (some (c9 3 k 0)) (by rw[x,LS.take,af K,ah h0];rfl) (say _ _ _) ⟨rfl,rfl,rfl,rfl,rfl⟩ (U _ rfl) mw
       .refine cB ((L.say t k 12 0).wait t k (V.ly k).b) (V.ly k).b k ⟨0,0,[]⟩ (by rw[x,LS.take,af K,af h0]) ⟨rfl,by simp[LS.say,LS.wait,LS.cB,LS.put],λj A=>by simp[LS.say,LS.wait,LS.cB,LS.put,upd,A],by simp[LS.say,LS.wait,LS.cB,LS.put,upd],λ_ _=>rfl,by simp[LS.say,LS.wait,LS.cB,LS.put];omega,λ_ _ _ h=>h.rW rfl λu=>by simp only[LS.say,LS.wait,LS.cB,LS.put,upd];grind⟩ ⟨rfl,rfl,rfl,rfl,rfl⟩ (by omega) (.inr ⟨k,o,rfl,.inl f,Z (by omega) _ (by simp[LS.say,LS.wait,LS.cB,LS.put,upd]),?_⟩);have:=yy (V:=V) (a:=(L.tk t).a) o (by omega);simpa [LS.say,LS.wait,LS.cB,LS.put,upd]using this
   |some b=>
    have S:=M.b b rfl;have hcp:0<jo V (L.tk t).a k (some b):=by have:=Fo (V:=V) (a:=(L.tk t).a) k;unfold jo;omega
    by_cases G:k=0
    .subst G;obtain⟨g,F⟩:=ih none (L.end_ t b) X _ E (I.mv (v:=0) (cur:=none) W ⟨rfl,by simp[LS.end_],λj A=>af A,by simp[LS.end_,upd],λ_ _=>rfl,by simp[LS.end_];omega,λ_ _ _ h=>h.rW rfl λu=>by simp only[LS.end_,upd];grind⟩ rfl rfl rfl rfl rfl (c7 hcp XY) (λu h=>by cases h)) (by rintro _ _ _ ⟨⟩);exact⟨g,fin g (by simp only[LS.step,if_true];exact F)⟩
    .obtain⟨j,rfl⟩:∃j,k=j+1:=⟨k-1,by omega⟩
     have Q:j<V.nl:=by have:=M.kl;omega
     have lo:∀(a:LS),(a.tk t).a=(L.tk t).a->Lc V m a t j (some b):=λa e=>⟨by omega,λi hi h=>by rw[e];exact M.a i (by omega) h,λb' e=>by cases e;exact⟨by have:=S.1;omega,S.2⟩⟩
     rcases hV.kd j Q with f|f|f|f|f
     .have hr:=hV.rt j Q f;by_cases hq:b.k≠2\/cE b 2=true\/cE b 5=true
      .exact go L j (some b) (by simp only[LS.step,kT,gp,and_false,if_false,eM,ah f,ah hq]) uX.bY ⟨rfl,rfl,rfl,rfl,rfl⟩ (lo L rfl) jd
      .have c:b.k=2:=LL λh=>hq (.inl h);have KQ:b.n=0/\b.ch≠[]:=by
        rcases S.2.2 with h|h|h
        .omega
        .exact h.2
        .omega
       by_cases Y:(L.tk t).a j=(V.ly j).a
       .exact go (L.say t j 4 0) j (some ⟨2,0,⟨7,j,0⟩::b.ch⟩) (by simp only[LS.step,kT,gp,and_false,if_false,eM,ah f,af hq,ah Y]) (say _ _ _) ⟨rfl,rfl,rfl,rfl,rfl⟩ ⟨by omega,λi hi=>M.a i (by omega),λb' e=>by cases e;exact⟨by have:=S.1;simp;omega,Jr S.2.1 KQ.2,.inr (.inl ⟨rfl,rfl,by simp⟩)⟩⟩ jd
       .have c:=M.a j (by omega) f;have R:=AW (V.ly j) ((L.tk t).a j) hr.2.2.2;have I8:=RL (V:=V) (a:=(L.tk t).a) (j:=j) (b:=b) f (by omega);have TC:∀(a:LS),(a.tk t).a=upd (L.tk t).a j ((L.tk t).a j+1)->Lc V m a t (j+1) none:=λa e=>⟨by omega,λi hi h=>by
         rw[e];by_cases e:i=j
         .subst e;simp[upd];omega
         .have:=M.a i hi h;simpa [upd,e]using this,λb e=>by cases e⟩
        by_cases a:aI (V.ly j) ((L.tk t).a j)>0
        .have e:∀p,(((LS.wait {L.say t j 3 p with tk:=upd L.tk t {L.tk t with a:=upd (L.tk t).a j ((L.tk t).a j+1)}} t j p).tk t).a)=upd (L.tk t).a j ((L.tk t).a j+1):=λp=>by simp[LS.say,LS.wait,LS.cB,LS.put,upd]
         refine cB (LS.wait {L.say t j 3 (aI (V.ly j) ((L.tk t).a j))with tk:=upd L.tk t {L.tk t with a:=upd (L.tk t).a j ((L.tk t).a j+1)}} t j (aI (V.ly j) ((L.tk t).a j))) (aI (V.ly j) ((L.tk t).a j)) j ⟨0,0,[]⟩ (by simp only[LS.step,kT,gp,and_false,if_false,eM,ah f,af hq,af Y,ah a];rfl) ⟨rfl,by simp[LS.say,LS.wait,LS.cB,LS.put],λi hi=>by simp[LS.say,LS.wait,LS.cB,LS.put,upd,hi],by simp[LS.say,LS.wait,LS.cB,LS.put,upd],λ_ _=>rfl,by simp[LS.say,LS.wait,LS.cB,LS.put];omega,λ_ _ _ h=>h.rW rfl λu=>by simp only[LS.say,LS.wait,LS.cB,LS.put,upd];grind⟩ ⟨rfl,rfl,rfl,rfl,rfl⟩ (by omega) (.inr ⟨j,Q,rfl,.inr f,TC _ (e _),by rw[e];exact I8⟩)
        .have e:(({L.say t j 3 (aI (V.ly j) ((L.tk t).a j))with tk:=upd L.tk t {L.tk t with a:=upd (L.tk t).a j ((L.tk t).a j+1)}}:LS).tk t).a=upd (L.tk t).a j ((L.tk t).a j+1):=by simp[LS.say,upd]
         exact go {L.say t j 3 (aI (V.ly j) ((L.tk t).a j))with tk:=upd L.tk t {L.tk t with a:=upd (L.tk t).a j ((L.tk t).a j+1)}} (j+1) none (by simp only[LS.step,kT,gp,and_false,if_false,eM,ah f,af hq,af Y,af a];rfl) ⟨rfl,by simp[LS.say],λi hi=>af hi,by simp[LS.say,upd],λ_ _=>rfl,by simp[LS.say];omega,λ_ _ _ h=>h.rW rfl λu=>by simp only[LS.say,upd];grind⟩ ⟨rfl,rfl,rfl,rfl,rfl⟩ (TC _ e) (by rw[e];exact I8)
     .by_cases KQ:b.k=3
      .exact go (L.say t j 5 b.n) j (some (c9 6 j b.n)) (by simp only[LS.step,kT,gp,and_false,if_false,eM,f,KQ];simp) (say _ _ _) ⟨rfl,rfl,rfl,rfl,rfl⟩ ⟨by omega,λi hi=>M.a i (by omega),λb' e=>by grind⟩ jd
      .exact go L j (some b) (by simp only[LS.step,kT,gp,and_false,if_false,eM,f,KQ];simp) uX.bY ⟨rfl,rfl,rfl,rfl,rfl⟩ (lo L rfl) jd
     .exact go L j (some b) (by simp only[LS.step,kT,gp,and_false,if_false,eM,f];simp) uX.bY ⟨rfl,rfl,rfl,rfl,rfl⟩ (lo L rfl) jd
     .have G:=GJ (V:=V) (L:=L) (t:=t) b Q (λz=>hs.q j Q f z) (hV.br j Q f);exact go (L.count (V.ly j) t j b) j (some b) (by simp only[LS.step,kT,gp,and_false,if_false,eM,f];simp) ⟨G.tl,by have:=G.el;omega,λi _=>by rw[G.tk],by rw[G.tk];simp,λi _=>by rw[G.us],by rw[G.us];omega,G.gt⟩ ⟨G.now,G.al,G.ag,G.wl,G.wt⟩ (lo _ (by rw[G.tk])) (by rw[G.tk];exact jd)
     .have H:∀(X:Int)(m:Nat),fq V L X (m+1)->fq V (L.aO j {L.gt j with tn:=(L.gt j).tn-1}) X m:=λX m h=>fq.set h (λh3=>by
       have H:=h.g j Q (by omega);exact⟨H.nx,H.sm,H.st,by have:=H.pd;grind,H.si,by have:=H.pr;grind,by have:=H.tn;grind⟩) (.inr ⟨rfl,rfl⟩)
      have e0:L.step V t (j+1) (some b)=(L.fC t j,some (j,some b)):=by simp only[LS.step,kT,gp,and_false,if_false,eM,f];simp
      have cb:=jd (V:=V) (a:=(L.tk t).a) (j:=j) (b:=b) (b':=b);cases hw:tJ L.wt j L.wl with
      |none=>exact go ((L.say t j 14 0).aO j {L.gt j with tn:=(L.gt j).tn-1}) j (some b) (by rw[e0,LS.fC,hw]) ⟨rfl,by simp[LS.say,LS.aO],λ_ _=>rfl,⟨rfl,rfl,rfl,rfl⟩,λ_ _=>rfl,by simp[LS.say,LS.aO];omega,λX m _ h=>H X m h⟩ ⟨rfl,rfl,rfl,rfl,rfl⟩ (lo _ rfl) cb
      |some w=>
       obtain⟨a1,a2,a3,a4⟩:=Kz hw;have I:uW V (m+1) L X D E (some t):=I;have I1:=I.mv (v:=jo V (L.tk t).a j (some b)) (cur:=some t) W (say j 14 0) rfl rfl rfl rfl rfl (by omega) (λu h=>by cases h;rfl);have hsm:=l5 D t (jo V (L.tk t).a j (some b)) V.nc;have h2:=I.sm;simp only[W,if_true]at hsm;have h3:opn (L.say t j 14 0)=opn L:=rfl;obtain⟨a,I2⟩:=I1.dg (w:=w) (k:=j) a1 Q f a2 a3 a4 (by have:=I.al;simp only[LS.say];omega) (by omega);obtain⟨g,F⟩:=ih (some (t,j,some b)) _ X _ a I2 (by
        rintro _ _ _ ⟨⟩;exact⟨W,lo _ rfl,by simp[upd,LS.dg,LS.put,LS.say]⟩)
       exact⟨g,fin g (by rw[e0,LS.fC,hw];exact F)⟩
theorem Eu(f:bU)(c:Nat):∀n,(∀t,t<n->f t<=c)->wG f n<=n*c
 |0,_=>by simp[wG]
 |n+1,h=>by
  have a:=Eu f c n λt a=>h t (by omega);have a:=h n (by omega);have:(n+1)*c=n*c+c:=Nat.succ_mul n c;simp only[wG];omega
theorem Rr{V:Ev0}(b:wM V){L:LS}(now:L.now=0)(f:L.al=V.nc)(d:∀i,i<V.nc->(L.ag i).a=V.st i/\(L.ag i).t=(i:Int)/\(L.ag i).c=0/\(L.ag i).o=false)(us:∀i,L.us i=0)(el:L.el=0)(f:L.wl=0)(g:L.tl=V.nc)(j:∀t:Nat,t<V.nc->(L.tk t).c=t/\(L.tk t).f=-1/\(L.tk t).o=-1/\(L.tk t).x=false)(gt:∀k,L.gt k=⟨false,0,0,0,0,[],0,0⟩)(f:∀t k,(L.tk t).q k=0):∃m f,Fin V f m none L:=by
 have l:=b.nc;have m:cI V V.nl<=4500:=by
  obtain⟨r,a,_,_,m⟩:=Le (V:=V) V.nl (az _);have:=b.nl;have:=b.r2;omega
 obtain⟨f,F⟩:=NQ b 45000 none L 1000 (λt=>jo V (L.tk t).a 0 none+1) (λt=>if t<V.nc then some t else none)
  {tl:=g,el:=by omega,wl:=by omega,al:=by omega,now:=by omega,x:=by omega,tk:=j,
   us:=λt _=>by simp_all,
   ta:=λi g f=>by
    have a:=d i (by omega);have m:=b.st i (by omega);omega
   pd:=λi g f=>⟨i,by omega,(d i (by omega)).2.1,.inl (ah (by omega))⟩
   lv:=λt i c e=>by
    rw[ah c]at e;cases e;have a:=d t c;exact⟨by omega,a.2.2.2,a.2.1,.inl ⟨a.2.2.1,by simp⟩⟩
   wa:=λw d=>by omega
   cu:=λt h=>by cases h
   sm:=by
    have:=Eu (λt=>jo V (L.tk t).a 0 none+1) 4502 V.nc (λt c=>by
     simp only[jo,oC,Al];omega)
    have:V.nc*4502<=9*4502:=B9 _ l;have:opn L<=L.al*1:=Eu _ 1 L.al λi _=>by simp_all
    omega
   gt:=⟨λk c d=>by
    rw[gt];refine⟨by simp,λ_=>rfl,.inl ⟨rfl,?_⟩,by simp,by simp,by simp,by simp⟩;rcases b.kd k c with a|a|a|a|a
    .omega
    .omega
    .have:=b.ra k c a;simp;omega
    .have:=b.br k c a;simp;omega
    .have:=b.ro k c a;simp;omega,λt k _ _ _=>by simp_all⟩} (by simp)
 grind
def HW(V:Ev0)(t:Nat)(L:LS):Bool:=decide (L.tl=V.nc)&&decide (t<V.nc)&&decide (L.el<1000000)&&decide (L.wl<1000000)&&decide (L.al<1000000)&&decide (0<=L.now)&&decide (L.now<1000000000000)&&decide ((L.tk t).c=t)&&decide ((L.tk t).f=-1)&&decide ((L.tk t).o=-1)&&!(L.tk t).x&&decide (0<=L.us t)&&decide (L.us t<1000000)&&(List.range V.nl).all λk=>decide ((V.ly k).k<3)
theorem vq{V:Ev0}{L:LS}(h:HW V t L=true):qm V t L:=by
 simp only[HW,bZ,decide_eq_true_eq,mA]at h;obtain⟨⟨⟨⟨⟨⟨⟨⟨⟨⟨⟨⟨⟨r,q⟩,p⟩,o⟩,n⟩,m⟩,l⟩,j⟩,i⟩,g⟩,f⟩,e⟩,d⟩,c⟩:=h;have b:∀k,k<V.nl->(V.ly k).k<3:=λk a=>by simpa using eZ.1 c k (aZ.2 a)
 exact⟨r,q,p,o,n,⟨m,l⟩,j,i,g,f,⟨e,d⟩,λk a h=>by have:=b k a;omega,λk a h=>by have:=b k a;omega⟩
def Oe(b:Bk):Bool:=decide (b.ch.length<1000000)&&b.ch.dropLast.all (λx=>decide (x.k=7))&&((decide (b.k=1)&&b.ch.isEmpty)||(decide (b.k=2)&&decide (b.n=0)&&!b.ch.isEmpty)||(decide (b.k=3)&&b.ch.isEmpty))
theorem JE{b:Bk}(h:Oe b=true):G5 b:=by
 simp only[Oe,bZ,Ar,decide_eq_true_eq,mA,List.isEmpty_iff]at h;refine⟨h.1.1,λx a=>by simpa using eZ.1 h.1.2 x a,?_⟩;rcases h.2 with (z|z)|z
 .exact .inl z
 .exact .inr (.inl ⟨z.1.1,z.1.2,λe=>by rw[e]at z;cases z.2⟩)
 .exact .inr (.inr z)
def On(V:Ev0)(L:LS)(t k:Nat):Bool:=!decide ((V.ly k).k=1)||(decide (1<=(L.tk t).a k)&&decide ((L.tk t).a k<=(V.ly k).a))
theorem JN{V:Ev0}{L:LS}(h:On V L t k=true):Oy V L t k:=λa=>by
 simp only[On,Ar,bZ,mA,decide_eq_true_eq,decide_eq_false_iff_not]at h;rcases h with z|z
 .exact absurd a z
 .exact z
def ot(V:Ev0):Nat->Option (Nat×Nat×Option Bk)->LS->Option LS
 |0,_,_=>none
 |m+1,some (t,k,ob),L=>if HW V t L=true/\k<=V.nl/\(∀b,ob=some b->Oe b=true/\(0<k->On V L t (k-1)=true))then(match L.step V t k ob with
  |(L',none)=>ot V m none L'
  |(L',some (k',PE))=>ot V m (some (t,k',PE)) L')else none
 |m+1,none,L=>if L.al<1000000 then(if cj L.ag L.al<0 then some L else
  let i:=(cj L.ag L.al).toNat
  let e:=L.ag i
  let t:=e.t.toNat
  if e.t=t/\HW V t (L.pop i)=true then
   (if e.c=0 then ot V m (some (t,0,none)) (L.pop i)
    else if e.c=1 then
     let w:=e.w.toNat
     if e.w=w/\w<L.wl/\(L.wt w).t=t/\(L.wt w).x=false/\(L.wt w).e=false then
      (if(L.wt w).l=V.nl then(match (L.wt w).b.ch with
        |[]=>none
        |y::ch=>ot V m (some (t,V.nl,some ⟨(L.wt w).b.k,(L.wt w).b.n,ch⟩)) (((L.pop i).bV t w).say t (-1) 2 y.n))
       else
        let k:=(L.wt w).l.toNat
        if k<V.nl/\(V.ly k).k=1/\(L.wt w).l=k then ot V m (some (t,k+1,none)) ((L.pop i).bV t w)else none)
     else none
    else none)
  else none)else none
theorem kM{V:Ev0}{q:LS}:∀(m:Nat)(e:Option (Nat×Nat×Option Bk))(L:LS),ot V m e L=some q->Fin V q m e L
 |0,_,_,h=>by cases h
 |m+1,some (t,k,s),L,h=>by
  unfold ot at h;split at h
  .rename_i a;refine⟨vq a.1,a.2.1,λb n=>⟨JE (a.2.2 b n).1,λl=>JN ((a.2.2 b n).2 l)⟩,?_⟩;cases u:L.step V t k s with
   |mk r o=>
    rw[u]at h;cases o with
    |none=>exact kM m none r h
    |some p=>exact kM m (some (t,p.1,p.2)) r h
  .cases h
 |m+1,none,L,h=>by
  unfold ot at h;split at h
  .rename_i i;refine⟨i,?_⟩;split at h
   .rename_i f;rw[ah f];exact Option.some.inj h
   .rename_i f;rw[af f];simp only at h ⊢;split at h
    .rename_i a;refine⟨_,a.1,?_⟩;split at h
     .rename_i l;exact .inl ⟨l,vq a.2,kM m _ _ h⟩
     .split at h
      .rename_i j;split at h
       .rename_i c;refine .inr ⟨_,c.1,c.2.1,.inr ⟨c.2.2.1,c.2.2.2.2,.inl ⟨j,c.2.2.2.1⟩,vq a.2,?_⟩⟩;split at h
        .rename_i v;cases d:(L.wt (L.ag (cj L.ag L.al).toNat).w.toNat).b.ch with
         |nil=>rw[d]at h;cases h
         |cons y ch=>rw[d]at h;exact .inl ⟨j,v,y,ch,rfl,kM m _ _ h⟩
        .split at h
         .rename_i g;exact .inr ⟨_,g.1,g.2.2,.inl ⟨j,g.2.1,kM m _ _ h⟩⟩
         .cases h
       .cases h
      .cases h
    .cases h
  .cases h
end Go.Proofs.YtobagnjnbmgidaaGreatDoor
