import Derived.Test.YtobagnjnbmgidabGreatDoorE33
set_option linter.all false
set_option maxHeartbeats 0
set_option maxRecDepth 100000
namespace Go.Proofs.YtobagnjnbmgidabGreatDoor
open Go.Conc Go.RowKit Tryz
variable{cb:Bool}{d ly num tc:Int}{T Q i j k lb m n aS x:Nat}{b r:aH}{A C M O R X Y:aW}{w w':aj}{c cf:aC}{en v wi:ay}{q:aN}{es:jl}{cs:cO}{S:iO}
variable{main:Bool}{B t:Nat}{Ok:dh}{Ψ:gi}{I:Type}
structure iN where
 k:Int
 l:Int
 n:Int
structure Bk where
 k:Int
 n:Int
 ch:List iN
structure qy where
 a:Int
 t:Int
 w:Int
 c:Int
 o:Bool
structure Ot where
 c:Int
 f:Int
 p:Nat
 o:Int
 x:Bool
 e:Bool
 w:Int
 a:Nat->Int
 q:Nat->Int
structure tU where
 t:Int
 l:Int
 x:Bool
 e:Bool
 b:Bk
 z:Int
 i:Nat
structure Se where
 a:Int
 b:Bk
structure OZ where
 a:Int
 c:Int
 l:Int
 w:Int
 n:Int
structure ju where
 k:Int
 a:Int
 b:Int
 c:Int
 d:Int
 e:Int
structure Lm where
 k:Int
 n:Int
 t:Int
structure Ev0 where
 nl:Nat
 ly:Nat->ju
 nc:Nat
 st:Nat->Int
 nt:Nat->Nat
 tr:Nat->Nat->Lm
structure Gt where
 sm:Bool
 nx:Int
 st:Int
 pd:Int
 si:Int
 la:List Bool
 pr:Int
 tn:Int
structure LS where
 now:Int
 al:Nat
 ag:Nat->qy
 tl:Nat
 tk:Nat->Ot
 wl:Nat
 wt:Nat->tU
 us:Nat->Int
 ou:Nat->Se
 el:Nat
 ev:Nat->OZ
 gt:Nat->Gt
def LS.say(L:LS)(t:Nat)(l q n:Int):LS:={L with el:=L.el+1,ev:=upd L.ev L.el ⟨L.now,(L.tk t).c,l,q,n⟩}
def LS.put(L:LS)(e:qy):LS:={L with al:=L.al+1,ag:=upd L.ag L.al e}
def LS.cB(L:LS)(t:Nat)(l:Int)(cb:Bool):LS:={L with wl:=L.wl+1,wt:=upd L.wt L.wl ⟨t,l,false,false,⟨0,0,[]⟩,0,0⟩,tk:=upd L.tk t {L.tk t with w:=L.wl,o:=if cb=true then(L.wl:Int)else(L.tk t).o}}
def LS.wait(L:LS)(t:Nat)(l d:Int)(cb:Bool):LS:=(L.cB t l cb).put ⟨L.now+d,t,L.wl,1,false⟩
def LS.fix(L:LS)(w:Nat)(z:Int)(b:Bk):LS:=LS.put {L with wt:=upd L.wt w {L.wt w with x:=true,z:=z,b:=b}} ⟨L.now,(L.wt w).t,w,z,false⟩
def LS.qA(L:LS)(w:Nat)(z:Int)(b:Bk):LS:=if(L.wt w).x=false/\(L.wt w).e=false then L.fix w z b else L
def LS.done(L:LS)(t:Nat):LS:={L with tk:=upd L.tk t {L.tk t with e:=true}}
def LS.end_(L:LS)(t:Nat)(b:Bk):LS:=if(L.tk t).p=0 then LS.done {L with ou:=upd L.ou (L.tk t).c.toNat ⟨L.now,b⟩} t else(L.qA (L.tk t).f.toNat 2 b).done t
def LS.begin(L:LS)(t w k:Nat):LS:=LS.put {L with tl:=L.tl+1,tk:=upd L.tk L.tl ⟨(L.tk t).c,w,k+1,-1,false,false,-1,λ_=>0,λ_=>0⟩,wt:=upd L.wt w {L.wt w with i:=L.tl}} ⟨L.now,L.tl,0,0,false⟩
def LS.iC(L:LS)(j:Nat):LS:=if(L.tk j).e=true then L else{L with tk:=upd L.tk j {L.tk j with x:=true}}
def LS.jv(L:LS)(j:Nat):LS:=if(L.tk j).o<0 then L else L.qA (L.tk j).o.toNat 3 ⟨0,0,[]⟩
def LS.cancel(L:LS)(oL:aN):LS:=oL.foldl LS.jv (oL.foldl LS.iC L)
def c9(k l n:Int):Bk:=⟨2,0,[⟨k,l,n⟩]⟩
def cE(b:Bk)(k:Int):Bool:=b.ch.any λx=>x.k==k
def cN(x:Lm):Bk:=if x.k=2 then c9 1 (-1) x.n else if x.k=3 then c9 2 (-1) x.n else if x.k=4 then⟨3,x.n,[]⟩else⟨1,x.n,[]⟩
def aU(V:Ev0)(c:Nat)(n:Nat):Lm:=if n<V.nt c then V.tr c n else⟨1,0,0⟩
def dN(c d:Int):Nat->Int->Int
 |0,p=>p
 |m+1,p=>if p<=d then dN c d m (p*c)else p
def aI(y:ju)(n:Int):Int:=let p:=dN y.c y.d (n-1).toNat y.b;if p>y.d then y.d else p
def LS.aO(L:LS)(k:Nat)(g:Gt):LS:={L with gt:=upd L.gt k g}
def Gt.turn(g:Gt)(now st:Int):Gt:={g with st:=st,pd:=g.pd+1,si:=now,la:=[],pr:=0}
def dY(l:iy):Nat:=(l.filter id).length
def bq(b:Bk):Int:=match b.ch.getLast? with
 |some x=>x.k
 |none=>0
def LS.nV(t k:Nat)(L:LS):LS×Option (Nat×Option Bk):=(L.say t k 7 0,some (k,some (c9 3 k 0)))
def LS.jg(y:ju)(t k:Nat)(L:LS):LS×Option (Nat×Option Bk):=
 if(L.gt k).sm=true/\(L.gt k).nx-L.now>(y.b-1)*y.a then L.nV t k
 else((L.aO k {L.gt k with sm:=true,nx:=(if(L.gt k).sm=false\/(L.gt k).nx<L.now then L.now else(L.gt k).nx)+y.a}).say t k 6 0,some (k+1,none))
def LS.aM(t k:Nat)(L:LS):LS:=if(L.gt k).st=1 then(L.aO k ((L.gt k).turn L.now 2)).say t k 10 0 else L
def LS.cz(k:Nat)(L:LS):LS:=if(L.gt k).st=2 then L.aO k {L.gt k with pr:=(L.gt k).pr+1} else L
def LS.mark(t k:Nat)(L:LS):LS:={L with tk:=upd L.tk t {L.tk t with q:=upd (L.tk t).q k (L.gt k).pd}}
def LS.pass(y:ju)(t k:Nat)(L:LS):LS×Option (Nat×Option Bk):=
 if(L.gt k).st=1/\L.now-(L.gt k).si<y.d then L.nV t k
 else if((L.aM t k).gt k).st=2/\((L.aM t k).gt k).pr=y.e then(L.aM t k).nV t k
 else((((L.aM t k).cz k).mark t k).say t k 8 0,some (k+1,none))
def Gt.keep(y:ju)(g:Gt)(x:Bool):List Bool:=if g.st=0/\((g.la.length:Int)+1>y.a)then(g.la++[x]).tail else g.la++[x]
def over(y:ju)(l:iy):Bool:=decide (y.c*(l.length:Int)<=(dY l:Int)*100)
def LS.count(y:ju)(t j:Nat)(b:Bk)(L:LS):LS:=
 if(L.tk t).q j≠(L.gt j).pd then L
 else if bq b=3\/bq b=5 then L.aO j {L.gt j with pr:=if(L.gt j).st=2 then(L.gt j).pr-1 else(L.gt j).pr}
 else
  let g:Gt:={L.gt j with la:=(L.gt j).keep y (decide (b.k≠1))}
  if(g.st=0/\y.b<=g.la.length\/g.st=2/\(g.la.length:Int)=y.e)/\over y g.la=true then(L.aO j (g.turn L.now 1)).say t j 9 0
  else if g.st=2/\(g.la.length:Int)=y.e then(L.aO j (g.turn L.now 0)).say t j 11 0
  else L.aO j g
def LS.drop(t k:Nat)(L:LS):LS×Option (Nat×Option Bk):=(L.say t k 16 0,some (k,some (c9 5 k 0)))
def LS.take(y:ju)(t k:Nat)(L:LS):LS×Option (Nat×Option Bk):=
 if(L.gt k).tn<y.a then((L.aO k {L.gt k with tn:=(L.gt k).tn+1}).say t k 13 0,some (k+1,none))
 else if y.b=0 then L.nV t k
 else if(L.tk t).x=true then(L.say t k 12 0).drop t k
 else((L.say t k 12 0).wait t k y.b true,none)
def LS.uX(y:ju)(t k:Nat)(L:LS):LS×Option (Nat×Option Bk):=
 if(L.tk t).x=true then L.drop t k
 else((L.wait t k y.a true).begin t L.wl k,none)
def tJ(wt:Nat->tU)(k:Int):Nat->Option Nat
 |0=>none
 |i+1=>match tJ wt k i with
  |some w=>some w
  |none=>if(wt i).l=k/\(wt i).x=false/\(wt i).e=false then some i else none
abbrev LS.dg(L:LS)(w:Nat):LS:=L.fix w 2 ⟨0,0,[]⟩
def LS.fC(t k:Nat)(L:LS):LS:=match tJ L.wt k L.wl with
 |some w=>(L.say t k 14 0).dg w
 |none=>(L.say t k 14 0).aO k {L.gt k with tn:=(L.gt k).tn-1}
def LS.step(V:Ev0)(t k:Nat)(ob:Option Bk)(L:LS):LS×Option (Nat×Option Bk):=match ob with
 |none=>
  if k=V.nl then
   let c:=(L.tk t).c.toNat;let n:=L.us c;let L1:LS:={L with us:=upd L.us c (n+1)};let L2:=L1.say t (-1) 1 n;let x:=aU V c n.toNat
   if x.t=0 then(L2.say t (-1) 2 n,some (V.nl,some (cN x)))
   else
    let L3:=L2.wait t V.nl x.t false
    ({L3 with wt:=upd L3.wt L2.wl {L3.wt L2.wl with b:=⟨(cN x).k,(cN x).n,⟨0,0,n⟩::(cN x).ch⟩}},none)
  else if(V.ly k).k=1 then({L with tk:=upd L.tk t {L.tk t with a:=upd (L.tk t).a k 1}},some (k+1,none))
  else if(V.ly k).k=3 then L.jg (V.ly k) t k
  else if(V.ly k).k=4 then L.pass (V.ly k) t k
  else if(V.ly k).k=5 then L.take (V.ly k) t k
  else if(V.ly k).k=6 then L.uX (V.ly k) t k
  else(L,some (k+1,none))
 |some b=>
  if k=(L.tk t).p then(L.end_ t b,none)
  else
   let j:=k-1;let y:=V.ly j
   if y.k=1 then
    if b.k≠2\/cE b 2=true\/cE b 5=true then(L,some (j,some b))
    else
     let n:=(L.tk t).a j
     if n=y.a then(L.say t j 4 0,some (j,some ⟨2,0,⟨7,j,0⟩::b.ch⟩))
     else
      let p:=aI y n;let L1:=L.say t j 3 p;let L2:LS:={L1 with tk:=upd L1.tk t {L1.tk t with a:=upd (L1.tk t).a j (n+1)}}
      if(L.tk t).x=true then L2.drop t j else if p>0 then(L2.wait t j p true,none)else(L2,some (j+1,none))
   else if y.k=4 then(L.count y t j b,some (j,some b))
   else if y.k=5 then(L.fC t j,some (j,some b))
   else if y.k=2/\b.k=3 then(L.say t j 5 b.n,some (j,some (c9 6 j b.n)))
   else(L,some (j,some b))
def cj(ag:Nat->qy):Nat->Int
 |0=>-1
 |i+1=>if(ag i).o=false/\(cj ag i<0\/(ag i).a<(ag (cj ag i).toNat).a)then(i:Int)else cj ag i
def rS(a:Nat->qy):∀i,cj a i=-1\/∃k:Nat,k<i/\cj a i=k
 |0=>.inl rfl
 |i+1=>by
  unfold cj;split
  .grind
  .rcases rS a i with h|⟨k,a,a⟩
   .exact .inl h
   grind
def Ih(ly:Nat->ju):Nat->Nat
 |0=>0
 |n+1=>Ih ly n+if(ly n).k=1 then 1 else 0
structure Fv(y:ju)(g:Gt)(X:Int)(m:Nat):Prop where
 nx:0<=g.nx/\g.nx<=X+20000
 sm:g.sm=false->g.nx=0
 st:(g.st=0/\(g.la.length:Int)<=y.a)\/(g.st=1/\g.la=[])\/(g.st=2/\(g.la.length:Int)<y.e)
 pd:0<=g.pd/\g.pd+m<1000000
 si:0<=g.si/\g.si<=X
 pr:-1000000<g.pr-m/\g.pr+m<1000000
 tn:-1000000<g.tn-m/\g.tn+m<1000000
structure wM(V:Ev0):Prop where
 nl:V.nl<=6
 nc:V.nc<=9
 kd:∀k,k<V.nl->(V.ly k).k=1\/(V.ly k).k=2\/(V.ly k).k=3\/(V.ly k).k=4\/(V.ly k).k=5\/(V.ly k).k=6
 r2:Ih V.ly V.nl<=2
 ra:∀k,k<V.nl->(V.ly k).k=3->(1<=(V.ly k).a/\(V.ly k).a<=1000)/\(1<=(V.ly k).b/\(V.ly k).b<=20)
 br:∀k,k<V.nl->(V.ly k).k=4->(1<=(V.ly k).a/\(V.ly k).a<=20)/\(1<=(V.ly k).b/\(V.ly k).b<=(V.ly k).a)/\(1<=(V.ly k).c/\(V.ly k).c<=100)/\(0<=(V.ly k).d/\(V.ly k).d<=1000)/\(1<=(V.ly k).e/\(V.ly k).e<=9)
 ro:∀k,k<V.nl->(V.ly k).k=5->(1<=(V.ly k).a/\(V.ly k).a<=9)/\(0<=(V.ly k).b/\(V.ly k).b<=1000)
 li:∀k,k<V.nl->(V.ly k).k=6->1<=(V.ly k).a/\(V.ly k).a<=1000
 rt:∀k,k<V.nl->(V.ly k).k=1->(1<=(V.ly k).a/\(V.ly k).a<=9)/\(0<=(V.ly k).b/\(V.ly k).b<=1000)/\(1<=(V.ly k).c/\(V.ly k).c<=9)/\(0<=(V.ly k).d/\(V.ly k).d<=10000)
 st:∀c,c<V.nc->0<=V.st c/\V.st c<=1000
 nt:∀c,c<V.nc->V.nt c<=12
 tr:∀c,c<V.nc->∀j,j<V.nt c->(1<=(V.tr c j).k/\(V.tr c j).k<=4)/\(0<=(V.tr c j).t/\(V.tr c j).t<=1000)
structure qm(V:Ev0)(t:Nat)(L:LS):Prop where
 tl:L.tl<9990
 nc:V.nc<=L.tl
 tn:t<L.tl
 el:L.el<1000000
 wl:L.wl<1000000
 al:L.al<1000000
 now:0<=L.now/\L.now<1000000000000
 us:∀c,c<V.nc->0<=L.us c/\L.us c<1000000
 gt:∀k,k<V.nl->3<=(V.ly k).k->Fv (V.ly k) (L.gt k) 1000000000000 0
 q:∀k,k<V.nl->(V.ly k).k=4->(L.gt k).st=1->(L.tk t).q k≠(L.gt k).pd
 tf:∀w:Nat,(L.tk t).f=w->(L.wt w).x=true->(L.wt w).z=3
def G5(b:Bk):Prop:=b.ch.length<1000000/\(∀x∈b.ch.dropLast,x.k=7)/\((b.k=1/\b.ch=[])\/(b.k=2/\b.n=0/\b.ch≠[])\/(b.k=3/\b.ch=[]))
def Oy(V:Ev0)(L:LS)(t k:Nat):Prop:=(V.ly k).k=1->1<=(L.tk t).a k/\(L.tk t).a k<=(V.ly k).a
def LS.pop(L:LS)(i:Nat):LS:={L with ag:=upd L.ag i {L.ag i with o:=true},now:=(L.ag i).a}
def LS.bV(L:LS)(t w:Nat):LS:={L with wt:=upd L.wt w {L.wt w with e:=true},tk:=upd L.tk t {L.tk t with w:=-1}}
structure wu(V:Ev0)(L:LS)(r:p8)(oL:aN):Prop where
 nd:oL.Pairwise (·<·)
 mem:∀j∈oL,j<L.tl/\V.nc<=j
 ro:∃x∈oL,r x
 cl:∀x,V.nc<=x->x<L.tl->∀v j:Nat,(L.tk x).f=v->(L.wt v).t=j->j∈oL->x∈oL
 so:∀x∈oL,r x\/∃v j:Nat,(L.tk x).f=v/\(L.wt v).t=j/\j∈oL/\j<x
def wu.imp{V:Ev0}{L:LS}{r b:p8}{a:aN}(h:wu V L r a)(c:∀x,r x->b x):wu V L b a:=⟨h.nd,h.mem,h.ro.imp λx z=>⟨z.1,c x z.2⟩,h.cl,λx a=>(h.so x a).imp (c x) id⟩
def OnW(P:Option (Nat×Nat×Option Bk)->LS->Prop)(V:Ev0)(t w:Nat)(c:Int)(L:LS):Prop:=qm V t L/\
 ((c=1/\(L.wt w).l=V.nl/\∃y ch,(L.wt w).b.ch=y::ch/\P (some (t,V.nl,some ⟨(L.wt w).b.k,(L.wt w).b.n,ch⟩)) (L.say t (-1) 2 y.n))\/
  (∃k:Nat,k<V.nl/\(L.wt w).l=k/\((c=3/\((V.ly k).k=1\/(V.ly k).k=5\/(V.ly k).k=6)/\P (some (t,k,some (c9 5 k 0))) (L.say t k 16 0))\/
    (c=1/\(V.ly k).k=1/\P (some (t,k+1,none)) L)\/
    ((V.ly k).k=5/\c=1/\P (some (t,k,some (c9 3 k 0))) (L.say t k 7 0))\/
    ((V.ly k).k=5/\c=2/\P (some (t,k+1,none)) (L.say t k 13 0))\/
    ((V.ly k).k=6/\c=1/\∀oL:List Nat,wu V L (λx=>(L.tk x).f=w) oL->P (some (t,k,some (c9 4 k 0))) ((L.say t k 15 0).cancel oL))\/
    ((V.ly k).k=6/\c=2/\P (some (t,k,some (L.wt w).b)) L))))
def Fin(V:Ev0)(Z:LS->Prop):Nat->Option (Nat×Nat×Option Bk)->LS->Prop
 |0,_,_=>False
 |m+1,some (t,k,ob),L=>qm V t L/\k<=V.nl/\(L.tk t).p<=k/\(∀b,ob=some b->G5 b/\(0<k->Oy V L t (k-1)))/\match L.step V t k ob with
  |(L',none)=>Fin V Z m none L'
  |(L',some (k',PE))=>Fin V Z m (some (t,k',PE)) L'
 |m+1,none,L=>L.al<1000000/\if cj L.ag L.al<0 then Z L else
  let i:=(cj L.ag L.al).toNat;let e:=L.ag i
  ∃t:Nat,e.t=t/\((e.c=0/\qm V t (L.pop i)/\Fin V Z m (some (t,(L.tk t).p,none)) (L.pop i))\/
   ∃w:Nat,e.w=w/\w<L.wl/\((e.c=1/\((L.wt w).x=true\/(L.wt w).e=true)/\Fin V Z m none (L.pop i))\/
    ((L.wt w).t=t/\(L.wt w).e=false/\((e.c=1/\(L.wt w).x=false)\/((e.c=2\/e.c=3)/\(L.wt w).x=true/\(L.wt w).z=e.c))/\
    OnW (Fin V Z m) V t w e.c ((L.pop i).bV t w))))
def yL(p:Se×Value):List Value:=[i6 p.1.a,i6 p.1.b.k,i6 p.1.b.n,p.2]
def yt(t:OZ):List Value:=[i6 t.a,i6 t.c,i6 t.l,i6 t.w,i6 t.n]
def A4(e:OZ):∀u∈yt e,u.oneCell'=true:=by intro u a;simp[yt]at a;rcases a with rfl|rfl|rfl|rfl|rfl<;>rfl
def qg(x:iN):List Value:=[i6 x.k,i6 x.l,i6 x.n]
abbrev gQ(ca:Addr)(L:List iN):aH:=fR ca 3 (λj=>qg (L.getD j ⟨0,0,0⟩)) L.length false
def fu(C:aW)(h:ay)(L:List iN):Prop:=(h=.slice none 0 0/\L=[])\/∃ca cap i,h=.slice (some ca) L.length cap/\nth C i=some (gQ ca L)
abbrev BN(ca:Addr)(L:iy):aH:=fR ca 1 (λj=>[.bool (L.getD j false)]) L.length false
def LS.Yj(L:LS)(t j:Nat)(n:Int):LS:={L with tk:=upd L.tk t {L.tk t with a:=upd (L.tk t).a j n}}
abbrev oR(b o:Nat)(S:iO)(wr:Bool):aH:=⟨λj=>⟨b,o+j.2,none⟩,S,λ_ _=>undef,1,S.length,wr,none⟩
structure mW where
 E:Nat
 n:Nat
 c:Nat
 f:Nat->Value
abbrev eR(b:mW):aH:=⟨λj=>⟨b.E,j.2,none⟩,[],λ_ j=>b.f j,b.c,b.n,true,match b.c with|0=>none|_+1=>some (b.E,143,b.n)⟩
def Has(C:aW)(r:aH):Prop:=r.wr=false/\∃i,nth C i=some r
def Has.cons{x:aH}(h:Has C r):Has (x::C) r:=by
 let⟨b,i,a⟩:=h;exact⟨b,i+1,a⟩
def Has.app{C:aW}{r:aH}(h:Has C r):∀A:List aH,Has (A++C) r
 |[]=>h
 |_::A=>(h.app A).cons
def Has.pre(h:Has C r)(A:aW):Has (C++A) r:=by
 let⟨b,i,a⟩:=h;exact⟨b,i,by rw[kR,sJ (qH _ _ _ a)];exact a⟩
def Sat.get(h:Sat Ok w M)(a:Has M r):Sat Ok w (r::M):=by
 let⟨c,i,b⟩:=a;exact h.dup b c
def St.get{Ok:dh}{B N c:Nat}{E:Env}{M:aW}{r:aH}{a:Act}{w:aj}(S:St Ok B N E M c a w)(h:Has M r):St Ok B N E (r::M) c a w:=⟨S.env,S.sat.get h,S.sz⟩
def s9(x:Lm):List Value:=[i6 x.k,i6 x.n,i6 x.t]
structure PK where
 A:Nat
 J:Nat
 HD:Nat
 O:Nat
 V:Ev0
 lb:Nat->Nat
 ca:Addr
 cc:Nat
 dL:Nat->Option Addr
 nj:Nat->Nat
 bM:Nat
 bJ:Nat
structure Fb where
 s:Bool
 g:Nat
 o:Nat
 c:Nat
 v:Nat->List Value
structure PS where
 k:PK
 en:Value
 eb:mW
 ea:Option Addr
 ec:Nat
 vv:Nat->List Value
 oh:Nat->Value
 q:List Nat
 wb:Nat->Nat
 f:Nat->Fb
 lq:Nat->List Nat
 cv:Nat->Value
 cx:List aH
 T:Nat->Nat
 aS:Nat->Nat
 wk:Nat->Value
 bf:Nat->Fb
 bl:Nat->List Nat
 cm:Nat->Option (Nat×List Value)
 l:LS
def pM(s:PS):List aH:=[bR s.k.A [i6 s.l.now,s.en],eR s.eb,bR s.k.J [.slice s.ea s.l.el s.ec],vR s.ea 5 (λj=>yt (s.l.ev j)) s.l.el s.ec 73,sR s.ea 5 s.vv s.l.el s.ec,
 fR ⟨s.k.HD,0,none⟩ 1 (λj=>[i6 (s.l.us j)]) s.k.V.nc true,fR ⟨s.k.O,0,none⟩ 4 (λj=>yL (s.l.ou j,s.oh j)) s.k.V.nc true]
abbrev tQ(b:Nat)(wi:ay)(num:Int)(J:Nat):aH:=oR b 0 [wi,i6 num,ptr J] false
abbrev wF(T A:Nat)(i:Nat)(c:Int)(aS:Nat):aH:=oR T 0 [ptr A,i6 i,i6 c,.chan (some aS)] false
abbrev dO(T:Nat)(v b:ay)(x e:Bool):aH:=oR T 4 [v,b,.bool x,.bool e] true
def su(f:Fb)(n:Nat):Value:=if f.s=true then .slice (some ⟨f.g,f.o,none⟩) n f.c else .slice none 0 0
def rK(f:Fb):Nat:=if f.s=true then max f.c 1 else 0
def gR(y:ju)(lb:Nat)(g:Gt)(f:Fb)(q:aN):List aH:=if y.k=3 then[oR lb 5 [i6 g.nx] true]else if y.k=4 then[oR lb 8 [i6 g.st,i6 g.si,i6 g.pd,i6 g.pr,su f g.la.length] true,fR ⟨f.g,0,none⟩ 1 f.v (f.o+f.c) true]else if y.k=5 then[oR lb 5 [i6 g.tn,su f q.length] true,fR ⟨f.g,f.o,none⟩ 1 f.v (rK f) true]else[]
def nJ(x:tU):Int:=if x.x=true then x.z else if x.e=true then 1 else 0
def lf(s:PS)(i:Nat):List aH:=match s.cm i with
 |none=>[]
 |some (b,S)=>[oR b 0 S true]
def wR(s:PS)(i:Nat):List aH:=oR (s.wb i) 1 [i6 (nJ (s.l.wt i))] true::oR (s.wb i) 0 [ptr (s.T (s.l.wt i).t.toNat)] false::lf s i
def wS(s:PS):List aH:=(List.range s.l.wl).flatMap (wR s)
def gA(s:PS):List aH:=(List.range s.k.V.nl).flatMap λj=>gR (s.k.V.ly j) (s.k.lb j) (s.l.gt j) (s.f j) (s.lq j)
def j9(wb:bU)(o:Int):Value:=if o<0 then .pointer none else ptr (wb o.toNat)
def j7(s:PS)(j:Nat):List aH:=[dO (s.T j) (j9 s.wb (s.l.tk j).o) (su (s.bf j) (s.bl j).length) (s.l.tk j).x (s.l.tk j).e,fR ⟨(s.bf j).g,(s.bf j).o,none⟩ 1 (s.bf j).v (rK (s.bf j)) true,wF (s.T j) s.k.A j (s.l.tk j).c (s.aS j)]
def tS(s:PS):List aH:=(List.range s.l.tl).flatMap (j7 s)
def xS(s:PS):List aH:=oR s.k.A 2 [i6 s.l.tl] true::(tS s++s.cx)
def gS(s:PS):List aH:=gA s++(wS s++xS s)
def gX(s:PS)(k:Nat):List aH:=((List.range s.k.V.nl).flatMap λj=>if j=k then[]else gR (s.k.V.ly j) (s.k.lb j) (s.l.gt j) (s.f j) (s.lq j))++(wS s++xS s)
def wX(s:PS)(i:Nat):List aH:=gA s++(((List.range s.l.wl).flatMap λj=>if j=i then[]else wR s j)++xS s)
def tX(s:PS)(i:Nat):List aH:=gA s++(wS s++(oR s.k.A 2 [i6 s.l.tl] true::(((List.range s.l.tl).flatMap λj=>if j=i then[]else j7 s j)++s.cx)))
def nI(f g:Nat->List aH)(i:Nat)(b:g i=[])(c:∀j,j≠i->g j=f j):∀n,((List.range n).flatMap f).Perm ((if i<n then f i else[])++(List.range n).flatMap g)
 |0=>ψ
 |n+1=>by
  have a:=nI f g i b c n;rw[rj,yZ,yZ];simp only[DN,List.flatMap_nil,List.append_nil];by_cases e:n=i
  .subst e;rw[af (Ap _),List.nil_append]at a;rw[sJ (gr _),b,List.append_nil];exact(a.append_right _).trans aaa
  .rw[c n e];have:(i<n)=(i<n+1):=χ
   simp only[this]at a;rw[<-dU];exact a.append_right _
def Yo(s:PS)(a:k<s.k.V.nl):(gS s).Perm (gR (s.k.V.ly k) (s.k.lb k) (s.l.gt k) (s.f k) (s.lq k)++gX s k):=by
 have:=nI (λj=>gR (s.k.V.ly j) (s.k.lb j) (s.l.gt j) (s.f j) (s.lq j)) (λj=>if j=k then[]else gR (s.k.V.ly j) (s.k.lb j) (s.l.gt j) (s.f j) (s.lq j)) k (sJ rfl) (λj b=>af b) s.k.V.nl;rw[sJ a]at this;have h:=this.append_right (wS s++xS s);rw[dU]at h;exact h
def og(s:PS)(b:i<s.l.wl):(gS s).Perm (wR s i++wX s i):=by
 have:=nI (wR s) (λj=>if j=i then[]else wR s j) i (sJ rfl) (λj a=>af a) s.l.wl;rw[sJ b]at this;have h:=(this.append_right (xS s)).append_left (gA s);rw[dU]at h;exact h.trans (fA ..)
def jw(s:PS)(b:i<s.l.tl):(gS s).Perm (j7 s i++tX s i):=by
 have:=nI (j7 s) (λj=>if j=i then[]else j7 s j) i (sJ rfl) (λj a=>af a) s.l.tl;rw[sJ b]at this;have h:=this.append_right s.cx;unfold gS xS tX;refine((h.cons _).append_left (wS s)).append_left (gA s)|>.trans ?_;have c:=fA (j7 s i) (gA s++(wS s++[oR s.k.A 2 [i6 s.l.tl] true])) (((List.range s.l.tl).flatMap λj=>if j=i then[]else j7 s j)++s.cx);simpa using c.symm
def WY(s s':PS):Prop:=(s'.l.wl=s.l.wl/\∀i,i<s.l.wl->wR s' i=wR s i)/\s'.l.tl=s.l.tl/\∀i,i<s.l.tl->j7 s' i=j7 s i
def O5{s a:PS}(h:WY s a):wS a=wS s:=by
 unfold wS;rw[h.1.1,List.flatMap_def,List.flatMap_def];congr 1;exact u7 λi a=>h.1.2 i (aZ.1 a)
def T6{s a:PS}(c:a.k=s.k)(h:WY s a)(b:a.cx=s.cx):xS a=xS s:=by
 unfold xS tS;rw[c,b,h.2.1,List.flatMap_def,List.flatMap_def];congr 3;exact u7 λi a=>h.2.2 i (aZ.1 a)
def K3{s a:PS}(c:a.k=s.k)(b:∀j,j≠k->a.l.gt j=s.l.gt j)(b:∀j,j≠k->a.f j=s.f j/\a.lq j=s.lq j)(b:WY s a)(d:a.cx=s.cx):gX a k=gX s k:=by
 unfold gX;rw[O5 b,T6 c b d,c];simp_all
def Gf(y:ju)(lb:Nat)(g:Gt)(f:Fb)(q:aN):∀r∈gR y lb g f q,r.row=none:=λr a=>by
 unfold gR at a;grind
def EG(s:PS)(i:Nat):∀r∈lf s i,r.row=none:=λr a=>by
 unfold lf at a;grind
def r9(s:PS)(b:∀r∈s.cx,r.row=none):∀r∈gS s,r.row=none:=λr a=>by
 rcases dJ.1 a with a|a
 .let⟨j,_,h⟩:=mL.1 a;exact Gf _ _ _ _ _ r h
 .rcases dJ.1 a with a|a
  .let⟨j,_,h⟩:=mL.1 a;simp only[wR,ak]at h;rcases h with rfl|rfl|h
   .rfl
   .rfl
   .exact EG s j r h
  .rcases ak.1 a with rfl|a
   .rfl
   .rcases dJ.1 a with a|a
    .let⟨j,_,h⟩:=mL.1 a;simp[j7]at h;grind
    simp_all
structure qv(Ok:dh)(la:iy)(f:Fb):Prop where
 nil:f.s=false->la=[]/\f.o=0/\f.c=0
 len:f.s=true->0<la.length/\la.length<=f.c
 ok:f.s=true->∀(ad:Addr)(wr:Bool),ad.block=f.g->Ok ad wr
 val:∀j,j<la.length->(f.v (f.o+j)).getD 0 undef=.bool (la.getD j false)
structure G3(Ok:dh)(wb:bU)(q:aN)(f:Fb):Prop where
 nil:f.s=false->q=[]/\f.o=0/\f.c=0
 len:f.s=true->q.length<=f.c
 ok:f.s=true->∀(ad:Addr)(wr:Bool),ad.block=f.g->Ok ad wr
 val:∀j,j<q.length->(f.v j).getD 0 undef=ptr (wb (q.getD j 0))
def G3.wb{a Xp:bU}{f:Fb}(h:G3 Ok a q f)(b:∀w∈q,Xp w=a w):G3 Ok Xp q f:=⟨h.nil,h.len,h.ok,λj a=>by rw[h.val j a,b _ ξ]⟩
abbrev PS.dI(s:PS)(g' cap':Nat)(vs':eX)(L:LS):PS:={s with ea:=some ⟨g',0,none⟩,ec:=cap',vv:=vs',l:=L}
def Er(F:aB prog main (DX Ok) Ψ)(o:HB B Ok){s:PS}{q n:Int}(l:Sat Ok w (pM s++C))(x:Has C (tQ lb wi num s.k.J))(v:Has C (wF T s.k.A t (s.l.tk t).c aS))(p:Vc Ok s.ea s.l.el s.ec)(m:B<=w.heap.size)(m:s.l.el<1000000)(K:∀f b c w',Sat Ok w' (pM (s.dI f b c (s.l.say t num q n))++C)->Vc Ok (some ⟨f,0,none⟩) (s.l.el+1) b->w.heap.size<=w'.heap.size->Ψ (G (cf.finish (.tuple #[])) cs) w'):
 Ψ (G (Frame.enter prog 148 #[ptr lb,ptr T,i6 q,i6 n] .normal) (cf::cs)) w:=by
 replace l:=(l.get (x.app (pM s))).get ((v.app (pM s)).cons);refine cJ func148 l 34 λm m v m d k j D m=>TM [tQ lb wi num s.k.J] [(3,[(0,(0,2),true)])] F aK (λa wr z=>o a wr ω) d 23 (Hq [1,0,2,1,1,0,2,1,4,0,0,1,0,0,0,1,2,0,0,1,0,0,2,1,1,0,1,1]) [] [(11,ptr s.k.J)] (bR v (yt ⟨s.l.now,(s.l.tk t).c,num,q,n⟩)::·) 1 [] [] [] 18 30 31 28 73 5 40 6 7 0 ρ ρ ρ ρ ρ ρ (λi r h=>by match i,h with|0,h=>cases h;exact⟨rfl,2,δ,δ,rfl⟩) rfl rfl δ ρ eU eU eU D rfl rfl δ rfl p (λ_ _=>rfl) rfl (A4 _) ω (by simp only[maxLen];omega) ω λf b a c i g a A a a e=>?_;have h:=A.size;have y:St Ok g.heap.size 34 _ _ 0 i g:=⟨a,A.sat,rfl⟩;rw[j]at e;generalize u:g.heap.size=a at*;refine aq (λM=>bh 5 (0,0) (.slice (some ⟨f,0,none⟩) (s.l.el+1) b) (M)) 0 F o d e y 4 [5,0,0,1] 1 [] [] 5 1 [24] λa h g a i i i=>cC F g d k a [] (.tuple #[]) ?_;exact K f b c h (g.sat.tail.tail.tail.re 3 rfl rfl _ A.upd) A.vc ω
def O1(en:ay)(eb:mW)(es:jl):Prop:=(∀e∈es,e.2.oneCell'=true)/\((en=.slice none 0 0/\es=[]/\eb.c=0)\/
 ∃off cap,en=.slice (some ⟨eb.E,off,none⟩) es.length cap/\eb.c=1/\es.length<=cap/\off+2*cap<=eb.n/\0<eb.n/\∀(j:Nat)(u:ay),(flat es)[j]? =some u->eb.f (off+j)=u)
structure PV(Ok:dh)(s:PS)(es:jl):Prop where
 jr:Vc Ok s.ea s.l.el s.ec
 en:O1 s.en s.eb es
 eo:s.eb.c=1->s.k.A<s.eb.E/\∀(a:Addr)(wr:Bool),a.block=s.eb.E->Ok a wr
 fb:∀k,k<s.k.V.nl->(s.k.V.ly k).k=4->qv Ok (s.l.gt k).la (s.f k)
 rm:∀k,k<s.k.V.nl->(s.k.V.ly k).k=5->G3 Ok s.wb (s.lq k) (s.f k)
 cx:∀r∈s.cx,r.wr=false/\r.row=none
 bg:∀j,j<s.l.tl->G3 Ok s.T (s.bl j) (s.bf j)
def Yu(C:aW):Value->List iN->Prop
 |e,[]=>e=.nilIface
 |e,x::ch=>∃q e',e=.iface 184 (ptr q)/\Has C (oR q 0 [i6 x.k,i6 x.l,i6 x.n,e'] false)/\Yu C e' ch
def Yu.up{C a:aW}(h:∀r,Has C r->Has a r):∀{ch:List iN}{e:ay},Yu C e ch->Yu a e ch
 |[],_,a=>a
 |_::_,_,⟨q,f,d,c,b⟩=>⟨q,f,d,h _ c,b.up h⟩
def WA(C:aW)(a:ay)(b:Bk):Prop:=(b.k=1/\a=.agg #[i6 b.n,.nilIface,.nilIface])\/(b.k=2/\∃q,a=.agg #[i6 0,.iface 184 (ptr q),.nilIface]/\Yu C (.iface 184 (ptr q)) b.ch)\/(b.k=3/\a=.agg #[i6 0,.nilIface,.iface 182 (i6 b.n)])
def WA.up{C c:aW}(h:∀r,Has C r->Has c r){a:ay}{b:Bk}(H:WA C a b):WA c a b:=H.imp id λH=>H.imp (fun⟨c,q,b,a⟩=>⟨c,q,b,a.up h⟩) id
def yx{E:Nat}{a:gd}{t:TypeId}{f:Nat×Nat}(h:w.heap[E]? =some (.cells a t f)):w.cell? ⟨E,j,none⟩=a[j]? :=oz h
def uw{b:mW}(h:Sat Ok w M)(c:nth M i=some (eR b))(a:b.c=1):∃a,w.heap[b.E]? =some (.cells a 143 (0,0))/\a.size=b.n/\∀j,j<b.n->a[j]? =some (b.f j):=by
 let⟨_,_,a,d,e⟩:=h.row i _ c b.E 143 b.n ξ;refine⟨a,d,e,λj a=>?_⟩;have:=h.val i _ c (0,j) ⟨ξ,a⟩;rw[<-yx d];exact this
def Mp{a:mW}{N:Nat}(h:Sat Ok w M)(e:nth M i=some (eR a))(b:O1 en a es)(f:a.c=1->N<=a.E):fZ N w en es:=by
 refine⟨b.1,b.2.imp (λx=>⟨x.1,x.2.1⟩) ?_⟩;rintro ⟨off,cap,i,c,g,b,b,b⟩;let⟨b,k,l,c3⟩:=uw h e c;refine⟨a.E,off,cap,b,i,g,f c,k,ω,λj u a=>?_⟩;have d:j<(flat es).length:=(lg.1 a).1;rw[ia]at d;grind
def Sat.two{A y m l:aH}{t:aW}(h:Sat Ok w (A::y::t))(x:∀i r,nth t i=some r->∀j,r.has j->w'.cell? (r.ad j)=w.cell? (r.ad j)/\w'.frozen? (r.ad j)=w.frozen? (r.ad j))(B:∀i r,nth t i=some r->∀g e n,r.row=some (g,e,n)->pI w g e n->pI w' g e n)(c:Sat Ok w' [m,l])(u:∀i r,nth t i=some r->∀j k,r.has j->(m.has k->m.ad k≠r.ad j)/\(l.has k->l.ad k≠r.ad j)):Sat Ok w' (m::l::t):=by
 refine⟨λi r a j f=>?_,λi r a j f=>?_,λi r q p a b s j k f d o=>?_,λi r a g e n v=>?_⟩
 .match i,a with
  |0,a=>exact c.val 0 r a j f
  |1,a=>exact c.val 1 r a j f
  |i+2,a=>rw[(x i r a j f).1];exact h.val (i+2) r a j f
 .match i,a with
  |0,a=>exact c.ok 0 r a j f
  |1,a=>exact c.ok 1 r a j f
  |i+2,a=>have:=h.ok (i+2) r a j f;exact⟨this.1,λz=>⟨(this.2 z).1,by rw[(x i r a j f).2];simp_all⟩⟩
 .match i,a,q,b with
  |0,a,0,b=>exact c.sep 0 r 0 p a b s j k f d o
  |0,a,1,b=>exact c.sep 0 r 1 p a b s j k f d o
  |1,a,0,b=>exact c.sep 1 r 0 p a b s j k f d o
  |1,a,1,b=>exact c.sep 1 r 1 p a b s j k f d o
  |0,a,q+2,b=>cases a;exact absurd o ((u q p b k j d).1 f)
  |1,a,q+2,b=>cases a;exact absurd o ((u q p b k j d).2 f)
  |i+2,a,0,b=>cases b;exact absurd o.symm ((u i r a j k f).1 d)
  |i+2,a,1,b=>cases b;exact absurd o.symm ((u i r a j k f).2 d)
  |i+2,a,q+2,b=>exact h.sep (i+2) r (q+2) p a b s j k f d o
 .match i,a with
  |0,a=>exact c.row 0 r a g e n v
  |1,a=>exact c.row 1 r a g e n v
  |i+2,a=>have:=h.row (i+2) r a g e n v;exact⟨this.1,this.2.1,B i r a g e n v this.2.2⟩
def Sat.K6{C':List Addr}{A:Nat}{x:ay}{p:mW}{I:jl}(h:Sat Ok w (bR A [x,en]::eR p::M))(hE:O1 en p es)(C:p.c=1->A<p.E)(hB:HB w.heap.size Ok)(V:p.c=1->∀(a:Addr)(wr:Bool),a.block=p.E->Ok a wr)(C:∀a∈C',a.block=A/\a.off≠0)(C:∀i r,nth M i=some r->∀j,r.has j->r.ad j∉C')(P:Kp (cw en) w w' (⟨A,1,none⟩::C'))(hv:w'.cell? ⟨A,1,none⟩=some v)(hf:w'.frozen? ⟨A,1,none⟩=false)(L:fZ (A+1) w' v I)(N:∀g∈cw v,g∈cw en\/w.heap.size<=g)(C:0<I.length)(C:∀i r g e n,nth M i=some r->r.row=some (g,e,n)->g≠A):
 ∃C,Sat Ok w' (bR A [x,v]::eR C::M)/\O1 v C I/\C.c=1/\A<C.E/\∀(a:Addr)(wr:Bool),a.block=C.E->Ok a wr:=by
 obtain⟨ho,⟨_,z⟩|⟨D,off,cap,s,e1,e2,v,Z,e5,v⟩⟩:=L
 .simp_all
 have v:∀g,g∈cw en↔p.c=1/\g=p.E:=λg=>by
  rcases hE.2 with ⟨E,G,C⟩|⟨o,c,E,G,_⟩
  .rw[E,bS];simp[Value.ownBlock,C]
  .rw[E,bS];simp[Value.ownBlock,G];omega
 have Q:(p.c=1/\D=p.E)\/w.heap.size<=D:=by
  rcases N D (by rw[e1,bS];rfl)with z|z
  .simp_all
  omega
 have O:∀(a:Addr)(wr:Bool),a.block=D->Ok a wr:=λa wr hb=>by
  rcases Q with ⟨E,G⟩|z
  .exact V E a wr (hb.trans G)
  .exact hB a wr ω
 have y:0<s.size:=ω
 have a:∀j,w'.frozen? ⟨D,j,none⟩=false:=λj=>by simp[World.frozen?,Z]
 have H:∀j,j<s.size->w'.cell? ⟨D,j,none⟩=some (s.getD j undef):=λj d=>by
  rw[yx Z];simp_all
 have m:∀i r,nth M i=some r->∀j,r.has j->(r.ad j).block∉cw en/\r.ad j∉(⟨A,1,none⟩::C':List Addr):=λi r b j d=>by
  have k:=h.val (i+2) r b j d;refine⟨λz=>?_,λz=>?_⟩
  .let⟨E,G⟩:=(v _).1 z;let⟨cu,c1,c2,c3⟩:=uw h (i:=1) rfl E;have X:(r.ad j).off<p.n/\(r.ad j).spot=none:=by
    unfold World.cell? at k;rw[G,c1]at k;simp only at k;cases M5:(r.ad j).spot with
    |none=>grind
    |some q=>simp_all
   have Y:r.ad j=⟨p.E,(r.ad j).off,none⟩:=by
    cases hra:r.ad j with
    |mk o c a=>simp_all
   have:=h.sep 1 (eR p) (i+2) r rfl b rfl (0,(r.ad j).off) j ⟨χ,X.1⟩ d Y.symm;omega
  .rcases ak.1 z with z|z
   .have:=h.sep 0 _ (i+2) r rfl b rfl (0,1) j ⟨aD,gr 1⟩ d z.symm;omega
   grind
 refine⟨⟨D,s.size,1,λj=>s.getD j undef⟩,?_,⟨ho,.inr ⟨off,cap,e1,rfl,e2,e5,y,λj u a=>?_⟩⟩,rfl,χ,O⟩
 .refine h.two (λi r b j d=>?_) (λi r b g e n U a=>?_) ?_ (λi r b j T d=>⟨λB L=>?_,λB L=>?_⟩)
  .let⟨J,S⟩:=m i r b j d;have k:=h.val (i+2) r b j d;exact⟨(P.cellC _ _ J S k).trans k.symm,P.Q6 _ _ J S k⟩
  .let⟨cu,c1,c2⟩:=a;let⟨c,a,_⟩:=h.row (i+2) r b g e n U;let⟨J,S⟩:=m i r b (0,0) c;rw[a]at J;refine⟨cu,P.blk g cu e (0,0) J (λx a=>?_) c1,c2⟩;grind
  .have R:w'.cell? ⟨A,0,none⟩=some x/\w'.frozen? ⟨A,0,none⟩=false:=by
    have c:=h.val 0 _ rfl (0,0) ⟨aD,D9 1⟩;have a:A∉cw en:=λz=>ξ
    have y:(⟨A,0,none⟩:Addr)∉(⟨A,1,none⟩::C':List Addr):=λz=>by
     grind
    exact⟨P.cellC _ _ a y c,(P.Q6 _ _ a y c).trans ((h.ok 0 _ rfl (0,0) ⟨aD,D9 1⟩).2 rfl).2⟩
   have F:∀j,j<2->Ok ⟨A,j,none⟩ false/\Ok ⟨A,j,none⟩ true:=λj d=>by
    have:=h.ok 0 _ rfl (0,j) ⟨aD,d⟩;simp_all
   refine⟨λi r b j d=>?_,λi r b j d=>?_,λi r i' a b f a j T d B L=>?_,λi r b g e n U=>?_⟩
   .match i,b with
    |0,b=>
     cases b;let⟨K,t⟩:=j;have l:t<2:=d.2;match t,l with
     |0,_=>exact R.1
     |1,_=>exact hv
    |1,b=>cases b;exact H _ d.2
   .match i,b with
    |0,b=>
     cases b;let⟨K,t⟩:=j;have l:t<2:=d.2;refine⟨(F t l).1,λ_=>⟨(F t l).2,?_⟩⟩;match t,l with
     |0,_=>exact R.2
     |1,_=>exact hf
    |1,b=>cases b;simp_all
   .have a:A≠D:=ω
    match i,b,i',f with
    |0,b,0,f=>
     cases b;cases f;let⟨K,t⟩:=j;let⟨W,k2⟩:=T;have h1:K<1:=d.1;have h2:W<1:=B.1;simp_all
    |0,b,1,f=>cases b;cases f;simp_all
    |1,b,0,f=>cases b;cases f;grind
    |1,b,1,f=>
     cases b;cases f;let⟨K,t⟩:=j;let⟨W,k2⟩:=T;have h1:K<1:=d.1;have h2:W<1:=B.1;simp_all
   .match i,b with
    |0,b=>cases b;cases U
    |1,b=>cases b;cases U;exact⟨⟨aD,y⟩,rfl,s,Z,rfl⟩
  .let⟨J,S⟩:=m i r b j d;let⟨K,t⟩:=T;have l:t<2:=B.2;have:=h.sep 0 _ (i+2) r rfl b rfl (0,t) j ⟨aD,l⟩ d L;omega
  .let⟨J,S⟩:=m i r b j d;have hb:(r.ad j).block=D:=by rw[<-L]
   rcases Q with ⟨E,G⟩|z
   .simp_all
   .have:=au (h.val (i+2) r b j d);omega
 simp_all
def Sat.bA{A:Nat}{x:ay}{b:mW}{c:jl}(h:Sat Ok w (bR A [x,en]::eR b::M))(q:O1 en b es)(t:b.c=1->A<b.E)(s:HB w.heap.size Ok)(f:b.c=1->∀(a:Addr)(wr:Bool),a.block=b.E->Ok a wr)(m:Kp (cw en) w w' [⟨A,1,none⟩])(l:w'.cell? ⟨A,1,none⟩=some v)(o:w'.frozen? ⟨A,1,none⟩=false)(p:fZ (A+1) w' v c)(d:∀g∈cw v,g∈cw en\/w.heap.size<=g)(k:0<c.length)(j:∀i r g e n,nth M i=some r->r.row=some (g,e,n)->g≠A):
 ∃b,Sat Ok w' (bR A [x,v]::eR b::M)/\O1 v b c/\b.c=1/\A<b.E/\∀(a:Addr)(wr:Bool),a.block=b.E->Ok a wr:=
 h.K6 q t s f (C':=[]) (λa z=>by cases z) (λ_ _ _ _ _ z=>by cases z) m l o p d k j
def Flat(C:aW):Prop:=∀i r,nth C i=some r->r.row=none
def Flat.cons(h:Flat C)(a:r.row=none):Flat (r::C):=λi x b=>by
 rcases iB b with ⟨k,rfl,c⟩|⟨rfl,rfl⟩
 .exact h k x c
 .exact a
def Flat.nil:Flat []:=λi r h=>by cases h
def Flat.app(c:Flat A)(b:Flat C):Flat (A++C):=λi r a=>by
 rw[kR]at a;split at a
 .exact c i r a
 .exact b _ r a
def Flat.left(h:Flat (A++C)):Flat A:=λi r a=>h i r (by rw[kR,sJ (qH _ _ _ a)];exact a)
def Flat.right(h:Flat (A++C)):Flat C:=λi r a=>h (A.length+i) r (by rw[kR,af ω,D4];exact a)
def Flat.tail(h:Flat (r::C)):Flat C:=λi x a=>h (i+1) x a
def Sat.Zx{c:aH}(h:Sat Ok w (A++(r::c::C))):Sat Ok w (A++(c::r::C)):=by
 refine h.map (λi=>if i=A.length then i+1 else if i=A.length+1 then A.length else i) (λi d a=>⟨d,?_,.inl rfl⟩) (λi j d a l e=>?_)
 .rw[kR]at a ⊢;by_cases b:i=A.length
  .subst b;rw[af ω,Nat.sub_self]at a;rw[sJ rfl,af ω,D4];exact a
  .by_cases f:i=A.length+1
   .subst f;rw[af ω,D4]at a;rw[af b,sJ rfl,af ω,Nat.sub_self];exact a
   .rw[af b,af f];split at a
    .simp_all
    .rename_i z;rw[af z];obtain⟨k,g⟩:∃k,i-A.length=k+2:=⟨i-A.length-2,ω⟩;rw[g]at a ⊢;exact a
 grind
def Sat.Db{Ok:dh}{w:aj}{A C:aW}:∀{X:aW},Sat Ok w (A++(X++C))->Sat Ok w (A++C)
 |[],h=>h
 |_::X,h=>Sat.Db (X:=X) h.BC
def J4(x:Nat):Value:=.func (.func 143) #[ptr x] #[]
def fF(s:PS)(i:Nat):Int×Value:=((s.l.ag i).a,if(s.l.ag i).c=1 then J4 (s.wb (s.l.ag i).w.toNat)else s.cv i)
def bA(s:PS):List (Int×Value):=s.q.map (fF s)
def fQ(ag:Nat->qy)(i j:Nat):Prop:=(ag i).a<(ag j).a\/((ag i).a=(ag j).a/\i<j)
def Mz(s:PS)(i:Nat)(e:qy):Prop:=(e.c=0->∃t ba bt bw:Nat,e.t=t/\t<s.l.tl/\s.cv i=.func (.func 48) #[] #[ptr ba,ptr bt,ptr bw]/\Has s.cx (oR ba 0 [ptr s.k.A] false)/\Has s.cx (oR bt 0 [ptr (s.T t)] false)/\Has s.cx (oR bw 0 [s.wk t] false))/\
 (e.c≠0->e.c≠1->∃ba bw,s.cv i=.func (.func 182) #[] #[ptr ba,ptr bw]/\Has s.cx (oR ba 0 [ptr s.k.A] false)/\Has s.cx (oR bw 0 [ptr (s.wb e.w.toNat)] false))
structure QI(s:PS):Prop where
 lt:∀i∈s.q,i<s.l.al/\(s.l.ag i).o=false
 all:∀i,i<s.l.al->(s.l.ag i).o=false->i∈s.q
 pN:s.q.Pairwise (fQ s.l.ag)
 ws:∀i∈s.q,(s.l.ag i).c=0\/∃w:Nat,(s.l.ag i).w=w/\w<s.l.wl
 cv:∀i∈s.q,Mz s i (s.l.ag i)
structure TI(s:PS):Prop where
 nc:s.k.V.nc<=s.l.tl
 wt:∀w,w<s.l.wl->∃u:Nat,u<s.l.tl/\(s.l.wt w).t=u
 cm:∀i,i<s.l.wl->∀b S,s.cm i=some (b,S)->(∃x y z,S=[x,y,z])/\(∃k:Nat,(s.l.wt i).l=k/\(s.k.V.ly k).k=6)/\((s.l.wt i).x=true->(s.l.wt i).z=2->WA s.cx (.agg S.toArray) (s.l.wt i).b)
 cl:∀j,j<s.l.tl->∃c:Nat,(s.l.tk j).c=c/\c<s.k.V.nc/\(j<s.k.V.nc->c=j/\(s.l.tk j).p=0)
 wk:∀j,s.k.V.nc<=j->j<s.l.tl->∃w bl bc bw k S,(s.l.tk j).f=((w:Nat):Int)/\w<s.l.wl/\(s.l.wt w).l=((k:Nat):Int)/\(s.l.tk j).p=k+1/\k<s.k.V.nl/\(s.k.V.ly k).k=6/\s.wk j=.func (.func 185) #[] #[ptr bl,ptr bc,ptr bw]/\Has s.cx (oR bl 0 [ptr (s.k.lb k)] false)/\Has s.cx (oR bw 0 [ptr (s.wb w)] false)/\s.cm w=some (bc,S)
 ch:∀j,j<s.l.tl->(s.bl j).Pairwise (·<·)/\∀c∈s.bl j,j<c/\c<s.l.tl/\s.k.V.nc<=c/\∃w:Nat,(s.l.tk c).f=w/\w<s.l.wl/\(s.l.wt w).t=j
 can:∀j,j<s.l.tl->(s.l.tk j).o=-1\/∃w k:Nat,(s.l.tk j).o=w/\w<s.l.wl/\(s.l.wt w).l=k/\k<s.k.V.nl
 zz:∀i,i<s.l.wl->(s.l.wt i).x=true->(s.l.wt i).z=2\/(s.l.wt i).z=3
 al:∀c,s.k.V.nc<=c->c<s.l.tl->∀j w:Nat,(s.l.tk c).f=w->(s.l.wt w).t=j->c∈s.bl j
structure yV(q:aN)(wl:Nat)(wt:Nat->tU)(k:Nat):Prop where
 pN:q.Pairwise (·<·)
 mem:∀w∈q,w<wl/\(wt w).l=k
 all:∀w,w<wl->(wt w).l=k->(wt w).x=false->(wt w).e=false->w∈q
def yV.cB{a:Nat}{wt:Nat->tU}{x:tU}(h:yV q a wt k)(c:x.l≠k):yV q (a+1) (upd wt a x) k:=by
 refine⟨h.pN,λw c=>?_,λw c b f d=>?_⟩
 .have:=h.mem w c;refine⟨ω,?_⟩;simp only[upd];grind
 .by_cases e:w=a
  .subst e;simp[upd]at b;omega
  .simp only[upd,af e]at b f d;exact h.all w ω b f d
abbrev PS.cB(s:PS)(t:Nat)(ly d:Int)(i x:Nat)(en:ay)(eb:mW)(cb:Bool):PS:={s with en:=en,eb:=eb,q:=s.q.take i++s.l.al::s.q.drop i,wb:=upd s.wb s.l.wl x,cm:=upd s.cm s.l.wl none,l:=s.l.wait t ly d cb}
def jT(s:PS):(bA s).length=s.q.length:=by simp[bA]
def xL{b:Nat->qy}(h:q.Pairwise (fQ b))(a:i<j)(c:j<q.length):fQ b (q[i]' ω) q[j]:=HA.1 h i j ω c a
def oX:∀{n:Nat}{q:aN},q.Nodup->(∀i∈q,i<n)->q.length<=n
 |0,[],_,_=>az _
 |0,i::_,_,h=>by have:=h i (bI ..);omega
 |n+1,q,a,h=>by
  have b:=oX (n:=n) (q:=q.erase n) (a.erase _) λi a=>by
   grind
  grind
def QI.len{s:PS}(Q:QI s):s.q.length<=s.l.al:=oX (Q.pN.imp fun{a b} h e=>by subst e;unfold fQ at h;omega) λi a=>(Q.lt i a).1
def QI.ins{s s1:PS}{e:qy}(Q:QI s)(hi:i<=s.q.length)(G:iM (bA s) e.a i)(g:s1.q=s.q.take i++s.l.al::s.q.drop i)(p:s1.k=s.k)(o:s1.l.al=s.l.al+1)(H:s1.l.ag=upd s.l.ag s.l.al e)(ho:e.o=false)(hw:e.c=0\/∃w:Nat,e.w=w/\w<s1.l.wl)(O:s.l.wl<=s1.l.wl)(P:∀w,w<s.l.wl->s1.wb w=s.wb w)(X:∀j,j≠s.l.al->s1.cv j=s.cv j)(W:∀r,Has s.cx r->Has s1.cx r)(R:s.l.tl<=s1.l.tl)(hT:∀j,j<s.l.tl->s1.T j=s.T j/\s1.wk j=s.wk j)(E:Mz s1 s.l.al e):QI s1/\bA s1=(bA s).take i++fF s1 s.l.al::(bA s).drop i:=by
 have b:∀j,j<s.l.al->s1.l.ag j=s.l.ag j:=λj a=>by rw[H];simp only[upd];grind
 have u:s1.l.ag s.l.al=e:=by rw[H];exact sJ rfl
 have c:∀j,j∈s1.q↔j=s.l.al\/j∈s.q:=λj=>by
  rw[g]
  conv=>rhs;rhs;rw[<-va i s.q]
  grind
 have N:∀j∈s.q,(s.l.ag j).c≠0->s1.wb (s.l.ag j).w.toNat=s.wb (s.l.ag j).w.toNat:=λj a J=>by
  rcases Q.ws j a with z|⟨w,v,y⟩
  .omega
  simp_all
 have d:∀j∈s.q,fF s1 j=fF s j:=λj a=>by
  have f:=(Q.lt j a).1;unfold fF;grind
 refine⟨⟨λj a=>?_,λj I E=>?_,?_,λj a=>?_,λj a=>?_⟩,?_⟩
 .rcases(c j).1 a with rfl|a
  .simp_all
  .rw[b j (Q.lt j a).1,o];have:=Q.lt j a;grind
 .rw[c];by_cases e:j=s.l.al
  .exact .inl e
  .have a:j<s.l.al:=ω
   rw[b j a]at E;exact .inr (Q.all j a E)
 .rw[g];have F:∀j∈s.q,∀k∈s.q,fQ s.l.ag j k->fQ s1.l.ag j k:=λj a k p h=>by
   unfold fQ;rw[b j (Q.lt j a).1,b k (Q.lt k p).1];exact h
  have m:=Q.pN;rw[<-va i s.q,YS]at m;let⟨M,L,p3⟩:=m;have x:∀j∈s.q.take i,j∈s.q:=λj a=>DW a;have B:∀j∈s.q.drop i,j∈s.q:=λj a=>JA a;rw[YS,iG];refine⟨LK (λD C h=>F _ (x _ D) _ (x _ C) h) M,⟨λj a=>?_,LK (λD C h=>F _ (B _ D) _ (B _ C) h) L⟩,λj a k p=>?_⟩
  .unfold fQ;rw[u,b j (Q.lt j (B j a)).1];left;let⟨n,l⟩:=u9 a;rw[DT]at l;have:=G.gt (i+n) (fF s j) ω (by simp[bA,l]);exact this
  .rcases ak.1 p with rfl|p
   .unfold fQ;rw[u,b j (Q.lt j (x j a)).1];have T:(s.l.ag j).a<=e.a:=by
     let⟨n,l⟩:=u9 a;rw[List.getElem?_take]at l;split at l
     .rename_i S;have A:0<i:=ω
      have f:i-1<s.q.length:=ω
      have V:=G.le (fF s (s.q[i-1])) A (by simp[bA,f]);have U:(s.l.ag (s.q[i-1])).a<=e.a:=V;rcases Lz (show n<=i-1 by omega)with e|e
      .simp_all
      .have g:=xL Q.pN e f;have q:s.q[n]' ω=j:=χ
       rw[q]at g;rcases g with z|z
       .omega
       .omega
     .cases l
    have:=(Q.lt j (x j a)).1;omega
   simp_all
 .rcases(c j).1 a with rfl|a
  .simp_all
  .rw[b j (Q.lt j a).1];exact(Q.ws j a).imp id fun⟨w,v,y⟩=>⟨w,v,ω⟩
 .rcases(c j).1 a with rfl|a
  .simp_all
  .rw[b j (Q.lt j a).1];have q:j≠s.l.al:=by have:=(Q.lt j a).1;omega
   refine⟨λY=>?_,λJ I=>?_⟩
   .let⟨t,ba,bt,Z,v,y,K,z4,z5,z6⟩:=(Q.cv j a).1 Y;grind
   .let⟨ba,Z,v,y,K⟩:=(Q.cv j a).2 J I;grind
 .unfold bA;rw[g,List.map_append,nP,<-List.map_take,<-List.map_drop];congr 1
  .exact u7 λj a=>d j (DW a)
  .congr 1;exact u7 λj a=>d j (JA a)
def QI.cB{s:PS}(Q:QI s){t:Nat}{ly d:Int}{i x:Nat}{en:ay}{eb:mW}{cb:Bool}(b:i<=s.q.length)(a:iM (bA s) (s.l.now+d) i):QI (s.cB t ly d i x en eb cb)/\bA (s.cB t ly d i x en eb cb)=(bA s).take i++(s.l.now+d,J4 x)::(bA s).drop i:=by
 have:=Q.ins (s1:=s.cB t ly d i x en eb cb) (e:=⟨s.l.now+d,t,s.l.wl,1,false⟩) b a rfl rfl rfl rfl rfl (.inr ⟨s.l.wl,rfl,gr _⟩) (Nat.le_succ _) (λw a=>af (iS a)) (λ_ _=>rfl) (λ_ h=>h) (az _) (λ_ _=>⟨rfl,rfl⟩) ⟨(λz=>by cases z),λ_ z=>absurd rfl z⟩;refine⟨this.1,this.2.trans ?_⟩;congr 2;unfold fF;simp[LS.wait,LS.cB,LS.put,upd]
abbrev PS.uQ(s:PS)(n i:Nat)(en:ay)(eb:mW)(ba bw:Nat)(z:Int)(b:Bk):PS:={s with en:=en,eb:=eb,q:=s.q.take i++s.l.al::s.q.drop i,cv:=upd s.cv s.l.al (.func (.func 182) #[] #[ptr ba,ptr bw]),cx:=oR ba 0 [ptr s.k.A] false::oR bw 0 [ptr (s.wb n)] false::s.cx,l:=s.l.fix n z b}
def QI.uQ{s:PS}(Q:QI s){n i:Nat}{en:ay}{eb:mW}{ba bw:Nat}{z:Int}{b:Bk}(a:z=2\/z=3)(c:n<s.l.wl)(d:i<=s.q.length)(a:iM (bA s) s.l.now i):QI (s.uQ n i en eb ba bw z b)/\bA (s.uQ n i en eb ba bw z b)=(bA s).take i++(s.l.now,.func (.func 182) #[] #[ptr ba,ptr bw])::(bA s).drop i:=by
 have:=Q.ins (s1:=s.uQ n i en eb ba bw z b) (e:=⟨s.l.now,(s.l.wt n).t,n,z,false⟩) d a rfl rfl rfl rfl rfl (.inr ⟨n,rfl,c⟩) (az _) (λ_ _=>rfl) (λj a=>af a) (λ_ h=>h.cons.cons) (az _) (λ_ _=>⟨rfl,rfl⟩) ⟨λy=>ξ,λ_ _=>⟨ba,bw,sJ rfl,⟨rfl,0,rfl⟩,⟨rfl,1,rfl⟩⟩⟩;refine⟨this.1,this.2.trans ?_⟩;congr 2;unfold fF;have:z≠1:=ω
 simp[LS.fix,LS.put,upd,this]
def TI.cB{s:PS}(H:TI s){t:Nat}(p:t<s.l.tl){ly d:Int}{i x:Nat}{en:ay}{eb:mW}{cb:Bool}(E:cb=true->∃k:Nat,ly=k/\k<s.k.V.nl):TI (s.cB t ly d i x en eb cb):=by
 have m:∀w,w<s.l.wl->(s.cB t ly d i x en eb cb).l.wt w=s.l.wt w:=λw h=>af (iS h);have u:∀w,w<s.l.wl->(s.cB t ly d i x en eb cb).wb w=s.wb w:=λw h=>af (iS h);have q:∀w,w<s.l.wl->(s.cB t ly d i x en eb cb).cm w=s.cm w:=λw h=>af (iS h);have g:∀j,((s.cB t ly d i x en eb cb).l.tk j).c=(s.l.tk j).c/\((s.cB t ly d i x en eb cb).l.tk j).f=(s.l.tk j).f/\((s.cB t ly d i x en eb cb).l.tk j).p=(s.l.tk j).p:=λj=>by
  by_cases e:j=t
  .subst e;simp[LS.wait,LS.cB,LS.put,upd]
  .simp[LS.wait,LS.cB,LS.put,upd,e]
 refine⟨H.nc,λw h=>?_,λw h b S z=>?_,λj l=>?_,λj o n=>?_,λj l=>⟨(H.ch j l).1,λc r=>?_⟩,λj l=>?_,λw h z=>?_,λc o n j w y v=>?_⟩
 .have A:w<s.l.wl+1:=h;by_cases e:w=s.l.wl
  .subst e;exact⟨t,p,by simp[LS.wait,LS.cB,LS.put,upd]⟩
  .rw[m w ω];exact H.wt w ω
 .have A:w<s.l.wl+1:=h;by_cases e:w=s.l.wl
  .subst e;simp[upd]at z
  .rw[m w ω];rw[q w ω]at z;exact H.cm w ω b S z
 .rw[(g j).1,(g j).2.2];exact H.cl j l
 .let⟨w,G,I,F,k,S,f,a,q,p,b,u,C,B,_,D⟩:=H.wk j o n;exact⟨w,G,I,F,k,S,ξ,BX a,ξ,ξ,b,u,C,B,ξ,ξ⟩
 .let⟨f,a,q,w,p,b,u⟩:=(H.ch j l).2 c r;exact⟨f,a,q,w,ξ,BX b,ξ⟩
 .have old:(s.l.tk j).o=-1\/∃w k:Nat,(s.l.tk j).o=w/\w<s.l.wl+1/\((s.cB t ly d i x en eb cb).l.wt w).l=k/\k<s.k.V.nl:=(H.can j l).imp id fun⟨w,k,f,a,q,p⟩=>⟨w,k,f,ω,ξ,p⟩
  by_cases e:j=t
  .subst e;cases cb with
   |false=>simpa [LS.wait,LS.cB,LS.put,upd]using old
   |true=>
    let⟨k,f,a⟩:=E rfl;exact .inr ⟨s.l.wl,k,by simp[LS.wait,LS.cB,LS.put,upd],gr _,by simp[LS.wait,LS.cB,LS.put,upd,f],a⟩
  .have b:((s.cB t ly d i x en eb cb).l.tk j).o=(s.l.tk j).o:=by simp[LS.wait,LS.cB,LS.put,upd,e]
   rw[b];exact old
 .have A:w<s.l.wl+1:=h;by_cases e:w=s.l.wl
  .subst e;simp[LS.wait,LS.cB,LS.put,upd]at z
  .rw[m w ω]at z ⊢;exact H.zz w ω z
 .let⟨w',_,_,_,_,_,f,a,_⟩:=H.wk c o n;rw[(g c).2.1]at y;obtain rfl:w=w':=ω
  rw[m w a]at v;exact H.al c o n j w y v
def TI.uQ{s:PS}(H:TI s){n i:Nat}{en:ay}{eb:mW}{ba bw:Nat}{z:Int}{b:Bk}(v:z=2\/z=3)(l:z=2->∀c S,s.cm n=some (c,S)->WA s.cx (.agg S.toArray) b):TI (s.uQ n i en eb ba bw z b):=by
 have d:∀w,((s.uQ n i en eb ba bw z b).l.wt w).l=(s.l.wt w).l/\((s.uQ n i en eb ba bw z b).l.wt w).t=(s.l.wt w).t:=λw=>by
  by_cases e:w=n
  .subst e;simp[LS.fix,LS.put,upd]
  .simp[LS.fix,LS.put,upd,e]
 have up:∀r,Has s.cx r->Has (s.uQ n i en eb ba bw z b).cx r:=λr h=>h.cons.cons;refine⟨H.nc,λw h=>by rw[(d w).2];exact H.wt w h,λw h a S y=>⟨(H.cm w h a S y).1,by rw[(d w).1];exact(H.cm w h a S y).2.1,λo f=>?_⟩,H.cl,λj q p=>?_,λj g=>⟨(H.ch j g).1,λc x=>?_⟩,λj g=>?_,λw h y=>?_,λc q p j w i b=>H.al c q p j w i (by rw[<-(d w).2];exact b)⟩
 .by_cases e:w=n
  .subst e;simp only[LS.fix,LS.put,upd,if_true]at o f ⊢;exact(l f a S y).up up
  .simp only[LS.fix,LS.put,upd,af e]at o f ⊢;exact((H.cm w h a S y).2.2 o f).up up
 .let⟨w,z,A,bw,k,S,d,b,l,a,i,r,u,t,s,m⟩:=H.wk j q p;exact⟨w,z,A,bw,k,S,d,b,ξ,a,i,r,u,up _ t,up _ s,m⟩
 .let⟨d,b,l,w,a,i,r⟩:=(H.ch j g).2 c x;exact⟨d,b,l,w,a,i,ξ⟩
 .exact(H.can j g).imp id fun⟨w,k,d,b,l,a⟩=>⟨w,k,d,b,ξ,a⟩
 .by_cases e:w=n
  .subst e;simp only[LS.fix,LS.put,upd,if_true];exact v
  .simp only[LS.fix,LS.put,upd,af e]at y ⊢;exact H.zz w h y
def TI.ca{s:PS}(H:TI s)(b:n<s.l.wl)(h:nJ (s.l.wt n)=0):(s.l.wt n).x=false/\(s.l.wt n).e=false:=by
 unfold nJ at h;cases a:(s.l.wt n).x with
 |true=>rw[a]at h;have:=H.zz n b a;simp_all
 |false=>
  simp_all
def Kq(F:aB prog main (DX Ok) Ψ)(J:HB B Ok){s:PS}(t:Int)(fn:Fn)(fst cap:gd)(m:Sat Ok w (pM s++C))(f:PV Ok s es)(P:Flat C)(l:B<=w.heap.size)(N:es.length<1000000)(K:∀i en l w',i<=es.length->iM es t i->Sat Ok w' (pM {s with en:=en,eb:=l}++C)->PV Ok {s with en:=en,eb:=l} (es.take i++(t,.func fn fst cap)::es.drop i)->w.heap.size<=w'.heap.size->Ψ (G (cf.finish (.tuple #[])) cs) w'):
 Ψ (G (Frame.enter prog 47 #[ptr s.k.A,i6 t,.func fn fst cap] .normal) (cf::cs)) w:=by
 have l:=m.ok 0 _ rfl (0,1) ⟨aD,gr 1⟩;have q:=m.val 0 _ rfl (0,1) ⟨aD,gr 1⟩;have B:=au q;have G:fZ (s.k.A+1) w s.en es:=Mp (i:=1) m rfl f.en λz=>(f.eo z).1;have A:∀g,g∈cw s.en->s.eb.c=1/\g=s.eb.E:=λg d=>by
  rcases f.en.2 with ⟨p,x,T⟩|⟨o,c,p,x,_⟩
  .rw[p,bS]at d;simp[Value.ownBlock]at d
  .rw[p,bS]at d;simp[Value.ownBlock]at d;omega
 refine EX (s.k.A+1) s.k.A t fn fst cap s.en es w (by exact B) (gr _) N G q (l.2 rfl).2 l.1 (l.2 rfl).1 (λa wr h=>?_) Ψ F cf cs λv w' c=>?_
 .rcases h with h|h
  .let⟨p,x⟩:=A _ h;exact(f.eo p).2 a wr x
  .exact J a wr ω
 .obtain⟨rfl,I,M,i,O,E,S,R,c3,Q⟩:=c;have c:(es.take i++(t,Value.func fn fst cap)::es.drop i).length=es.length+1:=θ
  have D:∀i r g e n,nth ([bR s.k.J [.slice s.ea s.l.el s.ec],vR s.ea 5 (λj=>yt (s.l.ev j)) s.l.el s.ec 73,sR s.ea 5 s.vv s.l.el s.ec,fR ⟨s.k.HD,0,none⟩ 1 (λj=>[i6 (s.l.us j)]) s.k.V.nc true,fR ⟨s.k.O,0,none⟩ 4 (λj=>yL (s.l.ou j,s.oh j)) s.k.V.nc true]++C) i=some r->r.row=some (g,e,n)->g≠s.k.A:=λi r g e n b d=>by
   match i,b with
   |0,b=>cases b;cases d
   |1,b=>
    cases b;cases k:s.ea with
    |none=>simp_all
    |some a=>
     let⟨y,u,_⟩:=m.row 3 _ rfl g e n d;intro H;rw[k]at y u;rcases f.jr.row with ⟨z,_⟩|⟨L,z,_⟩
     .simp_all
     .rw[k]at z;cases z;have c:L=g:=u;have:=m.sep 0 _ 3 _ rfl rfl rfl (0,0) (0,0) ⟨aD,D9 1⟩ χ (by rw[k];show(⟨s.k.A,0,none⟩:Addr)=((⟨L,0,none⟩:Addr).add (0*5)).add 0;rw[add_add,c,H]);omega
   |2,b=>cases b;cases d
   |3,b=>cases b;cases d
   |4,b=>cases b;cases d
   |i+5,b=>rw[P i r b]at d;cases d
  let⟨b,y,u,_,e,c⟩:=Sat.bA m f.en (λz=>(f.eo z).1) (λa wr z=>J a wr ω) (λz=>(f.eo z).2) I S R c3 Q ω D;exact K i M b w' O E y {f with en:=u,eo:=λ_=>⟨e,c⟩} I.size
def uC(F:aB prog main (DX Ok) Ψ)(o:HB B Ok){s:PS}(n:Sat Ok w (pM s++C))(p:Has C (wF T s.k.A t tc aS))(r:PV Ok s (bA s))(Q:QI s)(v:Flat C)(j:∀k,k<s.k.V.nl->(s.k.V.ly k).k=5->∀w∈s.lq k,w<s.l.wl)(a:B<=w.heap.size)(u:s.q.length<1000000)(a:-4611686018427387904<=s.l.now+d)(a:s.l.now+d<4611686018427387904)(K:∀i x en b w',Sat Ok w' (pM (s.cB t ly d i x en b cb)++(bR x [ptr T,i6 0]::C))->PV Ok (s.cB t ly d i x en b cb) (bA (s.cB t ly d i x en b cb))->QI (s.cB t ly d i x en b cb)->i<=s.q.length->w.heap.size<=x->x<w'.heap.size->Ψ (G (cf.finish (ptr x)) cs) w'):
 Ψ (G (Frame.enter prog 151 #[ptr T,i6 d] .normal) (cf::cs)) w:=by
 replace n:=n.get (p.app (pM s));refine cJ func151 n 26 λa a a c c m e h f=>?_;have g:IntKind.wrap .i64 (s.l.now+d)=s.l.now+d:=aA ω ω;refine aq (λM=>bR (a) [ptr T,i6 0]::(M)) 1 F o c e h 13 [1,0,0,1,1,0,0,1,2,0,0,1] 1 [15] [(23,.func (Fn.func 143) #[ptr a] #[]),(21,i6 (IntKind.wrap .i64 (s.l.now+d))),(12,ptr s.k.A),(5,ptr a)] 13 1 [15] λe h q e f f f=>?_;rw[g]at q;refine ah F c e q 24 47 #[ptr s.k.A,i6 (s.l.now+d),.func (Fn.func 143) #[ptr a] #[]] λe f=>?_;have e:Sat Ok h (pM s++(bR a [ptr T,i6 0]::C)):=Sat.back (A:=pM s) (Sat.BC (A:=[bR a [ptr T,i6 0]]) q.sat);refine Kq F o (s.l.now+d) (.func 143) #[ptr a] #[] e r (v.cons rfl) ω (by rw[jT];exact u) λi en b e l h p e r=>f _ _ _ p λf f r f p=>?_;rw[jT]at l;refine UF F o c m f r 6 [] 1 [] 4 (ptr a) 20 1 [15] λm o c c=>?_;let⟨p,f⟩:=Q.cB (t:=t) (ly:=ly) (x:=a) (en:=en) (eb:=b) (cb:=cb) l h;have c:PV Ok (s.cB t ly d i a en b cb) (bA (s.cB t ly d i a en b cb)):=by rw[f];exact{e with rm:=λk d f=>(e.rm k d f).wb λw g=>af (iS (j k d f w g))}
 exact K i a en b m o.sat c p l ω ω
def pL(F:aB prog main (DX Ok) Ψ)(l:HB B Ok){s:PS}{bv:ay}{a e:Bool}(c:Sat Ok w (pM s++(dO T v bv a e::C)))(m:Has C (wF T s.k.A t tc aS))(n:PV Ok s (bA s))(Q:QI s)(p:Flat C)(h:∀k,k<s.k.V.nl->(s.k.V.ly k).k=5->∀w∈s.lq k,w<s.l.wl)(b:B<=w.heap.size)(o:s.q.length<1000000)(g:-4611686018427387904<=s.l.now+d)(f:s.l.now+d<4611686018427387904)(K:∀i x en b w',Sat Ok w' (pM (s.cB t ly d i x en b cb)++(dO T (ptr x) bv a e::bR x [ptr T,i6 0]::C))->PV Ok (s.cB t ly d i x en b cb) (bA (s.cB t ly d i x en b cb))->QI (s.cB t ly d i x en b cb)->i<=s.q.length->w.heap.size<=x->x<w'.heap.size->Ψ (G (cf.finish (ptr x)) cs) w'):
 Ψ (G (Frame.enter prog 161 #[ptr T,i6 d] .normal) (cf::cs)) w:=by
 refine cJ func161 c 15 λa a a a a j c k e=>Rb F l a c k 9 [] 1 [] [(7,i6 d),(6,ptr T),(5,ptr T),(0,ptr T)] 9 1 [] λc c e c k k k=>ah F a c e 8 151 #[ptr T,i6 d] λc c=>uC (ly:=ly) (t:=t) (cb:=cb) F l e.sat (m.cons) n Q (p.cons rfl) h ω o g f λi x en b e m e k g f f=>c _ _ _ m λc c h c f=>bB (λM=>bh 8 (0,0) (ptr x) (M)) 0 F l a j c h 12 [8,0,0,1,8,0,0,1] 1 [] 4 (ptr x) 22 1 [] λa f c c=>K i x en b a (Sat.Zx (A:=pM (s.cB t ly d i x en b cb)) f.sat) e k g ω ω
def Dv(k:PK)(j:Nat):Value:=if j=k.V.nl then .iface 154 (ptr (k.lb j))else if(k.V.ly j).k=1 then .iface 157 (ptr (k.lb j))else if(k.V.ly j).k=3 then .iface 163 (ptr (k.lb j))else if(k.V.ly j).k=4 then .iface 166 (ptr (k.lb j))else if(k.V.ly j).k=5 then .iface 171 (ptr (k.lb j))else if(k.V.ly j).k=6 then .iface 175 (ptr (k.lb j))else .iface 160 (ptr (k.lb j))
structure yF(k:PK)(C:aW):Prop where
 lay:∀j,j<k.V.nl->Has C (tQ (k.lb j) (Dv k (j+1)) j k.J)
 Ig:∀j,j<k.V.nl->(k.V.ly j).k=1->Has C (oR (k.lb j) 3 [i6 (k.V.ly j).a,i6 (k.V.ly j).b,i6 (k.V.ly j).c,i6 (k.V.ly j).d] false)
 Mi:∀j,j<k.V.nl->(k.V.ly j).k=3->Has C (oR (k.lb j) 3 [i6 (k.V.ly j).a,i6 (k.V.ly j).b] false)
 Lh:∀j,j<k.V.nl->(k.V.ly j).k=4->Has C (oR (k.lb j) 3 [i6 (k.V.ly j).a,i6 (k.V.ly j).b,i6 (k.V.ly j).c,i6 (k.V.ly j).d,i6 (k.V.ly j).e] false)
 Kj:∀j,j<k.V.nl->(k.V.ly j).k=5->Has C (oR (k.lb j) 3 [i6 (k.V.ly j).a,i6 (k.V.ly j).b] false)
 Tn:∀j,j<k.V.nl->(k.V.ly j).k=6->Has C (oR (k.lb j) 3 [i6 (k.V.ly j).a] false)
 OV:Has C (tQ (k.lb k.V.nl) .nilIface (-1) k.J)
 Wk:Has C (oR (k.lb k.V.nl) 3 [.slice (some k.ca) k.V.nc k.cc,.slice (some ⟨k.HD,0,none⟩) k.V.nc k.V.nc] false)
 OT:Has C (fR k.ca 2 (λj=>[i6 (k.V.st j),.slice (k.dL j) (k.V.nt j) (k.nj j)]) k.V.nc false)
 trn:∀c,c<k.V.nc->0<k.V.nt c->∃ta,k.dL c=some ta/\Has C (fR ta 3 (λj=>s9 (k.V.tr c j)) (k.V.nt c) false)
 err:Has C (oR 0 0 [.iface 233 (.agg #[.pointer (some ⟨1,136,none⟩)])] false)
def yF.up{k:PK}{a:aW}(h:yF k C)(u:∀r,Has C r->Has a r):yF k a:=⟨λj a=>u _ (h.lay j a),λj a b=>u _ (h.Ig j a b),λj a b=>u _ (h.Mi j a b),λj a b=>u _ (h.Lh j a b),λj a b=>u _ (h.Kj j a b),λj a b=>u _ (h.Tn j a b),u _ h.OV,u _ h.Wk,u _ h.OT,λc a z=>by
 let⟨_,_,b⟩:=h.trn c a z;simp_all,u _ h.err⟩
def yF.cons{k:PK}{C:aW}{r:aH}(h:yF k C):yF k (r::C):=h.up λ_ x=>x.cons
def yF.app{k:PK}{C:aW}(h:yF k C)(A:aW):yF k (A++C):=h.up λ_ x=>x.app A
structure Gq(t:Nat)(s0 s:PS):Prop where
 k:s.k=s0.k
 q:s.q=s0.q
 wb:s.wb=s0.wb
 al:s.l.al=s0.l.al
 ag:s.l.ag=s0.l.ag
 wl:s.l.wl=s0.l.wl
 wt:s.l.wt=s0.l.wt
 now:s.l.now=s0.l.now
 tl:s.l.tl=s0.l.tl
 tk:∀j,j≠t->∃x,s.l.tk j={s0.l.tk j with x:=x}
 tt:(s.l.tk t).c=(s0.l.tk t).c/\(s.l.tk t).f=(s0.l.tk t).f/\(s.l.tk t).p=(s0.l.tk t).p
 ou:∀j,j≠t->s.l.ou j=s0.l.ou j/\s.oh j=s0.oh j
 T:s.T=s0.T/\s.aS=s0.aS/\s.wk=s0.wk
 cm:∀i,(s.cm i).map Prod.fst=(s0.cm i).map Prod.fst
structure Gc(s0 s:PS)(w i:Nat):Prop where
 k:s.k=s0.k
 q:s.q=s0.q.take i++s0.l.al::s0.q.drop i
 wb:s.wb=s0.wb
 oh:s.oh=s0.oh
 l:∃z b,(z=2\/z=3)/\s.l=s0.l.fix w z b
 wn:w<s0.l.wl
 x:(s0.l.wt w).x=false
 e:(s0.l.wt w).e=false
 r:∃k:Nat,(s0.l.wt w).l=k/\k<s0.k.V.nl
 T:s.T=s0.T/\s.aS=s0.aS/\s.wk=s0.wk
 cm:s.cm=s0.cm
def Gu(t:Nat)(s0 s:PS):Prop:=∀P:PS->Prop,P s0->(∀a b,P a->Gq t a b->P b)->(∀a b w i,P a->Gc a b w i->P b)->P s
def Gu.refl(t:Nat)(s:PS):Gu t s s:=λ_ h _ _=>h
def Gu.trans{c b a:PS}(h:Gu t c b)(d:Gq t b a):Gu t c a:=λP c a b=>a _ _ (h P c a b) d
def Gu.uQ{c b a:PS}{w:Nat}(h:Gu t c b)(d:Gc b a w i):Gu t c a:=λP c b a=>a _ _ _ _ (h P c b a) d
structure Gb(s s1:PS)(t w kz i T c:Nat)(u:ay):Prop where
 k:s1.k=s.k
 q:s1.q=s.q.take i++s.l.al::s.q.drop i
 wb:s1.wb=s.wb
 oh:s1.oh=s.oh
 l:s1.l=s.l.begin t w kz
 T:s1.T=upd s.T s.l.tl T/\s1.aS=upd s.aS s.l.tl c/\s1.wk=upd s.wk s.l.tl u
 cm:s1.cm=s.cm
def Gm(s s1:PS):Prop:=s1=s\/s.l.tl<9990/\∃t w k i T c u,Gb s s1 t w k i T c u
structure Mo(s s':PS):Prop where
 k:s'.k=s.k
 tl:s.l.tl<=s'.l.tl
 T:∀j,j<s.l.tl->s'.T j=s.T j/\s'.aS j=s.aS j/\s'.wk j=s.wk j
 tk:∀j,j<s.l.tl->(s'.l.tk j).c=(s.l.tk j).c/\(s'.l.tk j).f=(s.l.tk j).f/\(s'.l.tk j).p=(s.l.tk j).p
 wl:s.l.wl<=s'.l.wl
 wb:∀i,i<s.l.wl->s'.wb i=s.wb i/\(s'.cm i).map Prod.fst=(s.cm i).map Prod.fst
 wt:∀i,i<s.l.wl->(s'.l.wt i).t=(s.l.wt i).t/\(s'.l.wt i).l=(s.l.wt i).l
def Mo.refl(s:PS):Mo s s:=⟨rfl,az _,λ_ _=>⟨rfl,rfl,rfl⟩,λ_ _=>⟨rfl,rfl,rfl⟩,az _,λ_ _=>⟨rfl,rfl⟩,λ_ _=>⟨rfl,rfl⟩⟩
def Mo.trans{a b c:PS}(h:Mo a b)(d:Mo b c):Mo a c:=by
 refine⟨d.k.trans h.k,aT h.tl d.tl,λj a=>?_,λj a=>?_,aT h.wl d.wl,λi b=>?_,λi b=>?_⟩
 .let⟨g,f,l⟩:=h.T j a;let⟨e,c,k⟩:=d.T j (ga a h.tl);simp_all
 .let⟨g,f,l⟩:=h.tk j a;let⟨e,c,k⟩:=d.tk j (ga a h.tl);omega
 .let⟨g,f⟩:=h.wb i b;let⟨e,c⟩:=d.wb i (ga b h.wl);simp_all
 .let⟨g,f⟩:=h.wt i b;let⟨e,c⟩:=d.wt i (ga b h.wl);omega
def Gq.mo{a s:PS}(h:Gq t a s):Mo a s:=by
 refine⟨h.k,pK h.tl.symm,λj _=>⟨by rw[h.T.1],by rw[h.T.2.1],by rw[h.T.2.2]⟩,λj _=>?_,pK h.wl.symm,λi _=>⟨by rw[h.wb],h.cm i⟩,λi _=>by rw[h.wt];omega⟩;by_cases e:j=t
 .rw[e];exact h.tt
 .let⟨x,a⟩:=h.tk j e;simp_all
def Gc.mo{a s:PS}{w:Nat}(h:Gc a s w i):Mo a s:=by
 let⟨z,b,_,a⟩:=h.l;refine⟨h.k,by rw[a];exact az _,λj _=>⟨by rw[h.T.1],by rw[h.T.2.1],by rw[h.T.2.2]⟩,λj _=>by rw[a];exact⟨rfl,rfl,rfl⟩,by rw[a];exact az _,λi _=>⟨by rw[h.wb],by rw[h.cm]⟩,λj _=>?_⟩;rw[a];by_cases e:j=w
 .subst e;simp[LS.fix,LS.put,upd]
 .simp[LS.fix,LS.put,upd,e]
def Gb.mo{s a:PS}{w c:Nat}{u:ay}(h:Gb s a t w k i T c u):Mo s a:=by
 refine⟨h.k,by rw[h.l];exact Nat.le_succ _,λj a=>by rw[h.T.1,h.T.2.1,h.T.2.2];simp[upd,iS a],λj a=>by rw[h.l];simp[LS.begin,LS.put,upd,iS a],by rw[h.l];exact az _,λi _=>⟨by rw[h.wb],by rw[h.cm]⟩,λj _=>?_⟩;rw[h.l];by_cases e:j=w
 .subst e;simp[LS.begin,LS.put,upd]
 .simp[LS.begin,LS.put,upd,e]
def Gm.mo{s a:PS}(h:Gm s a):Mo s a:=by
 rcases h with rfl|⟨_,t,w,k,i,T,c,u,h⟩
 .exact Mo.refl _
 .exact h.mo
structure TE(I:Type) where
 Ok:I->Addr->Bool->Prop
 Ψ:I->Goroutine->World->Prop
 Bd:I->Nat
 O:I->List aH
 s0:I->PS
 pS:I->Nat
 Ch:I->List (Nat×Nat)
 T:Nat
 ch:Nat
 c:Int
 i0:PS
abbrev TE.P{I:Type}(E:TE I)(p:I)(s:PS):List aH:=gS s++E.O p
abbrev TE.me{I:Type}(E:TE I)(D:PK)(t:Nat):aH:=wF E.T D.A t E.c E.ch
def kT{E:TE I}{D:PK}:Has (E.me D t::M) (E.me D t):=⟨rfl,0,rfl⟩
structure Cp{I:Type}(E:TE I)(D:PK)(t:Nat)(p:I)(s:PS):Prop where
 gu:Gu t (E.s0 p) s
 hk:s.k=D
 tn:t<s.l.tl
 hT:s.T t=E.T/\s.aS t=E.ch/\(s.l.tk t).c=E.c
 mo:Mo E.i0 s
 JN:∀j,j<s.l.tl->(s.T j,s.aS j)∈E.Ch p
structure Cn{I:Type}(E:TE I)(D:PK)(t:Nat)(p:I)(s:PS)(w:aj)(R:aW):Prop where
 sat:Sat (E.Ok p) w (pM s++(E.me D t::(R++E.P p s)))
 pv:PV (E.Ok p) s (bA s)
 qi:QI s
 fl:Flat (R++E.O p)
 eH:yF D R
 bd:E.Bd p<=w.heap.size
 cp:Cp E D t p s
 ln:∀k,k<D.V.nl->(D.V.ly k).k=5->yV (s.lq k) s.l.wl s.l.wt k
 ti:TI s
def Cn.hk{I:Type}{E:TE I}{D:PK}{t:Nat}{p:I}{s:PS}{w:aj}{R:aW}(C:Cn E D t p s w R):s.k=D:=C.cp.hk
def Cn.tn{I:Type}{E:TE I}{D:PK}{t:Nat}{p:I}{s:PS}{w:aj}{R:aW}(C:Cn E D t p s w R):t<s.l.tl:=C.cp.tn
def Cp.gq{E:TE I}{D:PK}{p:I}{s a:PS}(C:Cp E D t p s)(h:Gq t s a):Cp E D t p a:=
 ⟨C.gu.trans h,h.k.trans C.hk,by rw[h.tl];exact C.tn,by rw[h.T.1,h.T.2.1,h.tt.1];exact C.hT,C.mo.trans h.mo,λj a=>by rw[h.T.1,h.T.2.1];exact C.JN j (by rw[<-h.tl];exact a)⟩
def Cp.gc{E:TE I}{D:PK}{p:I}{s a:PS}{w:Nat}(C:Cp E D t p s)(h:Gc s a w i):Cp E D t p a:=by
 have a:=h.l;let⟨z,b,_,a⟩:=a;exact⟨C.gu.uQ h,h.k.trans C.hk,by rw[a];exact C.tn,by rw[h.T.1,h.T.2.1,a];exact C.hT,C.mo.trans h.mo,λj c=>by rw[h.T.1,h.T.2.1];rw[a]at c;exact C.JN j c⟩
abbrev u0(V:Ev0)(U:LS->Prop)(m t wn:Nat)(c:Int)(L:LS):Prop:=OnW (Fin V U m) V t wn c L
def LS.tH(L:LS)(wn:Nat)(b:Bk):LS:={L with wt:=upd L.wt wn {L.wt wn with b:=b}}
def E5(L:LS)(t:Nat)(l d:Int)(cb:Bool):(L.wait t l d cb).tH L.wl ⟨0,0,[]⟩=L.wait t l d cb:=by
 unfold LS.tH LS.wait LS.put LS.cB;simp only;congr 1;funext i;unfold upd;simp_all
def j8{l b:aW}(h:∀f:aH->Nat,(l.map f).sum=(b.map f).sum):l.Perm b:=by
 classical
 refine List.perm_iff_count.2 λa=>?_;have e:∀l:List aH,l.count a=(l.map λr=>if r=a then 1 else 0).sum:=λl=>by
  induction l with
  |nil=>rfl
  |cons x l a=>grind
 simp_all
def E7:Flat M↔∀r∈M,r.row=none:=⟨λh r b=>by
 let⟨i,a⟩:=u9 b;exact h i r (by rw[dF];exact a),λh i r a=>h r (by rw[dF]at a;grind)⟩
structure JL(t:Nat)(s s1:PS)(ly d:Int)(i x:Nat)(b:Bk)(cb:Bool):Prop where
 k:s1.k=s.k
 q:s1.q=s.q.take i++s.l.al::s.q.drop i
 wb:s1.wb=upd s.wb s.l.wl x
 oh:s1.oh=s.oh
 l:s1.l=(s.l.wait t ly d cb).tH s.l.wl b
 T:s1.T=s.T/\s1.aS=s.aS/\s1.wk=s.wk
 cm:∀j,j<s.l.wl->s1.cm j=s.cm j
structure jF{I:Type}(E:TE I)(D:PK)(U:LS->Prop)(t:Nat):Prop where
 V:wM D.V
 it:t<E.i0.l.tl
 f:∀p,aB prog false (DX (E.Ok p)) (E.Ψ p)
 hB:∀p (a:Addr) (wr:Bool),E.Bd p<=a.block->E.Ok p a wr
 wait:∀(p:I)(s s1 s2:PS)(w:aj)(i x:Nat)(ly:Nat)(d:Int)(b:Bk)(cb:Bool)(c:aC)(cs:cO)(R:aW)(m:Nat),Cp E D t p s->TI s->ly<=D.V.nl->(cb=true->ly<D.V.nl)->JL t s s1 ly d i x b cb->Gm s1 s2->(∀j,j<s2.l.tl->(s2.T j,s2.aS j)∈E.Ch p)->
  Sat (E.Ok p) w (pM s2++(E.me D t::(R++E.P p s2)))->PV (E.Ok p) s2 (bA s2)->QI s2->TI s2->(∀k,k<D.V.nl->(D.V.ly k).k=5->yV (s2.lq k) s2.l.wl s2.l.wt k)->(∀k,k<D.V.nl->(D.V.ly k).k=5->(s2.f k).s=true->(s2.f k).g≠x)->(∀j,j<s2.l.tl->(s2.bf j).s=true->(s2.bf j).g≠x)->Flat (R++E.O p)->yF D R->E.Bd p<=w.heap.size->Fin D.V U m none s2.l->m<=E.pS p->
  (∀p' s' w' m' (z:Int),m'<m->m'<=E.pS p'->Cn E D t p' s' w' R->u0 D.V U m' t s.l.wl z s'.l->(s'.l.wt s.l.wl).l=ly->(ly=D.V.nl->(s'.l.wt s.l.wl).b=b)->(s'.l.tk t).a=(s.l.tk t).a->Mo s2 s'/\(z≠1->(s'.l.wt s.l.wl).x=true/\(s'.l.wt s.l.wl).z=z)->(s'.l.tk t).q=(s.l.tk t).q->E.Ψ p' (G (c.finish (i6 z)) cs) w')->
  E.Ψ p (G (Frame.enter prog 152 #[ptr x] .normal) (c::cs)) w
 born:∀(p:I)(g:aV)(w:aj)(M:aW)(T j c k:Nat)(cl:Int),w.heap[c]? =some (.chan 0 #[] false k k false)->E.Bd p<=c->E.Bd p<=w.heap.size->Sat (E.Ok p) w M->Has M (wF T D.A j cl c)->
  (∀p',(∀(a:Addr)(wr:Bool),E.Ok p a wr->(wr=true->a≠⟨T,3,none⟩)->E.Ok p' a wr)->E.O p'=E.O p->E.s0 p'=E.s0 p->E.pS p'=E.pS p->E.Bd p<=E.Bd p'->E.Bd p'<=w.heap.size->(T,c)∈E.Ch p'->(∀q∈E.Ch p,q∈E.Ch p')->E.Ψ p' g w)->E.Ψ p g w
def K4{s:PS}(b:k<s.k.V.nl):∀r∈gR (s.k.V.ly k) (s.k.lb k) (s.l.gt k) (s.f k) (s.lq k),r∈gS s:=λr a=>gU _ (mL.2 ⟨k,aZ.2 b,a⟩)
def V6{y:ju}{g:Gt}{f:Fb}(a:y.k=5):fR ⟨f.g,f.o,none⟩ 1 f.v (rK f) true∈gR y lb g f q:=by unfold gR;simp_all
def BF{s:PS}(h:Sat Ok w M)(b:∀r∈gS s,r∈M)(a:k<s.k.V.nl)(c:(s.k.V.ly k).k=5)(d:(s.f k).s=true):(s.f k).g<w.heap.size:=by
 have d:=b _ (K4 a _ (V6 c));let⟨i,a⟩:=u9 d;have b:=h.val i _ (by rw[dF];exact a) (0,0) ⟨by show 0<rK (s.f k);unfold rK;grind,aD⟩;exact au b
def Cn.Ej{E:TE I}{D:PK}{p:I}{s:PS}(C:Cn E D t p s w R):∀r∈gS s,r∈pM s++(E.me D t::(R++E.P p s)):=λr a=>gF _ (aP _ (gF _ (gU _ a)))
def rG{s:PS}(h:Sat Ok w M)(b:∀r∈gS s,r∈M)(a:j<s.l.tl)(c:(s.bf j).s=true):(s.bf j).g<w.heap.size:=by
 have c:=b (fR ⟨(s.bf j).g,(s.bf j).o,none⟩ 1 (s.bf j).v (rK (s.bf j)) true) ((jw s a).mem_iff.2 (by simp[j7]));let⟨i,a⟩:=u9 c;have b:=h.val i _ (by rw[dF];exact a) (0,0) ⟨by show 0<rK (s.bf j);unfold rK;grind,aD⟩;exact au b
def Cn.row{E:TE I}{D:PK}{p:I}{s:PS}(C:Cn E D t p s w R)(c:k<D.V.nl)(d:(D.V.ly k).k=5)(a:(s.f k).s=true):(s.f k).g<w.heap.size:=
 BF C.sat (λr b=>gF _ (aP _ (gF _ (gU _ b)))) (by rw[C.hk];exact c) (by rw[C.hk];exact d) a
def Cn.TJ{E:TE I}{D:PK}{p:I}{s:PS}(C:Cn E D t p s w R):Flat (R++E.P p s):=C.fl.left.app (Flat.app (λi r b=>r9 s (λr a=>(C.pv.cx r a).2) r (by rw[dF]at b;grind)) C.fl.right)
def Sat.Es{a b:ay}(h:Sat Ok w (bR x [a,b]::M)):Sat Ok w (oR x 1 [b] true::oR x 0 [a] false::M):=by
 rw[sat_iff]at h ⊢;let⟨q,l⟩:=h;have H:=q _ (bI ..);have i:∀{o:Nat}{v:ay}{wr:Bool}(j:Ix),(oR x o [v] wr).has j->j=(0,0):=fun{o v wr} j c=>by
  let⟨q,l⟩:=c;grind
 have p:(bR x [a,b]).has (0,0):=⟨aD,(by decide:0<2)⟩;have m:(bR x [a,b]).has (0,1):=⟨aD,(by decide:1<2)⟩;refine⟨λr f=>?_,iG.2 ⟨λr f a j k c d e=>?_,iG.2 ⟨λr f a j k c d e=>?_,(iG.1 l).2⟩⟩⟩
 .rcases ak.1 f with rfl|f
  .exact⟨λj c=>by rw[i j c];exact H.val (0,1) m,λj c=>by rw[i j c];exact H.ok (0,1) m,λ_ j k c d _=>by rw[i j c,i k d],λg e n z=>by cases z⟩
  .rcases ak.1 f with rfl|f
   .exact⟨λj c=>by rw[i j c];exact H.val (0,0) p,λj c=>by rw[i j c];exact⟨(H.ok (0,0) p).1,λz=>(by cases z)⟩,λz=>(by cases z),λg e n z=>(by cases z)⟩
   grind
 .rw[i j c]at e;rcases ak.1 f with rfl|f
  .rw[i k d]at e;simp at e
  .exact(iG.1 l).1 r f (.inl rfl) (0,1) k m d e
 .rw[i j c]at e;exact(iG.1 l).1 r f (.inl rfl) (0,0) k p d e
abbrev PS.O4(s:PS)(t:Nat)(ly d:Int)(i x:Nat)(en:ay)(eb:mW)(b:Bk)(cb:Bool):PS:={s.cB t ly d i x en eb cb with l:=(s.l.wait t ly d cb).tH s.l.wl b}
def zk{s a:PS}{b:Bk}(W:JL t s a ly d i x b cb):wS a=wS s++(oR x 1 [i6 0] true::oR x 0 [ptr (s.T t)] false::lf a s.l.wl):=by
 have c:a.l.wl=s.l.wl+1:=by rw[W.l];rfl
 have b:∀j,j<s.l.wl->wR a j=wR s j:=λj b=>by
  unfold wR lf;rw[W.T.1,W.wb,W.l,W.cm j b];simp only[LS.tH,LS.wait,LS.cB,LS.put,upd,af (iS b)]
 have b:wR a s.l.wl=oR x 1 [i6 0] true::oR x 0 [ptr (s.T t)] false::lf a s.l.wl:=by
  unfold wR;rw[W.T.1,W.wb,W.l];simp[LS.tH,LS.wait,LS.cB,LS.put,upd,nJ]
 unfold wS;rw[c,rj,yZ,List.flatMap_singleton,b,List.flatMap_def,List.flatMap_def];congr 2;simp_all
def AM{s:PS}(H:TI s)(a:j<s.l.tl):j9 (upd s.wb s.l.wl x) (s.l.tk j).o=j9 s.wb (s.l.tk j).o:=by
 unfold j9;rcases H.can j a with z|⟨w,k,b,a,_⟩
 .rw[z];rfl
 .rw[b];simp[upd,iS a]
def GQ{s a:PS}{b:Bk}(H:TI s)(c:t<s.l.tl)(W:JL t s a ly d i x b cb)(f:a.f=s.f)(d:a.lq=s.lq)(c:a.cx=s.cx)(b:a.bf=s.bf/\a.bl=s.bl):(gS a).Perm (j7 a t++(oR x 1 [i6 0] true::oR x 0 [ptr (s.T t)] false::(lf a s.l.wl++tX s t))):=by
 have i:gA a=gA s:=by unfold gA;rw[W.k,f,d,W.l];rfl
 have k:a.l.tl=s.l.tl:=by rw[W.l];rfl
 have g:((List.range s.l.tl).flatMap λj=>if j=t then[]else j7 a j)=(List.range s.l.tl).flatMap λj=>if j=t then[]else j7 s j:=by
  rw[List.flatMap_def,List.flatMap_def];congr 1;refine u7 λj d=>?_;by_cases e:j=t
  .simp_all
  .rw[af e,af e];have f:a.l.tk j=s.l.tk j:=by rw[W.l];simp[LS.tH,LS.wait,LS.cB,LS.put,upd,e]
   unfold j7;rw[f,W.T.1,W.T.2.1,W.k,W.wb,b.1,b.2,AM H (aZ.1 d)]
 refine(jw a ω).trans (eN _ ?_);unfold tX;rw[i,k,g,zk W,W.k,c];have h:=fA (gA s++wS s) (oR x 1 [i6 0] true::oR x 0 [ptr (s.T t)] false::lf a s.l.wl) (oR s.k.A 2 [i6 s.l.tl] true::(((List.range s.l.tl).flatMap λj=>if j=t then[]else j7 s j)++s.cx));simp_all
def Vz{s:PS}{a:mW}{b:Bk}:JL t s (s.O4 t ly d i x en a b cb) ly d i x b cb:=⟨rfl,rfl,rfl,rfl,rfl,⟨rfl,rfl,rfl⟩,λj a=>af (iS a)⟩
section
variable{E:TE I}{D:PK}{U:LS->Prop}
def Cn.lqw{p:I}{s:PS}(C:Cn E D t p s w R):∀k,k<s.k.V.nl->(s.k.V.ly k).k=5->∀w∈s.lq k,w<s.l.wl:=λk a b w c=>((C.ln k (by rw[C.hk]at a;exact a) (by rw[C.hk]at b;exact b)).mem w c).1
def Cn.mine{p:I}{s:PS}(C:Cn E D t p s w R):Sat (E.Ok p) w (pM s++(j7 s t++(E.me D t::(R++(tX s t++E.O p))))):=by
 refine C.sat.perm (eN _ ?_);have h:=((jw s C.tn).append_right (E.O p)).append_left (E.me D t::R);rw[dU]at h;refine(List.Perm.trans (l₂:=(E.me D t::R)++(gS s++E.O p)) (.refl _) h).trans ?_;exact fA ..
def Cn.lnw{p:I}{s:PS}(C:Cn E D t p s w R){ly:Nat}{b:Bk}(a:ly<D.V.nl->(D.V.ly ly).k≠5):∀k,k<D.V.nl->(D.V.ly k).k=5->yV (s.lq k) ((s.l.wait t ly d cb).tH s.l.wl b).wl ((s.l.wait t ly d cb).tH s.l.wl b).wt k:=λk a c=>by
 have:=(C.ln k a c).cB (x:=⟨t,ly,false,false,b,0,0⟩) (λz=>by
  grind)
 have e:((s.l.wait t ly d cb).tH s.l.wl b).wt=upd s.l.wt s.l.wl ⟨t,ly,false,false,b,0,0⟩:=by funext j;simp only[LS.tH,LS.wait,LS.cB,LS.put,upd];simp_all
 rw[e];exact this
def TI.tH{s:PS}{t:Nat}{ly d:Int}{i x:Nat}{en:ay}{g:mW}{b:Bk}{cb:Bool}(H:TI (s.cB t ly d i x en g cb)):TI (s.O4 t ly d i x en g b cb):=by
 have e:∀j,(((s.l.wait t ly d cb).tH s.l.wl b).wt j).l=((s.l.wait t ly d cb).wt j).l/\(((s.l.wait t ly d cb).tH s.l.wl b).wt j).t=((s.l.wait t ly d cb).wt j).t:=λj=>by
  unfold LS.tH;simp only[upd];grind
 refine⟨H.nc,λw g=>by rw[(e w).2];exact H.wt w g,λj a c S z=>?_,H.cl,λj m l=>?_,λj a=>⟨(H.ch j a).1,λc n=>?_⟩,λj a=>?_,λj a z=>?_,λc m l j w i g=>H.al c m l j w i (by rw[<-(e w).2];exact g)⟩
 .have f:j≠s.l.wl:=λh=>by subst h;simp[upd]at z
  have:=H.cm j a c S z;have e:((s.l.wait t ly d cb).tH s.l.wl b).wt j=(s.l.wait t ly d cb).wt j:=af f;simp_all
 .let⟨w,o,p,i,k,S,g,f,h,e⟩:=H.wk j m l;exact⟨w,o,p,i,k,S,g,f,ξ,e⟩
 .let⟨g,f,h,w,e,i,l⟩:=(H.ch j a).2 c n;exact⟨g,f,h,w,e,i,ξ⟩
 .exact(H.can j a).imp id fun⟨w,k,g,f,h,e⟩=>⟨w,k,g,f,ξ,e⟩
 .have c:(((s.l.wait t ly d cb).tH s.l.wl b).wt j).x=((s.l.wait t ly d cb).wt j).x/\(((s.l.wait t ly d cb).tH s.l.wl b).wt j).z=((s.l.wait t ly d cb).wt j).z:=by
   unfold LS.tH;simp only[upd];grind
  rw[c.2];rw[c.1]at z;exact H.zz j a z
def lG(W:jF E D U t){p:I}{s:PS}(C:Cn E D t p s w R)(k:s.l.al<1000000)(n:0<=s.l.now/\s.l.now<1000000000000){ly:Nat}(n:ly<D.V.nl)(n:0<=d/\d<=100000)(K:∀i x en a w',Sat (E.Ok p) w' (pM (s.cB t ly d i x en a true)++(E.me D t::(R++E.P p (s.cB t ly d i x en a true))))->PV (E.Ok p) (s.cB t ly d i x en a true) (bA (s.cB t ly d i x en a true))->QI (s.cB t ly d i x en a true)->TI (s.cB t ly d i x en a true)->i<=s.q.length->w.heap.size<=x->x<w'.heap.size->E.Ψ p (G (c.finish (ptr x)) cs) w'):
 E.Ψ p (G (Frame.enter prog 161 #[ptr E.T,i6 d] .normal) (c::cs)) w:=by
 have c:=C.hk;have l:=C.mine;unfold j7 at l;rw[C.cp.hT.1]at l;refine pL (t:=t) (aS:=E.ch) (tc:=E.c) (ly:=ly) (cb:=true) (W.f p) (W.hB p) l (by rw[c];exact(kT.cons).cons) C.pv C.qi (((Flat.app C.fl.left (Flat.app (E7.2 λr h=>?_) C.fl.right)).cons rfl).cons rfl|>.cons rfl) C.lqw C.bd (Nat.lt_of_le_of_lt C.qi.len k) ω ω λi x en a w' q g u o e b=>?_
 .exact r9 s (λr h=>(C.pv.cx r h).2) r ((jw s C.tn).mem_iff.2 (gF _ h))
 .refine K i x en a w' ?_ g u (C.ti.cB C.tn λ_=>⟨ly,rfl,ξ⟩) o e b;have c:JL t s (s.cB t ly d i x en a true) ly d i x ⟨0,0,[]⟩ true:=⟨rfl,rfl,rfl,rfl,(E5 ..).symm,⟨rfl,rfl,rfl⟩,λj b=>af (iS b)⟩;have m:=GQ C.ti C.tn c rfl rfl rfl ⟨rfl,rfl⟩;have c:j7 (s.cB t ly d i x en a true) t=[dO E.T (ptr x) (su (s.bf t) (s.bl t).length) (s.l.tk t).x (s.l.tk t).e,fR ⟨(s.bf t).g,(s.bf t).o,none⟩ 1 (s.bf t).v (rK (s.bf t)) true,wF E.T s.k.A t (s.l.tk t).c (s.aS t)]:=by
   unfold j7 j9;rw[C.cp.hT.1];simp[LS.wait,LS.cB,LS.put,upd]
  have b:lf (s.cB t ly d i x en a true) s.l.wl=[]:=by unfold lf;simp[upd]
  rw[c,b,C.cp.hT.1]at m;have c:=((q.perm (fA (pM (s.cB t ly d i x en a true)) [dO E.T (ptr x) (su (s.bf t) (s.bl t).length) (s.l.tk t).x (s.l.tk t).e] _)).perm (List.Perm.cons _ (eY (l₁:=pM (s.cB t ly d i x en a true)))));have b:=(c.perm (List.Perm.swap _ _ _)).Es;refine b.perm ?_;have b:=((m.append_right (E.O p)).append_left (E.me D t::R)).append_left (pM (s.cB t ly d i x en a true));refine List.Perm.trans ?_ b.symm;exact j8 λf=>by simp_all;omega
def HX(W:jF E D U t){p:I}{s:PS}(C:Cn E D t p s w R)(A:s.l.al<1000000)(M:0<=s.l.now/\s.l.now<1000000000000)(M:0<=d/\d<=100000)(b:Bk)(N:Fin D.V U m none ((s.l.wait t D.V.nl d false).tH s.l.wl b))(u:m<=E.pS p)(K:∀h g w' l,l<m->l<=E.pS h->Cn E D t h g w' R->u0 D.V U l t s.l.wl 1 g.l->(g.l.wt s.l.wl).l=(D.V.nl:Int)->(g.l.wt s.l.wl).b=b->(g.l.tk t).a=(s.l.tk t).a->(g.l.tk t).q=(s.l.tk t).q->E.Ψ h (G (c.finish (.tuple #[])) cs) w'):
 E.Ψ p (G (Frame.enter prog 149 #[ptr E.T,i6 d] .normal) (c::cs)) w:=by
 have F:=W.f p;have o:=W.hB p;have c:=C.bd;have c:=C.sat;refine cJ func149 c 8 λc c c c a y c G w=>Rb F o a c G 3 [] 1 [] [(5,i6 d),(4,ptr E.T)] 3 1 [] λc c G c w w w=>ah F a c G 6 151 #[ptr E.T,i6 d] λc c=>?_;have w:=C.hk;refine uC (t:=t) (aS:=E.ch) (tc:=E.c) (ly:=D.V.nl) (cb:=false) F o G.sat (by rw[w];exact kT) C.pv C.qi (C.TJ.cons rfl) C.lqw ω (Nat.lt_of_le_of_lt C.qi.len A) ω ω λi x en e w G q O A A A=>c _ _ _ G λc c L c A=>GM F a c 7 152 #[ptr x] ρ ρ δ L λc n=>?_;have J:JL t s (s.O4 t D.V.nl d i x en e b false) D.V.nl d i x b false:=Vz;refine W.wait p s (s.O4 t D.V.nl d i x en e b false) (s.O4 t D.V.nl d i x en e b false) w i x D.V.nl d b false c _ R m C.cp C.ti (az _) (λz=>by cases z) J (.inl rfl) C.cp.JN ?_ {q with} {O with} (C.ti.cB C.tn (λz=>by cases z)).tH (C.lnw λz=>ω) (λk q m c=>by have:=C.row q m c;grind) (λj j c=>by have:=rG C.sat C.Ej j c;grind) C.fl C.eH ω N u λh g c l z r v B f1 f2 f3 f4 f5 f6=>?_
 .have H:=GQ C.ti C.tn J rfl rfl rfl ⟨rfl,rfl⟩;have j:j7 (s.O4 t D.V.nl d i x en e b false) t=j7 s t:=by
   unfold j7;have c:(s.O4 t D.V.nl d i x en e b false).l.tk t={s.l.tk t with w:=s.l.wl}:=by simp[LS.tH,LS.wait,LS.cB,LS.put,upd]
   rw[c];show[dO (s.T t) (j9 (upd s.wb s.l.wl x) (s.l.tk t).o) _ _ _,_,_]=_;rw[AM C.ti C.tn]
  have c:lf (s.O4 t D.V.nl d i x en e b false) s.l.wl=[]:=by unfold lf;simp[upd]
  rw[j,c,C.cp.hT.1]at H;have b:=(L.sat.perm (eY (l₁:=pM (s.cB t D.V.nl d i x en e false)))).Es;have c:=(jw s C.tn);refine b.perm ?_;have b:=((H.append_right (E.O p)).append_left (E.me D t::R)).append_left (pM (s.cB t D.V.nl d i x en e false));refine List.Perm.trans ?_ b.symm;have m:=(((c.append_right (E.O p)).append_left (E.me D t::R)).append_left (pM (s.cB t D.V.nl d i x en e false))).append_left [oR x 1 [i6 0] true,oR x 0 [ptr E.T] false];refine List.Perm.trans m ?_;exact j8 λf=>by simp_all;omega
 obtain rfl:z=1:=by
  rcases f1.2 with z|⟨k,b,b,_⟩
  .exact z.1
  omega
 refine n.ret _ _ _ _ _ B.sat λb b d b c=>?_;have c:=B.bd;replace F:=W.f h;replace o:=W.hB h;refine Rb F o a b d 1 [] 1 [] [] 6 1 [] λb d c b e e e=>cC F c a y b [] (.tuple #[]) ?_;exact K h g d l r v {B with sat:=c.sat,bd:=by omega} f1 f2 (f3 rfl) f4 f6
end
abbrev PS.yK(s:PS)(t:Nat)(n:Int):PS:={s with l:={s.l with us:=upd s.l.us t n}}
def JF(F:aB prog main (DX Ok) Ψ)(m:HB B Ok){s:PS}(i:Sat Ok w (pM s++C))(a:yF s.k C)(b:t<s.k.V.nc)(k:s.l.us t=n)(c:n<1000000)(c:B<=w.heap.size)(K:∀w',Sat Ok w' (pM (s.yK t (n+1))++C)->w.heap.size<=w'.heap.size->Ψ (G (cf.finish (.tuple #[i6 n,.agg (s9 (aU s.k.V t n)).toArray])) cs) w'):
 Ψ (G (Frame.enter prog 146 #[ptr (s.k.lb s.k.V.nl),i6 t] .normal) (cf::cs)) w:=by
 replace i:=(i.get (a.Wk.app (pM s))).get ((a.OT.app (pM s)).cons);have D:IntKind.wrap .i64 ((n:Int)+1)=(n:Int)+1:=aA ω ω;by_cases l:n<s.k.V.nt t
 .let⟨_,x,c⟩:=a.trn t b ω;replace i:=i.get ((c.app (pM s)).cons.cons);refine cJ func146 i 43 λL P b J a h g B u=>aX (λM=>bR (b) [i6 0,i6 0,i6 0]::(M)) 1 F m a g B 26 [3,0,1,1,9,t,0,101,3,0,1,1,9,t,0,101] 26 [] [(22,i6 (IntKind.wrap .i64 (s.l.us t+1))),(19,i6 t),(18,.slice (some ⟨s.k.HD,0,none⟩) s.k.V.nc s.k.V.nc),(6,i6 (s.l.us t)),(5,ptr b),(0,ptr (s.k.lb s.k.V.nl)),(1,i6 t)] 26 1 [] [] [] [((↑t:Int),s.k.V.nc),((↑t:Int),s.k.V.nc)] [(2,(t,s.k.V.nc))] λO H p d r w A=>?_;rw[k,D]at p;refine aX (λM=>bh 9 (t,0) (i6 ((↑n:Int)+1)) (M)) 1 F m a d p 25 [9,t,0,101,3,0,0,1,2,t,1,101] 106 [] [(7,.slice (s.k.dL t) (s.k.V.nt t) (s.k.nj t)),(6,i6 n),(5,ptr b)] 51 3 [] [] [(decide ((↑n:Int)<(↑(s.k.V.nt t):Int)),true)] [((↑t:Int),s.k.V.nc),((↑t:Int),s.k.V.nc)] [(2,(t,s.k.V.nc))] λN C o c q v y=>?_;rw[x]at o;refine aX (λM=>bh 0 (0,2) (i6 (s.k.V.tr t n).t) (bh 0 (0,1) (i6 (s.k.V.tr t n).n) (bh 0 (0,0) (i6 (s.k.V.tr t n).k) (M)))) 1 F m a c o 3 [1,n,0,103,0,0,0,3] 6 [6] [(4,i6 n),(5,ptr b)] 54 3 [6] [] [] [((↑n:Int),s.k.V.nt t)] [(3,(n,s.k.V.nt t))] λx G E x I I I=>cC F E a h x [0,0,0,3] (.tuple #[i6 n,.agg #[i6 (s.k.V.tr t n).k,i6 (s.k.V.tr t n).n,i6 (s.k.V.tr t n).t]]) ?_;have e:aU s.k.V t n=s.k.V.tr t n:=by unfold aU;rw[sJ l]
  rw[e]at K;exact K G (E.sat.tail.tail.tail.tail.re 5 rfl rfl _ λj _ f _=>fT (C:=λz=>[i6 z]) rfl aD j f) ω
 .refine cJ func146 i 43 λL P b J a h g B u=>aX (λM=>bR (b) [i6 0,i6 0,i6 0]::(M)) 1 F m a g B 26 [2,0,1,1,8,t,0,101,2,0,1,1,8,t,0,101] 26 [] [(22,i6 (IntKind.wrap .i64 (s.l.us t+1))),(19,i6 t),(18,.slice (some ⟨s.k.HD,0,none⟩) s.k.V.nc s.k.V.nc),(6,i6 (s.l.us t)),(5,ptr b),(0,ptr (s.k.lb s.k.V.nl)),(1,i6 t)] 26 1 [] [] [] [((↑t:Int),s.k.V.nc),((↑t:Int),s.k.V.nc)] [(2,(t,s.k.V.nc))] λO H p d r w A=>?_;rw[k,D]at p;refine aX (λM=>bh 8 (t,0) (i6 ((↑n:Int)+1)) (bh 0 (0,0) (i6 1) (M))) 1 F m a d p 32 [8,t,0,101,2,0,0,1,1,t,1,101,0,0,0,3] 74 [] [(4,i6 n),(5,ptr b)] 58 2 [] [] [(decide ((↑n:Int)<(↑(s.k.V.nt t):Int)),false)] [((↑t:Int),s.k.V.nc),((↑t:Int),s.k.V.nc)] [(2,(t,s.k.V.nc))] λN C o c q v y=>cC F o a h c [0,0,0,3] (.tuple #[i6 n,.agg #[i6 1,i6 0,i6 0]]) ?_;have e:aU s.k.V t n=⟨1,0,0⟩:=by unfold aU;rw[af l]
  rw[e]at K;exact K C (o.sat.tail.tail.tail.re 5 rfl rfl _ λj _ f _=>fT (C:=λz=>[i6 z]) rfl aD j f) ω
def Ov(C:aW)(r:Value ⊕ Value)(b:Bk):Prop:=(b.k=1/\r=.inl (.tuple #[i6 b.n,.nilIface]))\/(b.k=2/\∃e,r=.inl (.tuple #[i6 0,e])/\Yu C e b.ch)\/(b.k=3/\r=.inr (.iface 182 (i6 b.n)))
def QI.dI{s:PS}(Q:QI s)(c a:Nat)(b:eX)(t:Nat)(num q n:Int):QI (s.dI c a b (s.l.say t num q n)):={Q with}
def TI.dI{s:PS}(Q:TI s)(c a:Nat)(b:eX)(t:Nat)(num q n:Int):TI (s.dI c a b (s.l.say t num q n)):={Q with}
def gY{a:aH}:(r::(A++(a::(R++O)))).Perm (A++(a::((r::R)++O))):=by
 have:=(eY (a:=r) (l₁:=A++[a]) (l₂:=R++O)).symm;simp_all
def Sat.fix{q:Nat}(h:Sat Ok w (bR q S::M)):Sat Ok w (oR q 0 S false::M):=
 h.G7 0 rfl (oR q 0 S false) (λj a=>⟨a,ψ,rfl⟩) (λz=>by cases z) rfl
def Sat.cast{a:aW}(h:Sat Ok w M)(e:M=a):Sat Ok w a:=e▸h
def NL{a:aH}:(X++(A++(a::(R++O)))).Perm (A++(a::((X++R)++O))):=by
 have:=fA X (A++[a]) (R++O);simp_all
def gM{a:aH}:(A++(a::((X++(Y++R))++O))).Perm (Y++(A++(a::((X++R)++O)))):=by
 have:=fA (A++(a::X)) Y (R++O);simp_all
def Sat.yg{q:Nat}(A:aW)(h:Sat Ok w (A++(bR q S::M))):Sat Ok w (A++(oR q 0 S false::M)):=
 (h.perm eY).fix.perm eY.symm
def Sat.ED{Z:aW}(h:Sat Ok w M)(a:∀r∈Z,Has M r):Sat Ok w Z:=h.dB λi r b=>by
 have:=a r (by rw[dF]at b;grind);exact⟨this.1,this.2⟩
def Has.in{a:aH}(h:Has R r):Has (A++(a::((X++R)++O))) r:=((h.app X).pre O).cons.app A
def bO:Flat M↔∀r∈M,r.row=none:=⟨λh r b=>by
 let⟨i,a⟩:=u9 b;exact h i r (by rw[dF];exact a),λh i r a=>h r (by rw[dF]at a;grind)⟩
def Flat.OC(h:Flat ((X++(Y++R))++O)):Flat ((X++R)++O):=by
 rw[bO]at h ⊢;grind
def AJ(A:aW){q:Nat}{a:aH}(h:Sat Ok w (bR q S::r::(A++(a::(b::R++O))))):Sat Ok w (A++(a::(([oR q 0 S false]++R)++O))):=
 ((Sat.BC (A:=[oR q 0 S false]) h.fix).perm (gY (A:=A))).sub (nN (List.Sublist.cons_cons _ (List.Sublist.cons_cons _ (List.sublist_cons_self _ _))) _)
def AK(A:aW){a:aH}(h:Sat Ok w (A++(a::(b::R++O)))):Sat Ok w (A++(a::(R++O))):=
 h.sub (nN (List.Sublist.cons_cons _ (List.sublist_cons_self _ _)) _)
section
variable{E:TE I}{D:PK}{U:LS->Prop}
def CL(W:jF E D U t){p:I}{s:PS}(C:Cn E D t p s w R)(b:s.l.el<1000000){q n:Int}(d:Has R (tQ lb wi num D.J))(K:∀a w',Cn E D t p a w' R->a.l=s.l.say t num q n->a.T=s.T->w.heap.size<=w'.heap.size->E.Ψ p (G (c.finish (.tuple #[])) cs) w'):
 E.Ψ p (G (Frame.enter prog 148 #[ptr lb,ptr E.T,i6 q,i6 n] .normal) (c::cs)) w:=by
 have a:=C.hk;refine Er (W.f p) (W.hB p) (t:=t) (aS:=E.ch) (wi:=wi) (num:=num) C.sat (by rw[a];exact(d.pre _).cons) (by rw[a,C.cp.hT.2.2];exact kT) C.pv.jr C.bd b λf a b w' e c d=>K (s.dI f a b (s.l.say t num q n)) w' ⟨e,{C.pv with jr:=c},C.qi.dI _ _ _ _ _ _ _,C.fl,C.eH,aT C.bd d,C.cp.gq ⟨rfl,rfl,rfl,rfl,rfl,rfl,rfl,rfl,rfl,λ_ _=>⟨_,rfl⟩,⟨rfl,rfl,rfl⟩,λ_ _=>⟨rfl,rfl⟩,⟨rfl,rfl,rfl⟩,λ_=>rfl⟩,C.ln,C.ti.dI _ _ _ _ _ _ _⟩ rfl rfl d
def iU(W:jF E D U t){p:I}{s:PS}(C:Cn E D t p s w R)(e:s.l.el<1000000){q n:Int}(f:Has R (tQ lb wi num D.J))(K:∀d w',Cn E D t p d w' R->d.l=s.l.say t num q n->w.heap.size<=w'.heap.size->E.Ψ p (G (c.finish (.tuple #[])) cs) w'):
 E.Ψ p (G (Frame.enter prog 148 #[ptr lb,ptr E.T,i6 q,i6 n] .normal) (c::cs)) w:=CL W C e f λd w' a b _ c=>K d w' a b c
def ML(W:jF E D U t){p:I}{s:PS}(C:Cn E D t p s w R)(a:Q<D.V.nc)(d:s.l.us Q=n)(b:n<1000000)(K:∀a w',Cn E D t p a w' R->a.l={s.l with us:=upd s.l.us Q (n+1)}->w.heap.size<=w'.heap.size->E.Ψ p (G (c.finish (.tuple #[i6 n,.agg (s9 (aU D.V Q n)).toArray])) cs) w'):
 E.Ψ p (G (Frame.enter prog 146 #[ptr (D.lb D.V.nl),i6 Q] .normal) (c::cs)) w:=by
 have a:=C.hk;refine a▸JF (W.f p) (W.hB p) (t:=Q) (n:=n) C.sat (by rw[a];exact yF.cons (C.eH.up λ_ x=>x.pre _)) ξ d b C.bd λw' c b=>?_;rw[a];exact K (s.yK Q (n+1)) w' ⟨c,{C.pv with},{C.qi with},C.fl,C.eH,aT C.bd b,C.cp.gq ⟨rfl,rfl,rfl,rfl,rfl,rfl,rfl,rfl,rfl,λ_ _=>⟨_,rfl⟩,⟨rfl,rfl,rfl⟩,λ_ _=>⟨rfl,rfl⟩,⟨rfl,rfl,rfl⟩,λ_=>rfl⟩,C.ln,{C.ti with}⟩ rfl b
def Cn.OT{p:I}{s:PS}(C:Cn E D t p s w R):∃Q:Nat,(s.l.tk t).c=Q/\E.c=Q/\Q<D.V.nc:=by
 let⟨c,a,b,_⟩:=C.ti.cl t C.tn;exact⟨c,a,by rw[<-C.cp.hT.2.2];exact a,by rw[<-C.hk];exact b⟩
end
def iq(V:Ev0)(j:Nat):Nat:=if j=V.nl then 145 else if(V.ly j).k=1 then 155 else if(V.ly j).k=3 then 166 else if(V.ly j).k=4 then 168 else if(V.ly j).k=5 then 177 else if(V.ly j).k=6 then 183 else 164
def dV{I:Type}(E:TE I)(D:PK)(U:LS->Prop)(t j:Nat):Prop:=∀(m:Nat)(p:I)(s:PS)(w:aj)(R:aW)(c:aC)(cs:cO),Cn E D t p s w R->Fin D.V U m (some (t,j,none)) s.l->m<=E.pS p->
 (∀m' p' s' w' X r b,m'<m->m'<=E.pS p'->Cn E D t p' s' w' (X++R)->Fin D.V U m' (some (t,j,some b)) s'.l->Ov X r b->(∀i,i<j->(s'.l.tk t).a i=(s.l.tk t).a i)->(∀i,i<j->(s'.l.tk t).q i=(s.l.tk t).q i)->E.Ψ p' (G (ends c r) cs) w')->
 E.Ψ p (G (Frame.enter prog (iq D.V j) #[ptr (D.lb j),ptr E.T] .normal) (c::cs)) w
def CR{V:Ev0}{U:LS->Prop}{L:LS}(h:Fin V U m (some (t,V.nl,none)) L)(b:(L.tk t).c=Q)(c:L.us Q=n):∃b,m=b+1/\qm V t L/\
 ((aU V Q n).t=0->Fin V U b (some (t,V.nl,some (cN (aU V Q n)))) ((({L with us:=upd L.us Q (n+1)}:LS).say t (-1) 1 n).say t (-1) 2 n))/\
 ((aU V Q n).t≠0->Fin V U b none (((({L with us:=upd L.us Q (n+1)}:LS).say t (-1) 1 n).wait t V.nl (aU V Q n).t false).tH L.wl ⟨(cN (aU V Q n)).k,(cN (aU V Q n)).n,⟨0,0,n⟩::(cN (aU V Q n)).ch⟩)):=by
 cases m with
 |zero=>exact h.elim
 |succ m=>
  let⟨b,_,_,d,a⟩:=h;have d:(L.tk t).c.toNat=Q:=ω
  refine⟨m,rfl,b,λb=>?_,λb=>?_⟩
  .simp only[LS.step,if_true,d,c,mY,b]at a;exact a
  .simp only[LS.step,if_true,d,c,mY,b,if_false]at a;exact a
def AL{V:Ev0}{U:LS->Prop}{a:Option Bk}{L:LS}(h:Fin V U m (some (t,j,a)) L):(L.tk t).p<=j:=by
 cases m with
 |zero=>exact h.elim
 |succ m=>exact h.2.2.1
def Cn.pp{E:TE I}{D:PK}{U:LS->Prop}{p b:I}{s a:PS}{c:aW}(d:Cn E D t b a w' c)(W:jF E D U t)(C:Cn E D t p s w R)(h:(s.l.tk t).p<=j):(a.l.tk t).p<=j:=by
 rw[(d.cp.mo.tk t W.it).2.2,<-(C.cp.mo.tk t W.it).2.2];exact h
def Eo{V:Ev0}(b:wM V)(a:t<V.nc)(n:Nat):(1<=(aU V t n).k/\(aU V t n).k<=4)/\(0<=(aU V t n).t/\(aU V t n).t<=1000):=by
 unfold aU;split
 .rename_i h;exact b.tr t a n h
 simp
section
variable{E:TE I}{D:PK}{U:LS->Prop}
def yC(W:jF E D U t){p:I}{s:PS}{x:Lm}{u:Nat}(C:Cn E D t p s w (bR u (s9 x)::R))(d:yF D R)(e:s.l.el<1000000)(f:1<=x.k/\x.k<=4){b:aC}(v:O0 b 145){a:Act}(f:a.defers=[])(g:w.heap.size=B)(h:St (E.Ok p) B 63 [(32,i6 n),(31,ptr E.T),(30,ptr (D.lb D.V.nl)),(7,ptr u),(0,ptr (D.lb D.V.nl))] (pM s++(E.me D t::(bR u (s9 x)::R++E.P p s))) 0 a w)(K:∀g w' X r,Cn E D t p g w' (X++R)->g.l=s.l.say t (-1) 2 n->Ov X r (cN x)->E.Ψ p (G (ends c r) cs) w'):
 E.Ψ p (G (b.at a (pc prog 145 43 [false] [])) (c::cs)) w:=by
 have F:=W.f p;have r:=W.hB p;have b:=v.k;have o:=v.f;refine ah F b f h 33 148 #[ptr (D.lb D.V.nl),ptr E.T,i6 2,i6 n] λa c=>iU W {C with sat:=h.sat} e C.eH.OV λh a a s e=>c _ _ _ a.sat λc e j i c=>?_;have c:=a.bd;have q:Flat (R++E.O p):=a.fl.tail;have f:x.k=1\/x.k=2\/x.k=3\/x.k=4:=ω
 rcases f with f|f|f|f
 .refine TP F r b i j 35 [8,0,0,2] 64 [] [(5,.nilIface),(4,i6 x.n)] 79 16 [] [] [(x.k==4,false),(x.k==3,false),(x.k==2,false)] [] [] λp k g c l m n=>cC F g b o c [] (.tuple #[i6 x.n,.nilIface]) ?_;exact K h k [] (.inl (.tuple #[i6 x.n,.nilIface])) ⟨AK (pM h) g.sat,a.pv,a.qi,q,d,ω,a.cp,a.ln,a.ti⟩ s (.inl (by unfold cN;simp[f]))
 .replace j:=j.get ((((d.OV.pre _).cons).cons).app (pM h));refine aX (λM=>bR (e) [i6 1,i6 (-1),i6 x.n,.nilIface]::(M)) 1 F r b i j 19 [9,0,0,2,0,0,1,1] 6 [8] [(5,.iface 184 (ptr e)),(4,i6 0)] 63 6 [8] [] [(x.k==2,true)] [] [] λp k g c l m n=>cC F g b o c [] (.tuple #[i6 0,.iface 184 (ptr e)]) ?_;exact K h k [oR e 0 [i6 1,i6 (-1),i6 x.n,.nilIface] false] (.inl (.tuple #[i6 0,.iface 184 (ptr e)])) ⟨AJ (pM h) g.sat,a.pv,a.qi,q.cons rfl,d.cons,ω,a.cp,a.ln,a.ti⟩ s (.inr (.inl ⟨by unfold cN c9;simp[f],_,rfl,by unfold cN c9;simp[f];exact⟨e,.nilIface,rfl,⟨rfl,0,rfl⟩,rfl⟩⟩))
 .replace j:=j.get ((((d.OV.pre _).cons).cons).app (pM h));refine aX (λM=>bR (e) [i6 2,i6 (-1),i6 x.n,.nilIface]::(M)) 1 F r b i j 25 [9,0,0,2,0,0,1,1] 24 [8] [(5,.iface 184 (ptr e)),(4,i6 0)] 69 12 [8] [] [(x.k==3,true),(x.k==2,false)] [] [] λp k g c l m n=>cC F g b o c [] (.tuple #[i6 0,.iface 184 (ptr e)]) ?_;exact K h k [oR e 0 [i6 2,i6 (-1),i6 x.n,.nilIface] false] (.inl (.tuple #[i6 0,.iface 184 (ptr e)])) ⟨AJ (pM h) g.sat,a.pv,a.qi,q.cons rfl,d.cons,ω,a.cp,a.ln,a.ti⟩ s (.inr (.inl ⟨by unfold cN c9;simp[f],_,rfl,by unfold cN c9;simp[f];exact⟨e,.nilIface,rfl,⟨rfl,0,rfl⟩,rfl⟩⟩))
 .refine TP F r b i j 30 [8,0,0,2] 96 [] [(60,.iface 182 (i6 x.n)),(7,ptr u)] 74 24 [] [] [(x.k==4,true),(x.k==3,false),(x.k==2,false)] [] [] λp k g c l m n=>ZK F v 182 (i6 x.n) ρ f145 func145 c g ?_;exact K h k [] (.inr (.iface 182 (i6 x.n))) ⟨AK (pM h) g.sat,a.pv,a.qi,q,d,ω,a.cp,a.ln,a.ti⟩ s (.inr (.inr (by unfold cN;simp[f])))
def Oi(W:jF E D U t):dV E D U t D.V.nl:=by
 intro m p s w R c cs C N c K;rw[show iq D.V D.V.nl=145 by unfold iq;simp];have F:=W.f p;have h:=W.hB p;have c:=C.bd;have S:=C.sat.get (kT.app (pM s));let⟨Q,O,c,f⟩:=C.OT;obtain⟨n,q⟩:∃n:Nat,s.l.us Q=n:=⟨(s.l.us Q).toNat,by
  cases m with
  |zero=>exact N.elim
  |succ m=>have:=N.1.us Q f;omega⟩
 obtain⟨H,rfl,A,L,J⟩:=CR N O q;have S:Sat (E.Ok p) w (wF E.T D.A t Q E.ch::(pM s++(E.me D t::(R++E.P p s)))):=χ
 refine cJ func145 S 63 λc c c P a c c w m=>Rb F h a c w 23 [0,0,2,1] 1 [] [(11,i6 Q),(9,ptr (D.lb D.V.nl)),(0,ptr (D.lb D.V.nl)),(1,ptr E.T)] 10 1 [] λc c m c w w w=>ah F a c m 12 146 #[ptr (D.lb D.V.nl),i6 Q] λc c=>ML W {C with sat:=m.sat.tail,bd:=by omega} f q (by have:=A.us Q f;omega) λs2 m g T m=>c _ _ _ g.sat λc j q c m=>aq (λM=>bR (j) [i6 (aU D.V Q n).k,i6 (aU D.V Q n).n,i6 (aU D.V Q n).t]::(M)) 1 F h a c q 14 [0,0,0,3] 1 [] [(19,i6 n),(18,ptr E.T),(17,ptr (D.lb D.V.nl)),(6,i6 n),(7,ptr j),(0,ptr (D.lb D.V.nl)),(1,ptr E.T)] 25 1 [] λc Z Y c m m m=>ah F a c Y 20 148 #[ptr (D.lb D.V.nl),ptr E.T,i6 1,i6 n] λc v=>?_;have l:=Eo W.V f n;generalize aU D.V Q n=x at*;have C3:Cn E D t p s2 Z (bR j (s9 x)::R):=⟨Y.sat.perm gY,g.pv,g.qi,g.fl.cons rfl,g.eH.cons,ω,g.cp,g.ln,g.ti⟩;refine iU W C3 (by rw[T];exact A.el) C3.eH.OV λG c B e c=>v _ _ _ B.sat λc c V u c=>?_;have c:=B.bd;rw[T]at e;by_cases o:x.t=0
 .have b:=L o;rw[<-e]at b;have I:qm D.V t (G.l.say t (-1) 2 n):=by
   cases H with
   |zero=>exact b.elim
   |succ H=>exact b.1
  have c:G.l.el+1<1000000:=I.el;refine TP F h a u V 17 [8,0,2,1] 4 [] [(32,i6 n),(31,ptr E.T),(30,ptr (D.lb D.V.nl)),(7,ptr j),(0,ptr (D.lb D.V.nl))] 43 2 [] [] [(decide (x.t>0),false)] [] [] λO N m c g v I=>yC W {B with sat:=m.sat,bd:=by omega} C.eH ω l.1 P c g m λf L X r q M w=>K H p f L X r (cN x) ω ω q ξ w (λi p=>by rw[M,e];rfl) (λi p=>by rw[M,e];rfl)
 .have H:0<x.t:=ω
  have b:=J o;have o:G.l.wl=s.l.wl:=by rw[e];rfl
  rw[<-e,<-o]at b;refine TP F h a u V 13 [8,0,2,1,8,0,2,1] 6 [] [(26,i6 x.t),(24,ptr E.T),(6,i6 n),(7,ptr j),(0,ptr (D.lb D.V.nl)),(1,ptr E.T)] 39 3 [] [] [(decide (x.t>0),true)] [] [] λO N m c g v I=>GM F a c 27 149 #[ptr E.T,i6 x.t] ρ ρ δ m λc c=>HX W {B with sat:=m.sat,bd:=by omega} (by rw[e];exact A.al) (by rw[e];exact A.now) ⟨ω,ω⟩ _ b ω λg f L s m m q f1 f2 f3 f4 f6=>c.ret _ _ _ _ _ q.sat λc c v o c=>?_;have c:=q.bd;replace F:=W.f g;replace h:=W.hB g;let⟨c,m⟩:=f1;have u:Fin D.V U s (some (t,D.V.nl,some (cN x))) (f.l.say t (-1) 2 n):=by
   rcases m with ⟨_,_,y,ch,z,d⟩|⟨k,k,k,_⟩
   .rw[f3]at z d;simp only[List.cons.injEq]at z;rw[<-z.1,<-z.2]at d;exact d
   omega
  refine Rb F h a o v 8 [] 1 [] [(32,i6 n),(31,ptr E.T),(30,ptr (D.lb D.V.nl)),(7,ptr j),(0,ptr (D.lb D.V.nl))] 48 3 [] λa a k j a m m=>?_;rw[show pc prog 145 48 (Bo 3) []=pc prog 145 43 [false] [] by kernel_rfl];refine yC W {q with sat:=k.sat,bd:=by omega} C.eH c.el l.1 P j a k λj c X r k a w=>K s g j c X r (cN x) ω ω k ξ w (λi p=>by
   rw[a];show(f.l.tk t).a i=_;rw[f4,e];rfl) (λi p=>by
   rw[a];show(f.l.tk t).q i=_;rw[f6,e];rfl)
end
def CW{V:Ev0}{U:LS->Prop}{L:LS}(a:j<V.nl)(b:(V.ly j).k=2)(h:Fin V U m (some (t,j,none)) L):∃a,m=a+1/\Fin V U a (some (t,j+1,none)) L:=by
 cases m with
 |zero=>exact h.elim
 |succ m=>
  let⟨_,_,_,a,c⟩:=h;have e:(j=V.nl)=False:=θ
  simp only[LS.step,e,if_false,b,af (show¬(2:Int)=1 by decide),af (show¬(2:Int)=3 by decide),af (show¬(2:Int)=4 by decide)]at c;simp_all
def yh{V:Ev0}{U:LS->Prop}{L:LS}{b:Bk}(d:(V.ly j).k=2)(c:(L.tk t).p<=j)(h:Fin V U m (some (t,j+1,some b)) L):∃c,m=c+1/\qm V t L/\G5 b/\(b.k=3->Fin V U c (some (t,j,some (c9 6 j b.n))) (L.say t j 5 b.n))/\(b.k≠3->Fin V U c (some (t,j,some b)) L):=by
 cases m with
 |zero=>exact h.elim
 |succ m=>
  let⟨f,_,_,c,a⟩:=h;have e:(j+1=(L.tk t).p)=False:=θ
  refine⟨m,rfl,f,(c b rfl).1,λb=>?_,λb=>?_⟩
  .simp only[LS.step,e,if_false,eM,d,af (show¬(2:Int)=1 by decide),af (show¬(2:Int)=4 by decide),af (show¬(2:Int)=5 by decide),b,and_self,if_true]at a;exact a
  .simp only[LS.step,e,if_false,eM,d,af (show¬(2:Int)=1 by decide),af (show¬(2:Int)=4 by decide),af (show¬(2:Int)=5 by decide),b,and_false,if_false]at a;exact a
def xT(k:PK)(j:Nat):∃a,Dv k j=.iface a (ptr (k.lb j))/\((a=154/\iq k.V j=145)\/(a=157/\iq k.V j=155)\/(a=160/\iq k.V j=164)\/(a=163/\iq k.V j=166)\/(a=166/\iq k.V j=168)\/(a=171/\iq k.V j=177)\/(a=175/\iq k.V j=183)):=by
 unfold Dv iq;grind
section
variable{E:TE I}{D:PK}{U:LS->Prop}
def Je(W:jF E D U t)(hj:j<D.V.nl)(hk:(D.V.ly j).k=2)(IH:dV E D U t (j+1)):dV E D U t j:=by
 intro m p s w R c cs C m w K;rw[show iq D.V j=164 by unfold iq;grind];have ZG:=AL m;have F:=W.f p;have H:=W.hB p;have w:=C.bd;have hS:=C.sat;obtain⟨m0,rfl,hf0⟩:=CW hj hk m;let⟨ty,m,hg⟩:=xT D (j+1);have A:=C.eH.lay j hj;rw[m]at A;unfold dV at IH;generalize iq D.V (j+1)=gf at*;refine cJ func164 hS 16 λbb m a hn n Y m S0 w=>aq (λM=>bR (a+3) [.nilIface]::(bR (a+2) [i6 0]::(bR (a+1) [ptr E.T]::(bR (a) [ptr (D.lb j)]::(M))))) 4 F H n m S0 10 [] 1 [] [(6,.func (Fn.func 165) #[] #[ptr a,ptr (a+1),ptr (a+2),ptr (a+3)]),(5,ptr (a+3)),(4,ptr (a+2)),(3,ptr (a+1)),(2,ptr a)] 10 1 [] λm m S1 m w w w=>Wc F hn m 165 [ptr a,ptr (a+1),ptr (a+2),ptr (a+3)] ρ ρ ρ S1 λm w m=>aq (λM=>M) 4 F H n m w 2 [] 1 [] [(5,ptr (a+3)),(4,ptr (a+2)),(3,ptr (a+1)),(2,ptr a)] 13 1 [] λw w3 S3 V m m m=>?_
 have m:Sat (E.Ok p) w3 (pM s++(E.me D t::(([bR (a+3) [.nilIface],bR (a+2) [i6 0],oR (a+1) 0 [ptr E.T] false,oR a 0 [ptr (D.lb j)] false]++R)++E.P p s))):=
  (Sat.yg [bR (a+3) [.nilIface],bR (a+2) [i6 0],oR (a+1) 0 [ptr E.T] false] (Sat.yg [bR (a+3) [.nilIface],bR (a+2) [i6 0]] S3.sat)).perm (NL (A:=pM s) (X:=[bR (a+3) [.nilIface],bR (a+2) [i6 0],oR (a+1) 0 [ptr E.T] false,oR a 0 [ptr (D.lb j)] false]))
 have C3:Cn E D t p s w3 ([bR (a+3) [.nilIface],bR (a+2) [i6 0],oR (a+1) 0 [ptr E.T] false,oR a 0 [ptr (D.lb j)] false]++R):=⟨m,C.pv,C.qi,((((C.fl.cons rfl).cons rfl).cons rfl).cons rfl),C.eH.app _,ω,C.cp,C.ln,C.ti⟩;replace S3:St (E.Ok p) a 16 _ _ 4 w w3:=⟨S3.env,m,S3.sz⟩
 have tO:∀f B w' X,Cn E D t f B w' (X++([bR (a+3) [.nilIface],bR (a+2) [i6 0],oR (a+1) 0 [ptr E.T] false,oR a 0 [ptr (D.lb j)] false]++R))->Sat (E.Ok f) w' [oR a 0 [ptr (D.lb j)] false,oR (a+1) 0 [ptr E.T] false,tQ (D.lb j) (.iface ty (ptr (D.lb (j+1)))) j D.J]:=by
  intro f B w' X x;refine x.sat.ED λr hr=>?_;simp only[ak,bH,or_false]at hr;rcases hr with rfl|rfl|rfl
  .exact Has.in ⟨rfl,3,rfl⟩
  .exact Has.in ⟨rfl,2,rfl⟩
  .exact Has.in (A.app _)
 refine TL W.f aK W.hB n 9 6 [oR a 0 [ptr (D.lb j)] false,oR (a+1) 0 [ptr E.T] false,tQ (D.lb j) (.iface ty (ptr (D.lb (j+1)))) j D.J] (Hq [0,0,0,1,2,0,0,1,1,0,0,1]) [(11,.iface ty (ptr (D.lb (j+1)))),(12,ptr E.T)] 13 gf #[ptr (D.lb (j+1)),ptr E.T] ρ ρ ρ ρ (by rcases hg with ⟨rfl,rfl⟩|⟨rfl,rfl⟩|⟨rfl,rfl⟩|⟨rfl,rfl⟩|⟨rfl,rfl⟩|⟨rfl,rfl⟩|⟨rfl,rfl⟩<;>kernel_rfl) S3 (tO p s w3 [] C3) ω λcf w4 VM Bj VQ=>IH m0 p s w4 _ cf (c::cs) {C3 with sat:=VM,bd:=by omega} hf0 ω λm f B w' X r b m m x m hr ha Z=>?_;obtain⟨m1,rfl,FR,Hj,h3,Xr⟩:=yh hk (x.pp W C ZG) m;have Q:=x.bd;replace F:=W.f f;replace H:=W.hB f;have hM:=x.sat.perm (gM (A:=pM B));have O:∀w5,Sat (E.Ok f) w5 (pM B++(E.me D t::((X++R)++E.P f B)))->w'.heap.size<=w5.heap.size->Cn E D t f B w5 (X++R):=λw5 m Dw=>⟨m,x.pv,x.qi,x.fl.OC,C.eH.app X,ω,x.cp,x.ln,x.ti⟩
 rcases hr with ⟨hb,rfl⟩|⟨hb,e,rfl,he⟩|⟨hb,rfl⟩
 .refine VQ.ret f _ w' [] [(14,i6 b.n),(15,.nilIface),(4,ptr (a+2)),(5,ptr (a+3))] _ Q (tO f B w' X x) hM ρ ρ λa5 w5 B5 S5 k Y5 Dw=>?_;rw[V]at k;refine aq (λM=>bh 1 (0,0) (i6 b.n) (M)) 0 F H n k S5 3 [1,0,0,1,0,0,0,1] 1 [] [(4,ptr (a+2)),(5,ptr (a+3))] 17 1 [9] λa6 w6 S6 T YG Hf fr6=>Mj F ρ T Hr f165 func165 _ rfl ρ 25 ρ S6 λa7 S7 J=>ZH F H J S7 2 [] 1 [] [(0,ptr a),(1,ptr (a+1)),(2,ptr (a+2)),(3,ptr (a+3))] 2 1 [] [] [] [] [] λa8 w8 S8 I FN IV Z7=>Td F 6 ρ ρ δ rfl S8 λa9 S9 g=>?_;rw[I]at g;refine ZH F H g S9 9 [] 5 [] [] 12 2 [] [] [] [] [] λDq v o l L N S=>NW F ρ l f165 func165 ρ ?_;refine G6 F (a:=⟨a6.tmps,[]⟩) (N:=16) (E:=[(4,ptr (a+2)),(5,ptr (a+3))]) ⟨S6.env.sz,S6.env.val⟩ o.sat n Y rfl [(1,(0,0),true),(0,(0,0),true)] (.tuple #[i6 b.n,.nilIface]) ρ ρ ?_;exact K m1 f B v X _ b ω ω (O v o.sat.tail.tail.tail.tail ω) (Xr ω) (.inl ⟨hb,rfl⟩) (λi P=>ha i ω) λi P=>Z i ω
 .obtain⟨q,rfl⟩:∃q,e=.iface 184 (ptr q):=by
   rcases Hj.2.2 with ⟨z,_⟩|⟨_,_,z⟩|⟨z,_⟩
   .omega
   .cases mQ:b.ch with
    |nil=>simp_all
    |cons y ch=>rw[mQ]at he;let⟨q,_,h,_⟩:=he;simp_all
   .omega
  refine VQ.ret f _ w' [] [(14,i6 0),(15,.iface 184 (ptr q)),(4,ptr (a+2)),(5,ptr (a+3))] _ Q (tO f B w' X x) hM ρ ρ λa5 w5 B5 S5 k Y5 Dw=>?_;rw[V]at k;refine aq (λM=>bh 0 (0,0) (.iface 184 (ptr q)) (M)) 0 F H n k S5 3 [1,0,0,1,0,0,0,1] 1 [] [(4,ptr (a+2)),(5,ptr (a+3))] 17 1 [9] λa6 w6 S6 T YG Hf fr6=>Mj F ρ T Hr f165 func165 _ rfl ρ 25 ρ S6 λa7 S7 J=>ZH F H J S7 2 [] 1 [] [(0,ptr a),(1,ptr (a+1)),(2,ptr (a+2)),(3,ptr (a+3))] 2 1 [] [] [] [] [] λa8 w8 S8 I FN IV Z7=>Td F 6 ρ ρ δ rfl S8 λa9 S9 g=>?_;rw[I]at g;refine ZH F H g S9 9 [] 5 [] [] 12 2 [] [] [] [] [] λDq v o l L N S=>NW F ρ l f165 func165 ρ ?_;refine G6 F (a:=⟨a6.tmps,[]⟩) (N:=16) (E:=[(4,ptr (a+2)),(5,ptr (a+3))]) ⟨S6.env.sz,S6.env.val⟩ o.sat n Y rfl [(1,(0,0),true),(0,(0,0),true)] (.tuple #[i6 0,.iface 184 (ptr q)]) ρ ρ ?_;exact K m1 f B v X _ b ω ω (O v o.sat.tail.tail.tail.tail ω) (Xr ω) (.inr (.inl ⟨hb,_,rfl,he⟩)) (λi P=>ha i ω) λi P=>Z i ω
 .obtain⟨a5,t5,rfl,k,Rc⟩:=VQ.NO;rw[V]at k;show E.Ψ f (G ((bb.at a5 t5).raise (je (.iface 182 (i6 b.n)))) (c::cs)) w';rw[raise_at hn.m];refine Tc F k Hr f165 func165 _ rfl ρ 25 ρ hM λa7 c S7 J c=>ZH F H J S7 2 [] 1 [] [(0,ptr a),(1,ptr (a+1)),(2,ptr (a+2)),(3,ptr (a+3))] 2 1 [] [] [] [] [] λa8 w8 S8 I FN IV Z7=>rcp F (v:=.iface 182 (i6 b.n)) 6 ρ ρ δ rfl S8 λa9 S9 g=>?_;rw[I]at g;refine ZH F H g S9 36 [3,0,0,1,2,0,0,1] 7 [5] [(15,i6 b.n),(14,ptr E.T),(13,ptr (D.lb j)),(5,i6 b.n),(0,ptr a),(2,ptr (a+2)),(3,ptr (a+3))] 19 3 [5] [] [] [] [] λDq v o l L N S=>RM F l 16 148 #[ptr (D.lb j),ptr E.T,i6 5,i6 b.n] ρ ρ δ o λc h=>?_;have c:Cn E D t f B v (X++([bR (a+3) [.nilIface],bR (a+2) [i6 0],oR (a+1) 0 [ptr E.T] false,oR a 0 [ptr (D.lb j)] false]++R)):={x with sat:=o.sat.perm (gM (A:=pM B)).symm,bd:=by omega};refine iU W c FR.el (wi:=.iface ty (ptr (D.lb (j+1)))) (num:=j) ((A.app _).app X) λe c c l m=>h _ _ _ ((c.sat.perm (gM (A:=pM e))).get (((((A.app X).pre _).cons).app (pM e)).app _)) λh h p m o=>?_;have o:=c.bd;refine qk (λM=>bR (h) [i6 6,i6 j,i6 b.n,.nilIface]::(bh 1 (0,0) (.iface 184 (ptr h)) (M))) 1 F H m p 46 [4,0,0,1,0,0,1,1,3,0,0,1,2,0,0,1] 1 [] [] 33 3 [5] [] [] [] [] λm m p o q q q=>BC F (b:=bb) (a':=⟨a5.tmps,[]⟩) (todo':=t5) (v:=.iface 182 (i6 b.n)) ρ o f165 func165 ρ ?_;have q:aR [(5,ptr (a+3)),(4,ptr (a+2))] 16 (⟨a5.tmps,[]⟩:Act):=⟨Rc.sz,λd u o=>Rc.val d u (ez [(5,ptr (a+3)),(4,ptr (a+2))] _ ρ d u o)⟩;refine G6 F q p.sat n Y rfl [(3,(0,0),true),(2,(0,0),true)] (.tuple #[i6 0,.iface 184 (ptr h)]) ρ ρ ?_;have a:Sat (E.Ok f) m (bR h [i6 6,i6 j,i6 b.n,.nilIface]::(pM e++(E.me D t::(R++E.P f e)))):=p.sat.sub (.cons_cons _ (.cons _ (.cons _ (.cons _ (.cons _ (.cons _ (nN (.cons_cons _ (D7 (D8 X R) _)) _)))))));have d:Flat (R++E.O f):=λi r P=>by
   have:=bO.1 x.fl.OC r;refine this ?_;have n:r∈R++E.O f:=by rw[dF]at P;exact sQ P
   simp_all
  have YR:=h3 hb;rw[<-l]at YR;exact K m1 f e m [oR h 0 [i6 6,i6 j,i6 b.n,.nilIface] false] _ (c9 6 j b.n) ω ω ⟨a.fix.perm (gY (A:=pM e)),c.pv,c.qi,d.cons rfl,C.eH.cons,ω,c.cp,c.ln,c.ti⟩ YR (.inr (.inl ⟨rfl,_,rfl,h,.nilIface,rfl,⟨rfl,0,rfl⟩,rfl⟩)) (λi P=>by rw[l];exact ha i ω) λi P=>by rw[l];exact Z i ω
end
end Go.Proofs.YtobagnjnbmgidabGreatDoor
