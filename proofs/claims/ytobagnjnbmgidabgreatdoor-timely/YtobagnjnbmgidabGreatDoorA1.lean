import Derived.Lib.Overlaps
import Derived.Lib.AppendZerosOnto
import Derived.Test.YtobagnjnbmgidabGreatDoorE33
import Derived.Deep.AppendSrc
set_option linter.all false
set_option maxHeartbeats 0
set_option maxRecDepth 100000
namespace Go.Proofs.YtobagnjnbmgidabGreatDoor
open Go.Conc Go.RowKit Tryz
variable{ats:Array TypeId}{l:Int}{E L N bt c ca D cb dc e la lb m n nb off p q sc U t Y:Nat}{r:aH}{C:aW}{w':aj}{f v:ay}{es:jl}{ON:eP}{R H:gd}{news olds vs xs:iO}
variable{W:Bool}{Ok:dh}{Ψ:gi}{b:aC}{a:Act}{k:eC}{cs:cO}{w:aj}{Q:g8}{i B:Nat}{I:aN}{o:Oper}{M:aW}
structure iN where
 k:Int
 l:Int
 n:Int
structure Bk where
 k:Int
 n:Int
 ch:List iN
structure qy where
 a:Int
 t:Int
 w:Int
 c:Int
 o:Bool
structure Ot where
 c:Int
 f:Int
 p:Nat
 o:Int
 x:Bool
 e:Bool
 w:Int
 a:Nat->Int
 q:Nat->Int
structure tU where
 t:Int
 l:Int
 x:Bool
 e:Bool
 b:Bk
 z:Int
 i:Nat
structure Se where
 a:Int
 b:Bk
structure OZ where
 a:Int
 c:Int
 l:Int
 w:Int
 n:Int
structure ju where
 k:Int
 a:Int
 b:Int
 c:Int
 d:Int
 e:Int
structure Lm where
 k:Int
 n:Int
 t:Int
structure Ev0 where
 nl:Nat
 ly:Nat->ju
 nc:Nat
 st:Nat->Int
 nt:Nat->Nat
 tr:Nat->Nat->Lm
structure Gt where
 sm:Bool
 nx:Int
 st:Int
 pd:Int
 si:Int
 la:List Bool
 pr:Int
 tn:Int
structure LS where
 now:Int
 al:Nat
 ag:Nat->qy
 tl:Nat
 tk:Nat->Ot
 wl:Nat
 wt:Nat->tU
 us:Nat->Int
 ou:Nat->Se
 el:Nat
 ev:Nat->OZ
 gt:Nat->Gt
def LS.say(L:LS)(t:Nat)(l q n:Int):LS:={L with el:=L.el+1,ev:=upd L.ev L.el ⟨L.now,(L.tk t).c,l,q,n⟩}
def LS.put(L:LS)(e:qy):LS:={L with al:=L.al+1,ag:=upd L.ag L.al e}
def LS.cB(L:LS)(t:Nat)(l:Int)(cb:Bool):LS:={L with wl:=L.wl+1,wt:=upd L.wt L.wl ⟨t,l,false,false,⟨0,0,[]⟩,0,0⟩,tk:=upd L.tk t {L.tk t with w:=L.wl,o:=if cb=true then(L.wl:Int)else(L.tk t).o}}
def LS.wait(L:LS)(t:Nat)(l d:Int)(cb:Bool):LS:=(L.cB t l cb).put ⟨L.now+d,t,L.wl,1,false⟩
def LS.fix(L:LS)(w:Nat)(z:Int)(b:Bk):LS:=LS.put {L with wt:=upd L.wt w {L.wt w with x:=true,z:=z,b:=b}} ⟨L.now,(L.wt w).t,w,z,false⟩
def LS.qA(L:LS)(w:Nat)(z:Int)(b:Bk):LS:=if(L.wt w).x=false/\(L.wt w).e=false then L.fix w z b else L
def LS.done(L:LS)(t:Nat):LS:={L with tk:=upd L.tk t {L.tk t with e:=true}}
def LS.end_(L:LS)(t:Nat)(b:Bk):LS:=if(L.tk t).p=0 then LS.done {L with ou:=upd L.ou (L.tk t).c.toNat ⟨L.now,b⟩} t else(L.qA (L.tk t).f.toNat 2 b).done t
def LS.begin(L:LS)(t w k:Nat):LS:=LS.put {L with tl:=L.tl+1,tk:=upd L.tk L.tl ⟨(L.tk t).c,w,k+1,-1,false,false,-1,λ_=>0,λ_=>0⟩,wt:=upd L.wt w {L.wt w with i:=L.tl}} ⟨L.now,L.tl,0,0,false⟩
def LS.iC(L:LS)(j:Nat):LS:=if(L.tk j).e=true then L else{L with tk:=upd L.tk j {L.tk j with x:=true}}
def LS.jv(L:LS)(j:Nat):LS:=if(L.tk j).o<0 then L else L.qA (L.tk j).o.toNat 3 ⟨0,0,[]⟩
def LS.cancel(L:LS)(oL:aN):LS:=oL.foldl LS.jv (oL.foldl LS.iC L)
def c9(k l n:Int):Bk:=⟨2,0,[⟨k,l,n⟩]⟩
def cE(b:Bk)(k:Int):Bool:=b.ch.any λx=>x.k==k
def cN(x:Lm):Bk:=if x.k=2 then c9 1 (-1) x.n else if x.k=3 then c9 2 (-1) x.n else if x.k=4 then⟨3,x.n,[]⟩else⟨1,x.n,[]⟩
def aU(V:Ev0)(c:Nat)(n:Nat):Lm:=if n<V.nt c then V.tr c n else⟨1,0,0⟩
def dN(c d:Int):Nat->Int->Int
 |0,p=>p
 |m+1,p=>if p<=d then dN c d m (p*c)else p
def aI(y:ju)(n:Int):Int:=let p:=dN y.c y.d (n-1).toNat y.b;if p>y.d then y.d else p
def LS.aO(L:LS)(k:Nat)(g:Gt):LS:={L with gt:=upd L.gt k g}
def Gt.turn(g:Gt)(now st:Int):Gt:={g with st:=st,pd:=g.pd+1,si:=now,la:=[],pr:=0}
def dY(l:iy):Nat:=(l.filter id).length
def bq(b:Bk):Int:=match b.ch.getLast? with
 |some x=>x.k
 |none=>0
def LS.nV(t k:Nat)(L:LS):LS×Option (Nat×Option Bk):=(L.say t k 7 0,some (k,some (c9 3 k 0)))
def LS.jg(y:ju)(t k:Nat)(L:LS):LS×Option (Nat×Option Bk):=
 if(L.gt k).sm=true/\(L.gt k).nx-L.now>(y.b-1)*y.a then L.nV t k
 else((L.aO k {L.gt k with sm:=true,nx:=(if(L.gt k).sm=false\/(L.gt k).nx<L.now then L.now else(L.gt k).nx)+y.a}).say t k 6 0,some (k+1,none))
def LS.aM(t k:Nat)(L:LS):LS:=if(L.gt k).st=1 then(L.aO k ((L.gt k).turn L.now 2)).say t k 10 0 else L
def LS.cz(k:Nat)(L:LS):LS:=if(L.gt k).st=2 then L.aO k {L.gt k with pr:=(L.gt k).pr+1} else L
def LS.mark(t k:Nat)(L:LS):LS:={L with tk:=upd L.tk t {L.tk t with q:=upd (L.tk t).q k (L.gt k).pd}}
def LS.pass(y:ju)(t k:Nat)(L:LS):LS×Option (Nat×Option Bk):=
 if(L.gt k).st=1/\L.now-(L.gt k).si<y.d then L.nV t k
 else if((L.aM t k).gt k).st=2/\((L.aM t k).gt k).pr=y.e then(L.aM t k).nV t k
 else((((L.aM t k).cz k).mark t k).say t k 8 0,some (k+1,none))
def Gt.keep(y:ju)(g:Gt)(x:Bool):List Bool:=if g.st=0/\((g.la.length:Int)+1>y.a)then(g.la++[x]).tail else g.la++[x]
def over(y:ju)(l:iy):Bool:=decide (y.c*(l.length:Int)<=(dY l:Int)*100)
def LS.count(y:ju)(t j:Nat)(b:Bk)(L:LS):LS:=
 if(L.tk t).q j≠(L.gt j).pd then L
 else if bq b=3\/bq b=5 then L.aO j {L.gt j with pr:=if(L.gt j).st=2 then(L.gt j).pr-1 else(L.gt j).pr}
 else
  let g:Gt:={L.gt j with la:=(L.gt j).keep y (decide (b.k≠1))}
  if(g.st=0/\y.b<=g.la.length\/g.st=2/\(g.la.length:Int)=y.e)/\over y g.la=true then(L.aO j (g.turn L.now 1)).say t j 9 0
  else if g.st=2/\(g.la.length:Int)=y.e then(L.aO j (g.turn L.now 0)).say t j 11 0
  else L.aO j g
def LS.drop(t k:Nat)(L:LS):LS×Option (Nat×Option Bk):=(L.say t k 16 0,some (k,some (c9 5 k 0)))
def LS.take(y:ju)(t k:Nat)(L:LS):LS×Option (Nat×Option Bk):=
 if(L.gt k).tn<y.a then((L.aO k {L.gt k with tn:=(L.gt k).tn+1}).say t k 13 0,some (k+1,none))
 else if y.b=0 then L.nV t k
 else if(L.tk t).x=true then(L.say t k 12 0).drop t k
 else((L.say t k 12 0).wait t k y.b true,none)
def LS.uX(y:ju)(t k:Nat)(L:LS):LS×Option (Nat×Option Bk):=
 if(L.tk t).x=true then L.drop t k
 else((L.wait t k y.a true).begin t L.wl k,none)
def tJ(wt:Nat->tU)(k:Int):Nat->Option Nat
 |0=>none
 |i+1=>match tJ wt k i with
  |some w=>some w
  |none=>if(wt i).l=k/\(wt i).x=false/\(wt i).e=false then some i else none
abbrev LS.dg(L:LS)(w:Nat):LS:=L.fix w 2 ⟨0,0,[]⟩
def LS.fC(t k:Nat)(L:LS):LS:=match tJ L.wt k L.wl with
 |some w=>(L.say t k 14 0).dg w
 |none=>(L.say t k 14 0).aO k {L.gt k with tn:=(L.gt k).tn-1}
def LS.step(V:Ev0)(t k:Nat)(ob:Option Bk)(L:LS):LS×Option (Nat×Option Bk):=match ob with
 |none=>
  if k=V.nl then
   let c:=(L.tk t).c.toNat;let n:=L.us c;let L1:LS:={L with us:=upd L.us c (n+1)};let L2:=L1.say t (-1) 1 n;let x:=aU V c n.toNat
   if x.t=0 then(L2.say t (-1) 2 n,some (V.nl,some (cN x)))
   else
    let L3:=L2.wait t V.nl x.t false
    ({L3 with wt:=upd L3.wt L2.wl {L3.wt L2.wl with b:=⟨(cN x).k,(cN x).n,⟨0,0,n⟩::(cN x).ch⟩}},none)
  else if(V.ly k).k=1 then({L with tk:=upd L.tk t {L.tk t with a:=upd (L.tk t).a k 1}},some (k+1,none))
  else if(V.ly k).k=3 then L.jg (V.ly k) t k
  else if(V.ly k).k=4 then L.pass (V.ly k) t k
  else if(V.ly k).k=5 then L.take (V.ly k) t k
  else if(V.ly k).k=6 then L.uX (V.ly k) t k
  else(L,some (k+1,none))
 |some b=>
  if k=(L.tk t).p then(L.end_ t b,none)
  else
   let j:=k-1;let y:=V.ly j
   if y.k=1 then
    if b.k≠2\/cE b 2=true\/cE b 5=true then(L,some (j,some b))
    else
     let n:=(L.tk t).a j
     if n=y.a then(L.say t j 4 0,some (j,some ⟨2,0,⟨7,j,0⟩::b.ch⟩))
     else
      let p:=aI y n;let L1:=L.say t j 3 p;let L2:LS:={L1 with tk:=upd L1.tk t {L1.tk t with a:=upd (L1.tk t).a j (n+1)}}
      if(L.tk t).x=true then L2.drop t j else if p>0 then(L2.wait t j p true,none)else(L2,some (j+1,none))
   else if y.k=4 then(L.count y t j b,some (j,some b))
   else if y.k=5 then(L.fC t j,some (j,some b))
   else if y.k=2/\b.k=3 then(L.say t j 5 b.n,some (j,some (c9 6 j b.n)))
   else(L,some (j,some b))
def cj(ag:Nat->qy):Nat->Int
 |0=>-1
 |i+1=>if(ag i).o=false/\(cj ag i<0\/(ag i).a<(ag (cj ag i).toNat).a)then(i:Int)else cj ag i
def rS(a:Nat->qy):∀i,cj a i=-1\/∃k:Nat,k<i/\cj a i=k
 |0=>.inl rfl
 |i+1=>by
  unfold cj;split
  .grind
  .rcases rS a i with h|⟨k,a,a⟩
   .exact .inl h
   grind
def Ih(ly:Nat->ju):Nat->Nat
 |0=>0
 |n+1=>Ih ly n+if(ly n).k=1 then 1 else 0
structure Fv(y:ju)(g:Gt)(X:Int)(m:Nat):Prop where
 nx:0<=g.nx/\g.nx<=X+20000
 sm:g.sm=false->g.nx=0
 st:(g.st=0/\(g.la.length:Int)<=y.a)\/(g.st=1/\g.la=[])\/(g.st=2/\(g.la.length:Int)<y.e)
 pd:0<=g.pd/\g.pd+m<1000000
 si:0<=g.si/\g.si<=X
 pr:-1000000<g.pr-m/\g.pr+m<1000000
 tn:-1000000<g.tn-m/\g.tn+m<1000000
structure wM(V:Ev0):Prop where
 nl:V.nl<=6
 nc:V.nc<=9
 kd:∀k,k<V.nl->(V.ly k).k=1\/(V.ly k).k=2\/(V.ly k).k=3\/(V.ly k).k=4\/(V.ly k).k=5\/(V.ly k).k=6
 r2:Ih V.ly V.nl<=2
 ra:∀k,k<V.nl->(V.ly k).k=3->(1<=(V.ly k).a/\(V.ly k).a<=1000)/\(1<=(V.ly k).b/\(V.ly k).b<=20)
 br:∀k,k<V.nl->(V.ly k).k=4->(1<=(V.ly k).a/\(V.ly k).a<=20)/\(1<=(V.ly k).b/\(V.ly k).b<=(V.ly k).a)/\(1<=(V.ly k).c/\(V.ly k).c<=100)/\(0<=(V.ly k).d/\(V.ly k).d<=1000)/\(1<=(V.ly k).e/\(V.ly k).e<=9)
 ro:∀k,k<V.nl->(V.ly k).k=5->(1<=(V.ly k).a/\(V.ly k).a<=9)/\(0<=(V.ly k).b/\(V.ly k).b<=1000)
 li:∀k,k<V.nl->(V.ly k).k=6->1<=(V.ly k).a/\(V.ly k).a<=1000
 rt:∀k,k<V.nl->(V.ly k).k=1->(1<=(V.ly k).a/\(V.ly k).a<=9)/\(0<=(V.ly k).b/\(V.ly k).b<=1000)/\(1<=(V.ly k).c/\(V.ly k).c<=9)/\(0<=(V.ly k).d/\(V.ly k).d<=10000)
 st:∀c,c<V.nc->0<=V.st c/\V.st c<=1000
 nt:∀c,c<V.nc->V.nt c<=12
 tr:∀c,c<V.nc->∀j,j<V.nt c->(1<=(V.tr c j).k/\(V.tr c j).k<=4)/\(0<=(V.tr c j).t/\(V.tr c j).t<=1000)
structure qm(V:Ev0)(t:Nat)(L:LS):Prop where
 tl:L.tl<9990
 nc:V.nc<=L.tl
 tn:t<L.tl
 el:L.el<1000000
 wl:L.wl<1000000
 al:L.al<1000000
 now:0<=L.now/\L.now<1000000000000
 us:∀c,c<V.nc->0<=L.us c/\L.us c<1000000
 gt:∀k,k<V.nl->3<=(V.ly k).k->Fv (V.ly k) (L.gt k) 1000000000000 0
 q:∀k,k<V.nl->(V.ly k).k=4->(L.gt k).st=1->(L.tk t).q k≠(L.gt k).pd
 tf:∀w:Nat,(L.tk t).f=w->(L.wt w).x=true->(L.wt w).z=3
def G5(b:Bk):Prop:=b.ch.length<1000000/\(∀x∈b.ch.dropLast,x.k=7)/\((b.k=1/\b.ch=[])\/(b.k=2/\b.n=0/\b.ch≠[])\/(b.k=3/\b.ch=[]))
def Oy(V:Ev0)(L:LS)(t k:Nat):Prop:=(V.ly k).k=1->1<=(L.tk t).a k/\(L.tk t).a k<=(V.ly k).a
def LS.pop(L:LS)(i:Nat):LS:={L with ag:=upd L.ag i {L.ag i with o:=true},now:=(L.ag i).a}
def LS.bV(L:LS)(t w:Nat):LS:={L with wt:=upd L.wt w {L.wt w with e:=true},tk:=upd L.tk t {L.tk t with w:=-1}}
def OnW(P:Option (Nat×Nat×Option Bk)->LS->Prop)(V:Ev0)(t w:Nat)(c:Int)(L:LS):Prop:=qm V t L/\
 ((c=1/\(L.wt w).l=V.nl/\∃y ch,(L.wt w).b.ch=y::ch/\P (some (t,V.nl,some ⟨(L.wt w).b.k,(L.wt w).b.n,ch⟩)) (L.say t (-1) 2 y.n))\/
  (∃k:Nat,k<V.nl/\(L.wt w).l=k/\((c=3/\((V.ly k).k=1\/(V.ly k).k=5\/(V.ly k).k=6)/\P (some (t,k,some (c9 5 k 0))) (L.say t k 16 0))\/
    (c=1/\(V.ly k).k=1/\P (some (t,k+1,none)) L)\/
    ((V.ly k).k=5/\c=1/\P (some (t,k,some (c9 3 k 0))) (L.say t k 7 0))\/
    ((V.ly k).k=5/\c=2/\P (some (t,k+1,none)) (L.say t k 13 0))\/
    ((V.ly k).k=6/\c=1/\∀oL:List Nat,(∀j∈oL,j<L.tl/\V.nc<=j)->P (some (t,k,some (c9 4 k 0))) ((L.say t k 15 0).cancel oL))\/
    ((V.ly k).k=6/\c=2/\P (some (t,k,some (L.wt w).b)) L))))
def Fin(V:Ev0)(Z:LS->Prop):Nat->Option (Nat×Nat×Option Bk)->LS->Prop
 |0,_,_=>False
 |m+1,some (t,k,ob),L=>qm V t L/\k<=V.nl/\(L.tk t).p<=k/\(∀b,ob=some b->G5 b/\(0<k->Oy V L t (k-1)))/\match L.step V t k ob with
  |(L',none)=>Fin V Z m none L'
  |(L',some (k',PE))=>Fin V Z m (some (t,k',PE)) L'
 |m+1,none,L=>L.al<1000000/\if cj L.ag L.al<0 then Z L else
  let i:=(cj L.ag L.al).toNat;let e:=L.ag i
  ∃t:Nat,e.t=t/\((e.c=0/\qm V t (L.pop i)/\Fin V Z m (some (t,(L.tk t).p,none)) (L.pop i))\/
   ∃w:Nat,e.w=w/\w<L.wl/\((e.c=1/\((L.wt w).x=true\/(L.wt w).e=true)/\Fin V Z m none (L.pop i))\/
    ((L.wt w).t=t/\(L.wt w).e=false/\((e.c=1/\(L.wt w).x=false)\/((e.c=2\/e.c=3)/\(L.wt w).x=true/\(L.wt w).z=e.c))/\
    OnW (Fin V Z m) V t w e.c ((L.pop i).bV t w))))
def yL(p:Se×Value):List Value:=[i6 p.1.a,i6 p.1.b.k,i6 p.1.b.n,p.2]
def yt(t:OZ):List Value:=[i6 t.a,i6 t.c,i6 t.l,i6 t.w,i6 t.n]
def A4(e:OZ):∀u∈yt e,u.oneCell'=true:=by intro u a;simp[yt]at a;rcases a with rfl|rfl|rfl|rfl|rfl<;>rfl
def qg(x:iN):List Value:=[i6 x.k,i6 x.l,i6 x.n]
abbrev gQ(ca:Addr)(L:List iN):aH:=fR ca 3 (λj=>qg (L.getD j ⟨0,0,0⟩)) L.length false
def fu(C:aW)(h:ay)(L:List iN):Prop:=(h=.slice none 0 0/\L=[])\/∃ca D i,h=.slice (some ca) L.length D/\nth C i=some (gQ ca L)
abbrev BN(ca:Addr)(L:iy):aH:=fR ca 1 (λj=>[.bool (L.getD j false)]) L.length false
def flat:List (Int×Value)->List Value
 |[]=>[]
 |e::es=>.int .i64 e.1::e.2::flat es
def ia:∀es:List (Int×Value),(flat es).length=2*es.length
 |[]=>rfl
 |e::es=>by simp[flat,ia es];omega
def lS:∀a b:List (Int×Value),flat (a++b)=flat a++flat b
 |[],_=>rfl
 |e::es,b=>by simp[flat,lS es b]
def yd:∀es:List (Int×Value),(∀e∈es,e.2.oneCell'=true)->∀u∈flat es,u.oneCell'=true
 |[],_,u,a=>by cases a
 |e::es,h,u,a=>by
  simp only[flat,ak]at a;rcases a with rfl|rfl|a
  .rfl
  .simp_all
  .exact yd es (λx b=>h x (aP _ b)) u a
def uJ:∀(es:jl)(i:Nat),flat (es.take i)=(flat es).take (2*i)
 |[],i=>by simp[flat]
 |e::es,0=>by simp[flat]
 |e::es,i+1=>by rw[show 2*(i+1)=2*i+1+1 by omega];simp[flat,uJ es i]
def uK:∀(es:jl)(i:Nat),flat (es.drop i)=(flat es).drop (2*i)
 |[],i=>by simp[flat]
 |e::es,0=>by simp[flat]
 |e::es,i+1=>by rw[show 2*(i+1)=2*i+1+1 by omega];simp[flat,uK es i]
def fZ(N:Nat)(w:aj)(v:ay)(es:jl):Prop:=
 (∀e∈es,e.2.oneCell'=true)/\((v=.slice none 0 0/\es=[])\/
   ∃E off D H,v=.slice (some ⟨E,off,none⟩) es.length D/\es.length<=D/\N<=E/\w.heap[E]? =some (.cells H 143 (0,0))/\off+2*D<=H.size/\∀(j:Nat)(u:ay),(flat es)[j]? =some u->H[off+j]? =some u)
def fZ.lt(h:fZ N w v es){g:Nat}(a:v.ownBlock=some g):N<=g/\∃H,w.heap[g]? =some (.cells H 143 (0,0)):=by
 rcases h.2 with ⟨rfl,_⟩|⟨E,off,D,H,rfl,_,b,b,_⟩
 .cases a
 .simp[Value.ownBlock]at a;simp_all
def fZ.form(h:fZ N w v es):∃base D,v=.slice base es.length D/\es.length<=D/\(base=none->D=0)/\∀b,base=some b->b.spot=none:=by
 rcases h.2 with ⟨rfl,rfl⟩|⟨E,off,D,H,rfl,a,_⟩
 .grind
 grind
def Kp.bA{L:aN}{C:List Addr}(h:Kp L w w' C)(r:fZ N w v es)(b:∀g∈cw v,g∉L/\∀x∈C,x.block≠g):fZ N w' v es:=by
 refine⟨r.1,r.2.imp id fun⟨E,off,D,H,a,f,e,d,c⟩=>⟨E,off,D,H,a,f,e,?_,c⟩⟩;have:=b E (bS.2 (by rw[a];rfl));exact h.blk E _ _ _ this.1 this.2 d
def eE(H:gd)(p:Nat)(vs:iO)(a:p+vs.length<=H.size)(k:Nat):(H.toList.take p++vs++H.toList.drop (p+vs.length)).toArray[k]? =if k<p then H[k]? else if k<p+vs.length then vs[k-p]? else H[k]? :=by
 have a:(H.toList.take p).length=p:=θ
 grind
def pO(H:gd)(p:Nat)(vs:iO)(a:p+vs.length<=H.size):(H.toList.take p++vs++H.toList.drop (p+vs.length)).toArray.size=H.size:=by
 grind
def oz{k:Nat}{t:TypeId}{a:Nat×Nat}(h:w.heap[E]? =some (.cells H t a)):w.cell? ⟨E,k,none⟩=H[k]? :=by simp[World.cell?,h]
def LY(w:aj)(Y:TypeId){o dl:Nat}{b:Addr}{cs:iO}(q:w.heap[E]? =some (.cells H 143 (0,0)))(s:n=Nat.min U dl)(i:cs.length=2*n)(i:o+cs.length<=H.size)(k:∀j u,cs[j]? =some u->w.cell? (b.add j)=some u)(r:∀u∈cs,u.oneCell'=true):
 (Builtin.copy_ #[115,115] Y #[.slice (some ⟨E,o,none⟩) dl dc,.slice (some b) U sc]).run prog w=.ok (goInt n) (w.setRow E (H.toList.take o++cs++H.toList.drop (o+cs.length)).toArray)/\
   ∀ev∈(Builtin.copy_ #[115,115] Y #[.slice (some ⟨E,o,none⟩) dl dc,.slice (some b) U sc]).events prog w #[],∃g,ev.loc=.cell g/\((ev.write=false/\g.block=b.block)\/g.block=E):=by
 let⟨inf,z,m,_,_,_,i⟩:=lO;have i:cs.length=n*inf.size:=χ
 have p:=run_firstCells_some (P:=prog) w inf.size n b U sc cs i k;have d:=run_storeCells_at (P:=prog) E o 143 cs 0 H w q ω r;simp only[jI]at d;subst s;constructor
 .simp[Builtin.copy_,run_underlying dZ,sizeOf,typeInfo,m,Builtin.lenOf,p,d]
 .intro ev f;simp[Builtin.copy_,run_underlying dZ,sizeOf,typeInfo,m,Builtin.lenOf,p]at f;rcases events_storeCells_at (P:=prog) E o 143 cs 0 H w _ q ω r ev f with h|⟨g,i,i⟩
  .rcases events_firstCells_in (P:=prog) (·=b.block) inf.size (Nat.min U dl) _ w _ (λa l c e=>by
    simp_all) ev h with h|⟨g,a,a,a⟩
   .simp at h
   simp_all
  simp_all
def qC(x:Nat)(w':aj):∀ev∈(askRoom x).events prog w' #[],ev=noRoomEvent:=λev a=>by
 rcases Conc.events_askRoom _ _ _ ev a with h|⟨m,h,a⟩
 .simp at h
 .rw[h,show m=.noRoom from a];rfl
def oA(h:w.heap[E]? =some (.cells H 143 (0,0)))(a:∀(j:Nat)(u:ay),xs[j]? =some u->H[off+j]? =some u):∀j u,xs[j]? =some u->w.cell? ((⟨E,off,none⟩:Addr).add j)=some u:=λj u a=>by
 rw[ey,oz h];simp_all
def xB(w:aj)(Y:TypeId)(S:N<=w.heap.size){t:Int}(n:es.length<2000000)(C:fZ N w v es)(n:w.cell? ⟨nb,0,none⟩=some (.int .i64 t))(n:w.cell? ⟨nb,1,none⟩=some f)(V:f.oneCell'=true):
 ∃n w',(Builtin.append_ #[115,115] Y #[v,.slice (some ⟨nb,0,none⟩) 1 1]).run prog w=.ok n w'/\fZ N w' n (es++[(t,f)])/\w.grownBy w' v.ownBlock/\(n.ownBlock=v.ownBlock\/n.ownBlock=some w.heap.size)/\
  ∀ev∈(Builtin.append_ #[115,115] Y #[v,.slice (some ⟨nb,0,none⟩) 1 1]).events prog w #[],(∃d,ev.loc=.cell d/\((ev.write=false/\d.block=nb)\/some d.block=v.ownBlock))\/ev=noRoomEvent:=by
 have o:∀e∈es++[(t,f)],e.2.oneCell'=true:=λe n=>by
  rcases dJ.1 n with h|h
  .exact C.1 e h
  simp_all
 let⟨inf,z,x,K,y,J,R⟩:=lO;have m:∀j u,[.int .i64 t,f][j]? =some u->w.cell? ((⟨nb,0,none⟩:Addr).add j)=some u:=by
  intro j u i;rw[ey,bK];grind
 have L:([.int .i64 t,f]:iO).length=1*inf.size:=by rw[y];rfl
 have q:∀u∈([.int .i64 t,f]:iO),u.oneCell'=true:=by intro u i;simp at i;rcases i with rfl|rfl;rfl;exact V
 have src:∀(w':aj),(∀d,w'.cell? d=w.cell? d)->∀es,∀ev∈(Builtin.firstCells inf.size 1 (.slice (some ⟨nb,0,none⟩) 1 1)).events prog w' es,ev∈es\/ev.readsIn (·=nb):=by
  intro w' n es;refine events_firstCells_in (P:=prog) (·=nb) inf.size 1 _ w' es λa l c e=>?_;grind
 have fin:∀ev:Event,ev.readsIn (·=nb)->(∃d,ev.loc=.cell d/\((ev.write=false/\d.block=nb)\/some d.block=v.ownBlock))\/ev=noRoomEvent:=λev ⟨d,Q,T,P⟩=>.inl ⟨d,Q,.inl ⟨T,P⟩⟩;have I:=run_firstCells_some (P:=prog) w.drew inf.size 1 ⟨nb,0,none⟩ 1 1 [.int .i64 t,f] L ξ;have r:=run_firstCells_some (P:=prog) w inf.size 1 ⟨nb,0,none⟩ 1 1 [.int .i64 t,f] L ω;rcases C.2 with ⟨rfl,rfl⟩|⟨E,off,D,H,rfl,n,W,g,n,s⟩
 .have B:=run_append_nil (P:=prog) w 115 Y 143 inf z dZ x K ⟨nb,0,none⟩ 1 1 [.int .i64 t,f] L m ω ω ω;have G:=grownCap_ge w 1 0 143;refine⟨_,_,B,⟨o,.inr ⟨w.heap.size,0,grownCap w 1 0 143,_,rfl,G,S,ny (w:=w.drew) rfl rfl,?_,λj u i=>?_⟩⟩,⟨rfl,rfl,rfl,ψ,λk F _=>Below.heap_alloc w.drew _ k F⟩,.inr rfl,λev b=>?_⟩
  .simp only[yY,wO,gB,iT,size_zeroCells,R];omega
  .have n:([.int .i64 t,f]:iO)[j]? =some u:=i;grind
  .have p:¬(281474976710656<Builtin.nextslicecap 1 0*inf.bytes):=by rw[nextslicecap_zero ω,J];omega
   simp[Builtin.append_,run_underlying dZ,sizeOf,typeInfo,zeroValue,x,K,Builtin.lenOf,p,Question.forced,run_firstCells_none,I,newRow]at b;rcases src w.drew (λ_=>rfl) _ ev b with h|h
   .exact .inr (qC _ _ ev (by simpa [Builtin.firstCells]using h))
   simp_all
 have C:(flat es).length=es.length*inf.size:=by rw[y,ia];omega
 have holds:=oA (w:=w) g s;have v:flat (es++[(t,f)])=flat es++[.int .i64 t,f]:=lS _ _;by_cases J:es.length<D
 .have M:=run_storeCells_at (P:=prog) E (off+es.length*2) 143 [.int .i64 t,f] 0 H w g θ q;have B:(Builtin.append_ #[115,115] Y #[.slice (some ⟨E,off,none⟩) es.length D,.slice (some ⟨nb,0,none⟩) 1 1]).run prog w=.ok (.slice (some ⟨E,off,none⟩) (es.length+1) D) (w.setRow E (H.toList.take (off+es.length*2)++[.int .i64 t,f]++H.toList.drop (off+es.length*2+2)).toArray):=by
   simp only[jI,gB,iT]at M;have n:es.length+1<=D:=J;simp[Builtin.append_,run_underlying dZ,sizeOf,typeInfo,x,y,Builtin.lenOf,ey,n];simp_all
  have s:([.int .i64 t,f]:iO).length=2:=rfl;have N:off+es.length*2+([.int .i64 t,f]:iO).length<=H.size:=ω
  refine⟨_,_,B,⟨o,.inr ⟨E,off,D,_,ψ,θ,W,setRow_heap w E H _ 143 _ g,χ,λj u i=>?_⟩⟩,⟨rfl,rfl,rfl,ψ,λk _ F=>setRow_other w E k _ (λe=>F (by simp[Value.ownBlock,e]))⟩,.inl rfl,λev b=>?_⟩
  .have A:=eE H _ _ N (off+j);rw[s]at A;rw[A];rw[v]at i;by_cases U:j<(flat es).length
   .grind
   .rw[vf ω]at i;have O:j-(flat es).length<2:=by
     grind
    rw[ia]at U O i;rw[af ω,sJ ω,show off+j-(off+es.length*2)=j-2*es.length by omega];exact i
  .have n:es.length+1<=D:=J;rw[y]at r;simp[Builtin.append_,run_underlying dZ,sizeOf,typeInfo,x,y,Builtin.lenOf,r,ey,n]at b;rcases events_storeCells_at (P:=prog) E (off+es.length*2) 143 [.int .i64 t,f] 0 H w _ g θ q ev b with h|⟨d,q,g⟩
   .grind
   .exact .inl ⟨d,q,.inr (by simp[Value.ownBlock,g])⟩
 .have g:D=es.length:=ω
  have B:=run_append_grow (P:=prog) w 115 Y 143 inf z dZ x K ⟨E,off,none⟩ es.length D (flat es) C holds ⟨nb,0,none⟩ 1 1 [.int .i64 t,f] L m ω ω (growslice_fits ω χ);have G:=grownCap_ge w (es.length+1) D 143;refine⟨_,_,B,⟨o,.inr ⟨w.heap.size,0,grownCap w (es.length+1) D 143,_,ψ,ξ,S,ny (w:=w.drew) rfl rfl,?_,λj u i=>?_⟩⟩,⟨rfl,rfl,rfl,ψ,λk F _=>Below.heap_alloc w.drew _ k F⟩,.inr rfl,λev b=>?_⟩
  .simp only[yY,wO,gB,iT,size_zeroCells,R,ia];omega
  .grind
  .have p:¬(281474976710656<Builtin.nextslicecap (es.length+1) D*inf.bytes):=by
    have:=growslice_fits (need:=es.length+1) (old:=D) (bytes:=inf.bytes) ω χ;omega
   have f:=run_firstCells_some (P:=prog) w.drew inf.size es.length ⟨E,off,none⟩ es.length D (flat es) C holds;have n:¬(es.length+1<=D):=ω
   have g:¬((9223372036854775807:Int)<(es.length:Int)+1):=ω
   simp[Builtin.append_,run_underlying dZ,sizeOf,typeInfo,zeroValue,x,K,Builtin.lenOf,p,Question.forced,f,I,newRow,n,g]at b;rcases src w.drew (λ_=>rfl) _ ev b with h|h
   .rcases events_firstCells_in (P:=prog) (·=E) inf.size es.length _ w.drew _ (λa l c e=>by
     cases e;simp_all) ev h with h|⟨d,Q,T,P⟩
    .exact .inr (qC _ _ ev h)
    .exact .inl ⟨d,Q,.inr (by simp[Value.ownBlock,P])⟩
   simp_all
def Pb:prog.underlying 3=some (.int .i64):=ρ
def xA(w:aj)(Y:TypeId)(q:w.heap[E]? =some (.cells H 143 (0,0)))(b:xs.length=2*i)(d:∀(j:Nat)(u:ay),xs[j]? =some u->H[off+j]? =some u)(g:0<n)(k:D<i+n)(b:i+n<2000000):
 ∃b I,(Builtin.append_ #[115,3] Y #[.slice (some ⟨E,off,none⟩) i D,.int .i64 n]).run prog w=.ok (.slice (some ⟨w.heap.size,0,none⟩) (i+n) b) (w.drew.alloc (.cells (xs.toArray++I) 143))/\i+n<=b/\I.size=2*(b-i)/\
  ∀ev∈(Builtin.append_ #[115,3] Y #[.slice (some ⟨E,off,none⟩) i D,.int .i64 n]).events prog w #[],(∃m,ev.loc=.cell m/\ev.write=false/\m.block=E)\/ev=noRoomEvent:=by
 let⟨inf,z,p,o,_,b,j⟩:=lO;have b:xs.length=i*inf.size:=χ
 have holds:=oA (w:=w.drew) q d;have d:=run_firstCells_some (P:=prog) w.drew inf.size i ⟨E,off,none⟩ i D xs b holds;have b:=growslice_fits (need:=i+n) (old:=D) (bytes:=inf.bytes) ω χ;have q:=Lib.run_append_grow_zeros w 115 3 Y 143 inf z .i64 .i64 dZ Pb p o (some ⟨E,off,none⟩) i D xs d n g ω k ω χ b;have b:=grownCap_ge w (i+n) D 143;refine⟨grownCap w (i+n) D 143,Builtin.zeroCells z.cells n++Builtin.zeroCells z.cells (grownCap w (i+n) D 143-(i+n)),ξ,b,by simp only[yY,size_zeroCells,j];omega,λev f=>?_⟩;have q:IntKind.i64.wrap (n:Int)=n:=by rw[IntKind.wrap_i64];omega
 have s:¬(i+n<=D):=ω
 have g:¬(9223372036854775807<((i:Int)+(n:Int))):=ω
 have k:¬(281474976710656<Builtin.nextslicecap (i+n) D*inf.bytes):=ω
 have j:¬(281474976710656<(n:Int)*(inf.bytes:Int)):=χ
 have b:¬((n:Int)<0):=ω
 have r:¬(n*inf.size=0):=χ
 simp[Builtin.append_,run_underlying dZ,run_underlying Pb,sizeOf,typeInfo,zeroValue,p,o,asInt,asIntOf,q,s,b,g,k,j,Question.forced,d,newRow]at f;rcases events_firstCells_in (P:=prog) (·=E) inf.size i _ w.drew _ (λa l c e=>by
  grind) ev f with h|⟨m,a,a,a⟩
 .exact .inr (qC _ _ ev h)
 simp_all
def WG{es:dS}{g:oQ}(a:∀e∈es,G4 Ok w' e)(d:w.grownBy w' g)(e:∀b,g=some b->∃H t f,w.heap[b]? =some (.cells H t f))(b:∀(f:Addr)(wr:Bool),some f.block=g->Ok f wr):DX Ok w w' es:=by
 refine⟨a,d.size,λc a e a=>?_,λf j h=>?_,λk i a=>d.block k i (λz=>a ⟨k,0,none⟩ rfl (b _ _ z)),d.os,d.tape,d.output⟩
 .have a:some c≠g:=λz=>by
   grind
  exact(d.block c (cU.1 e).1 a).trans e
 .have a:some f.block≠g:=λz=>j (b _ _ z);have:=d.block _ h a;exact⟨World.cell?_of_block this,World.frozen?_of_block this⟩
def aB.BQ(F:aB prog W (DX Ok) Ψ)(A:Q[i]? =some o)(y:Region.wanted o (yielded Q a.tmps)=true)(B:b.kind≠.early)(s x:Operand)(m:o.op=.call {callee:=.builtin .append,args:=#[s,x],argTypes:=#[115,115]}){t:Int}(z:es.length<2000000)(D:N<=w.heap.size)(q:a.eval s=v)(p:a.eval x=.slice (some ⟨nb,0,none⟩) 1 1)(n:fZ N w v es)(u:w.cell? ⟨nb,0,none⟩=some (.int .i64 t))(E:w.cell? ⟨nb,1,none⟩=some f)(C:f.oneCell'=true)(c:∀(e:Addr)(wr:Bool),some e.block=v.ownBlock->Ok e wr)(l:∀e:Addr,e.block=nb->Ok e false)(h:∀j w',fZ N w' j (es++[(t,f)])->w.grownBy w' v.ownBlock->(j.ownBlock=v.ownBlock\/j.ownBlock=some w.heap.size)->Ψ (G (b.at (a.put o.dst j) (.inRegion Q I::k)) cs) w'):
 Ψ (G (b.at a (.inRegion Q (i::I)::k)) cs) w:=by
 refine F.OA A y B λd K k=>?_;let⟨j,w',f,b,a,t,i⟩:=xB (w.at d) o.type (N:=N) D (v:=v) z n u E C;refine uponK_append s x 115 m q p f (k _ w' ⟨WG (λev k=>?_) a (λg d=>by let⟨_,H,f⟩:=fZ.lt n d;exact⟨H,_,_,f⟩) c,h j w' b ⟨a.os,a.tape,a.output,a.size,a.block⟩ t⟩);have r:=mem_listed k;rw[events_append_op s x 115 m q p]at r;rcases i ev r with ⟨e,d,⟨b,g⟩|b⟩|d
 .exact .inl ⟨e,d,rfl,by rw[b];exact l e g,by rw[g];exact ga (au (w:=w) u) a.size⟩
 .let⟨g,H,f⟩:=fZ.lt n b.symm;exact .inl ⟨e,d,rfl,c _ _ b,ga (cU.1 f).1 a.size⟩
 .exact .inr d
def aB.MC(F:aB prog W (DX Ok) Ψ)(P:Q[i]? =some o)(N:Region.wanted o (yielded Q a.tmps)=true)(y:b.kind≠.early)(s x:Operand)(l:o.op=.call {callee:=.builtin .append,args:=#[s,x],argTypes:=#[115,3]})(J:a.eval s=.slice (some ⟨E,off,none⟩) p D)(C:a.eval x=.int .i64 n)(M:w.heap[E]? =some (.cells H 143 (0,0)))(v:xs.length=2*p)(s:∀(j:Nat)(u:ay),xs[j]? =some u->H[off+j]? =some u)(j:0<n)(R:D<p+n)(x:p+n<2000000)(r:∀e:Addr,e.block=E->Ok e false)(h:∀q c u,p+n<=q->c.size=2*(q-p)->w.alloc (.cells (xs.toArray++c) 143)=u->Ψ (G (b.at (a.put o.dst (.slice (some ⟨w.heap.size,0,none⟩) (p+n) q)) (.inRegion Q I::k)) cs) u):
 Ψ (G (b.at a (.inRegion Q (i::I)::k)) cs) w:=by
 refine F.OA P N y λd K i=>?_;let⟨q,c,b,S,t,B⟩:=xA (w.at d) o.type (n:=n) M v s j R x;have m:(w.at d).grownBy ((w.at d).drew.alloc (.cells (xs.toArray++c) 143)) none:=⟨rfl,rfl,rfl,ψ,λk y _=>Below.heap_alloc (w.at d).drew _ k y⟩
 have f:uponK o a K ((execOp a.eval o).run prog (w.at d)):=by
  unfold execOp;simp only[l,resolve,invoke,builtin,Am,An,Hv,YX,nP,uf,J,C,b];refine i _ _ ⟨WG (g:=none) (λev O=>?_) m (λg A=>by cases A) (λe wr z=>by cases z),?_⟩
  .have L:=mem_listed O;have b:(execOp a.eval o).events prog (w.at d) #[]=(Builtin.append_ #[115,3] o.type #[.slice (some ⟨E,off,none⟩) p D,.int .i64 n]).events prog (w.at d) #[]:=by
    unfold execOp;simp only[l,resolve,invoke,builtin,YV,An,Sem.events_pure,xg,YX,nP,uf,J,C];simp_all
   rw[b]at L;rcases B ev L with ⟨e,a,g,b⟩|a
   .exact .inl ⟨e,a,rfl,by rw[g];exact r e b,by rw[b];exact ga (cU.1 M).1 m.size⟩
   .exact .inr a
  .exact F.at' _ (w.alloc (.cells (xs.toArray++c) 143)) (d+1) (h q c _ S t rfl)
 exact f
def aB.BH(F:aB prog W (DX Ok) Ψ)(N:Q[i]? =some o)(L:Region.wanted o (yielded Q a.tmps)=true)(t:b.kind≠.early)(s x:Operand)(m:o.op=.call {callee:=.builtin .copy,args:=#[s,x],argTypes:=#[115,115]}){dl:Nat}{bb:Addr}(D:a.eval s=.slice (some ⟨E,p,none⟩) dl dc)(C:a.eval x=.slice (some bb) U sc)(B:w.heap[E]? =some (.cells H 143 (0,0)))(x:n=Nat.min U dl)(O:vs.length=2*n)(q:p+vs.length<=H.size)(s:∀j u,vs[j]? =some u->w.cell? (bb.add j)=some u)(P:∀u∈vs,u.oneCell'=true)(l:∀(c:Addr)(wr:Bool),c.block=E->Ok c wr)(r:∀c:Addr,c.block=bb.block->Ok c false)(A:bb.block<w.heap.size)(h:∀j,w.setRow E (H.toList.take p++vs++H.toList.drop (p+vs.length)).toArray=j->Ψ (G (b.at (a.put o.dst (.int .i64 n)) (.inRegion Q I::k)) cs) j):
 Ψ (G (b.at a (.inRegion Q (i::I)::k)) cs) w:=by
 refine F.op N L t λd K i=>?_;let⟨b,y⟩:=LY (w.at d) o.type (dc:=dc) (sc:=sc) B x O q s P;have f:(w.at d).grownBy ((w.at d).setRow E (H.toList.take p++vs++H.toList.drop (p+vs.length)).toArray) (some E):=⟨rfl,rfl,rfl,ψ,λk _ t=>setRow_other _ E k _ (λe=>t (by rw[e]))⟩;unfold execOp;simp only[m,resolve,invoke,builtin,Am,An,Hv,YX,nP,uf,D,C,b];refine i _ (w.setRow E (H.toList.take p++vs++H.toList.drop (p+vs.length)).toArray) ⟨WG (g:=some E) (λev M=>?_) f (λg v=>by cases v;exact⟨_,_,_,B⟩) (λc wr z=>l c wr (Option.some.inj z)),h _ rfl⟩;have J:=mem_listed M;have b:(execOp a.eval o).events prog (w.at d) #[]=(Builtin.copy_ #[115,115] o.type #[.slice (some ⟨E,p,none⟩) dl dc,.slice (some bb) U sc]).events prog (w.at d) #[]:=by
  unfold execOp;simp only[m,resolve,invoke,builtin,YV,An,Sem.events_pure,xg,YX,nP,uf,D,C];simp_all
 rw[b]at J;obtain⟨c,d,⟨a,b⟩|a⟩:=y ev J
 .exact .inl ⟨c,d,rfl,by rw[a];exact r c b,by rw[b];exact ga A f.size⟩
 .exact .inl ⟨c,d,rfl,l _ _ a,by rw[a];exact ga (cU.1 B).1 f.size⟩
def sE(v:Q[i]? =some o)(t:Region.wanted o (yielded Q a.tmps)=true)(y:b.kind≠.early)(s x:Operand)(l:o.op=.call {callee:=.value (.func 85),args:=#[s,x],argTypes:=ats}){h d:gd}{j g:TypeId}(u:a.eval s=.slice (some ⟨nb,0,none⟩) la ca)(r:a.eval x=.slice (some ⟨E,p,none⟩) lb cb)(q:w.heap[nb]? =some (.cells h j (0,0)))(n:w.heap[E]? =some (.cells d g (0,0)))(f:nb≠E)(A:d.size≠0):
 stepG prog W (G (b.at a (.inRegion Q (i::I)::k)) cs) w=.go (G (b.at (a.put o.dst (.bool false)) (.inRegion Q I::k)) cs) w #[]:=by
 have i:∀w,(Go.sizeOf 143).run prog w=.ok 2 w:=λw=>by
  rfl
 have b:∀(k:Nat),w.frozen? ⟨nb,k,none⟩=false:=λk=>by simp[World.frozen?,q]
 have e:w.shape? nb=some (j,h.size):=by simp[World.shape?,q]
 have c:w.shape? E=some (g,d.size):=by simp[World.shape?,n]
 have o:=Lib.run_overlaps_apart (P:=prog) w 115 4 143 dZ 2 i ⟨nb,0,none⟩ ⟨E,p,none⟩ la ca lb cb f j g h.size d.size e c A (b 0) (b _);refine stepG_entry (e:=Extern.SlicesOverlaps.overlaps #[115,115] #[4]) v t y l func85 ρ ρ ρ ρ (v:=.bool false) (w':=w) (evs:=#[]) ξ ?_ ψ;rw[show(#[s,x]:Array Operand).map a.eval=#[a.eval s,a.eval x]from by simp,u,r];have a:(nb !=E)=true:=ξ
 have g:(nb==E)=false:=ξ
 obtain⟨m,a⟩:∃m,d.size=m+1:=⟨d.size-1,ω⟩;rw[a]at c;have i:=b 0;have d:=b h.size;let⟨inf,z,j,_,h,_,a⟩:=lO;unfold Extern.SlicesOverlaps.overlaps;delta Extern.SlicesOverlaps.overlaps.match_4;dsimp -zeta only[Array.casesOn,Array.size,List.length,Array.getLit];have a:¬nb=E:=f;have b:∀(k:Nat),w.frozen? ⟨E,k,none⟩=false:=λk=>by simp[World.frozen?,n]
 simp[run_underlying dZ,sizeOf,typeInfo,j,h,g,a,noView,viewAt,mayBeOne,stringish,e,c,i,d,b,Result.evThen]
def aB.apart(F:aB prog W (DX Ok) Ψ)(m:Q[i]? =some o)(j:Region.wanted o (yielded Q a.tmps)=true)(n:b.kind≠.early)(s x:Operand)(c:o.op=.call {callee:=.value (.func 85),args:=#[s,x],argTypes:=ats}){t f:gd}{r e:TypeId}(l:a.eval s=.slice (some ⟨nb,0,none⟩) la ca)(g:a.eval x=.slice (some ⟨E,p,none⟩) lb cb)(q:w.heap[nb]? =some (.cells t r (0,0)))(p:w.heap[E]? =some (.cells f e (0,0)))(e:nb≠E)(r:f.size≠0)(h:Ψ (G (b.at (a.put o.dst (.bool false)) (.inRegion Q I::k)) cs) w):Ψ (G (b.at a (.inRegion Q (i::I)::k)) cs) w:=by
 refine F.step _ _ rfl λd=>⟨_,w.at d,#[],sE m j n s x c l g q p e r,F.idle _ _,F.at' _ _ _ h,λz v _ _=>?_⟩
 have a:(Yq z v E f).size=f.size:=by unfold Yq;grind
 exact sE m j n s x c l g (vF (w:=w.at d) z v q) (vF (w:=w.at d) z v p) e ω
def l6(w:aj)(d:l=L)(b:L<=q)(e:q<=D):(Instr.sliceAt 115 (.slice (some ⟨E,off,none⟩) q D) (some (.int .i64 l)) none none).run prog w=.ok (.slice (some (if D=L then⟨E,off,none⟩else⟨E,off+L*2,none⟩)) (q-L) (D-L)) w/\
 (Instr.sliceAt 115 (.slice (some ⟨E,off,none⟩) q D) (some (.int .i64 l)) none none).events prog w #[]=#[]:=by
 let⟨inf,z,a,_,c,_,e⟩:=lO;subst d;have d:(L:Int)<=(q:Int):=ω
 constructor
 .simp[Instr.sliceAt,run_underlying dZ,Instr.slice,Instr.sliceBounds,Instr.sliceBound,asIntOf,sizeOf,typeInfo,a,c,b,ey];grind
 .simp[Instr.sliceAt,run_underlying dZ,Instr.slice,Instr.sliceBounds,Instr.sliceBound,asIntOf,sizeOf,typeInfo,a,b]
def Ki(w:aj){b:Addr}(d:l=L)(c:L<=D):(Instr.sliceAt 115 (.slice (some b) q D) none (some (.int .i64 l)) none).run prog w=.ok (.slice (some b) L D) w/\
 (Instr.sliceAt 115 (.slice (some b) q D) none (some (.int .i64 l)) none).events prog w #[]=#[]:=by
 let⟨inf,z,a,_,_,_,e⟩:=lO;subst d;have d:(L:Int)<=(D:Int):=ω
 have d:b.add 0=b:=φ
 constructor
 .simp[Instr.sliceAt,run_underlying dZ,Instr.slice,Instr.sliceBounds,Instr.sliceBound,asIntOf,sizeOf,typeInfo,a,c,d]
 .simp[Instr.sliceAt,run_underlying dZ,Instr.slice,Instr.sliceBounds,Instr.sliceBound,asIntOf,sizeOf,typeInfo,a,c]
def pP(R:gd)(p:Nat)(vs:iO):Array Value:=(R.toList.take p++vs++R.toList.drop (p+vs.length)).toArray
def jL(h:p+vs.length<=R.size):(pP R p vs).size=R.size:=pO R p vs h
def Bh{R1 R2:gd}{o:Nat}{a:iO}(b:xs.length=2*q)(b:i<=q)(b:a.length=2)(b:o+2*(q+1)<=R.size)(b:∀(j:Nat)(u:ay),j<2*i->xs[j]? =some u->R[o+j]? =some u)(h:(R1=pP R (o+i*2) a/\R2=pP R1 (o+(i+1)*2) (xs.drop (2*i)))\/(R1=pP R (o+(i+1)*2) (xs.drop (2*i))/\R2=pP R1 (o+i*2) a)):
 ∀(j:Nat)(u:ay),(xs.take (2*i)++(a++xs.drop (2*i)))[j]? =some u->R2[o+j]? =some u:=by
 have c:(xs.drop (2*i)).length=2*q-2*i:=θ
 have f:(xs.take (2*i)).length=2*i:=θ
 intro j u e;have key:R2[o+j]? =if j<2*i then R[o+j]? else if j<2*i+2 then a[j-2*i]? else if j<2*q+2 then(xs.drop (2*i))[j-(2*i+2)]? else R[o+j]? :=by
  rcases h with ⟨rfl,rfl⟩|⟨rfl,rfl⟩
  .have d:(pP R (o+i*2) a).size=R.size:=jL ω;rw[pP,eE _ _ _ ω,c];by_cases a:j<2*i
   .rw[sJ ω,sJ a,pP,eE _ _ _ ω,sJ ω]
   .rw[af a];by_cases b:j<2*i+2
    .rw[sJ ω,sJ b,pP,eE _ _ _ ω,af ω,sJ ω];grind
    .rw[af ω,af b];by_cases c3:j<2*q+2
     .rw[sJ ω,sJ c3];congr 1;omega
     grind
  .have d:(pP R (o+(i+1)*2) (xs.drop (2*i))).size=R.size:=jL ω;rw[pP,eE _ _ _ ω];by_cases a:j<2*i
   .rw[sJ ω,sJ a,pP,eE _ _ _ ω,sJ ω]
   .rw[af ω,af a];by_cases b:j<2*i+2
    .grind
    .rw[af ω,af b,pP,eE _ _ _ ω,af ω,c];by_cases c3:j<2*q+2
     .rw[sJ ω,sJ c3];congr 1;omega
     grind
 rw[key];by_cases a:j<2*i
 .grind
 .rw[af a];rw[vf ω,f]at e;grind
def yf(es:jl)(i:Nat)(t:Int)(f:ay):flat (es.take i++(t,f)::es.drop i)=(flat es).take (2*i)++([.int .i64 t,f]++(flat es).drop (2*i)):=by
 rw[lS,uJ,show flat ((t,f)::es.drop i)=.int .i64 t::f::flat (es.drop i)from rfl,uK];rfl
def IP(h:∀e∈es,e.2.oneCell'=true)(a:f.oneCell'=true)(i:Nat)(t:Int):∀e∈es.take i++(t,f)::es.drop i,e.2.oneCell'=true:=λe a=>by
 grind
def qL(es:jl)(i:Nat)(t:Int)(f:ay)(h:i<=es.length):(es.take i++(t,f)::es.drop i).length=es.length+1:=θ
def Kp.setRow(w:aj)(E:Nat)(cs:gd):Kp [E] w (w.setRow E cs):=by
 have:=Kp.grown (v:=.slice (some ⟨E,0,none⟩) 0 0) (w:=w) (w':=w.setRow E cs) ⟨rfl,rfl,rfl,ψ,λk _ a=>setRow_other w E k _ (λe=>a (by simp[Value.ownBlock,e]))⟩;simpa [cw,Value.ownBlock]using this
def nS{x:Int}(a:0<=x)(a:x<1000000000):IntKind.i64.wrap x=x:=by rw[IntKind.wrap_i64];omega
def rT{t:Int}{a:TypeId}(h:w.heap[nb]? =some (.cells #[.int .i64 t,f] a (0,0))):∀j u,([.int .i64 t,f]:iO)[j]? =some u->w.cell? ((⟨nb,0,none⟩:Addr).add j)=some u:=λj u a=>by
 rw[ey,oz h,bK,Hz];exact a
def NT(w:aj)(b:eP)(c:Nat):(Instr.sliceAt 115 (.slice b 0 c) (some (.int .i64 0)) none none).events prog w #[]=#[]:=by
 rfl
def CE(N nb i:Nat)(t:Int)(f:ay)(tb:TypeId)(J:aj)(es:jl)(To:es.length<1000000)(hi:i<=es.length)(hN:N<=J.heap.size){en:ay}(O:fZ N J en es)(Y:J.heap[nb]? =some (.cells #[.int .i64 t,f] tb (0,0)))(hf:f.oneCell'=true)(qM:nb∉cw en)(W7:∀(B:Addr)(wr:Bool),B.block∈cw en\/J.heap.size<=B.block->Ok B wr)(R:∀B:Addr,B.block=nb->Ok B false):
 fG prog W (DX Ok) 59 #[en,.int .i64 i,.slice (some ⟨nb,0,none⟩) 1 1] J λv' w'=>fZ N w' v' (es.take i++(t,f)::es.drop i)/\Kp (cw en) J w'/\∀g∈cw v',g∈cw en\/J.heap.size<=g:=by
 have U6:nb<J.heap.size:=(cU.1 Y).1;have Tr:=rT Y;intro Ψ F c cs hc;simp only[enter_at _ func59 rfl,ntmps59];walk_nrm;rcases id O.2 with ⟨rfl,rfl⟩|⟨E,off,D,H,rfl,hle,hE,C,VC,Qb⟩
 .obtain rfl:i=0:=ξ
  refine F.sr ?_;simp only[rg];refine F.aJ ?_;refine F.re ?_;refine F.cF ?_;iterate 2 (refine F.aJ ?_)
  refine F.AZ rfl rfl δ (λ_=>φ) (λd K x=>?_);go_simp;refine x _ ?_;clear x K d;try walk_nrm
  refine F.dA ?_;iterate 3 (refine F.aJ ?_)
  refine F.es ?_;refine F.cF ?_;iterate 2 (refine F.aJ ?_)
  refine F.re ?_;refine F.cf rfl ?_;refine F.sk ?_;refine F.cF ?_;iterate 3 (refine F.aJ ?_)
  refine F.es ?_;refine F.cF ?_;iterate 3 (refine F.aJ ?_)
  refine F.re ?_;refine F.ct rfl ?_;refine F.cF ?_;iterate 2 (refine F.aJ ?_)
  refine F.BQ rfl rfl δ (.tmp 23) (.tmp 24) rfl (N:=N) (nb:=nb) (v:=.slice none 0 0) (es:=[]) (t:=t) (f:=f) δ hN rfl rfl O (Tr 0 _ rfl) (Tr 1 _ rfl) hf (λB wr h=>by cases h) R ?_;intro v' w' ho Z hb;try walk_nrm
  refine F.aJ ?_;refine F.tC func59 ?_;refine hc _ _ ⟨ho,Kp.grown Z,λg (h:g∈cw v')=>.inr ?_⟩;rw[bS]at h;rcases hb with y|y;rw[y]at h;cases h;simp_all
 have XV:E<J.heap.size:=(cU.1 C).1;have n:=O.1;have S:∀(B:Addr)(wr:Bool),B.block=E->Ok B wr:=λB wr h=>W7 B wr (.inl (by simp[cw,Value.ownBlock,h]));have U:∀(B:Addr)(wr:Bool),J.heap.size<=B.block->Ok B wr:=λB wr h=>W7 B wr (.inr h);replace qM:nb≠E:=λh=>qM (by simp[cw,Value.ownBlock,h]);replace hc:∀v' w',fZ N w' v' (es.take i++(t,f)::es.drop i)/\Kp [E] J w'/\(∀g∈cw v',g=E\/J.heap.size<=g)->Ψ (G (c.finish v') cs) w':=λv w h=>hc v w ⟨h.1,h.2.1,λg Z=>(h.2.2 g Z).imp (λe=>by simp[cw,Value.ownBlock,e]) id⟩;have QM:=ia es;have X2:∀u∈([.int .i64 t,f]:iO),u.oneCell'=true:=by intro u P;simp at P;rcases P with rfl|rfl;rfl;exact hf
 have U0:=yd es n;generalize hq:es.length=q at To hi hle QM O hc;have c:(q:Int)+1<=1000001:=ω
 have c:IntKind.i64.wrap ((q:Int)+1)=(q:Int)+1:=nS ω ω;have c:IntKind.i64.wrap ((i:Int)+1)=(i:Int)+1:=nS ω ω;have wn:IntKind.i64.wrap ((q:Int)+1-(i:Int))=((q+1-i:Nat):Int):=by rw[nS ω ω];omega
 have c:∀w,(Instr.sliceAt 115 (.slice (some ⟨E,off,none⟩) q D) (some (.int .i64 i)) none none).events prog w #[]=#[]:=λw=>(l6 w rfl hi hle).2;by_cases c:i=q
 .have c1:((i:Int)==(q:Int))=true:=θ
  have e:i<=q/\q<=i:=⟨hi,pK c.symm⟩;clear c;have c:es.take i++(t,f)::es.drop i=es++[(t,f)]:=by rw[List.take_of_length_le ω,List.drop_of_length_le ω]
  refine F.sr ?_;simp only[rg];refine F.aJ ?_;refine F.dA ?_;iterate 3 (refine F.oq rfl rfl rfl (λ_=>by first|(simp[go_sem];done)|simp[go_sem, *]) λd K x=>?_;go_simp;refine x _ ?_;clear x K d;try walk_nrm)
  refine F.dA ?_;iterate 3 (refine F.aJ ?_)
  refine F.es ?_;refine F.cF ?_;iterate 2 (refine F.aJ ?_)
  refine F.re ?_;refine F.cf rfl ?_;refine F.sk ?_;refine F.cF ?_;iterate 3 (refine F.aJ ?_)
  refine F.es ?_;refine F.cF ?_;iterate 3 (refine F.aJ ?_)
  refine F.re ?_;refine F.ct rfl ?_;refine F.cF ?_;iterate 2 (refine F.aJ ?_)
  refine F.BQ rfl rfl δ (.tmp 23) (.tmp 24) rfl (N:=N) (nb:=nb) (v:=.slice (some ⟨E,off,none⟩) q D) (es:=es) (t:=t) (f:=f) ω hN rfl rfl O (Tr 0 _ rfl) (Tr 1 _ rfl) hf (λB wr h=>S B wr (Option.some.inj h)) R ?_;intro v' w' ho Z hb;try walk_nrm
  refine F.aJ ?_;refine F.tC func59 ?_;refine hc _ _ ⟨ξ,?_,λg h=>?_⟩
  .have:=Kp.grown Z;simpa [cw,Value.ownBlock]using this
  .rw[bS]at h;rcases hb with y|y
   .exact .inl (Option.some.inj (h.symm.trans y))
   simp_all
 have c1:((i:Int)==(q:Int))=false:=θ
 have c:(D=i)=False:=θ
 have c:i<q:=ω
 have hpn:i+(q+1-i)=q+1:=ω
 have Xw:=IP n hf i t;have c:(i:Int)<=(D:Int):=ω
 have c:i<=D:=ω
 have c:∀w,(Builtin.cap_ #[115] 3 #[.slice (some ⟨E,off,none⟩) q D]).events prog w #[]=#[]:=λw=>φ
 have c:((i:Int)+1).toNat=i+1:=ω
 have c:((q:Int)+1).toNat=q+1:=ω
 have ip:(0:Int)<=(i:Int)+1:=ω
 have c:(0:Int)<=(q:Int)+1:=ω
 have c:(i:Int)<=(q:Int):=ω
 have c:(i:Int)+1<=(q:Int)+1:=ω
 have hxt:((flat es).take (2*i)).length=2*i:=θ
 have Uy:((flat es).drop (2*i)).length=2*(q-i):=θ
 have Qj:∀j u,((flat es).drop (2*i))[j]? =some u->H[off+i*2+j]? =some u:=λj u P=>by
  grind
 have RO:∀u∈(flat es).drop (2*i),u.oneCell'=true:=λu P=>U0 u (DV P);refine F.sr ?_;simp only[rg];refine F.aJ ?_;refine F.dA ?_;iterate 3 (refine F.oq rfl rfl rfl (λ_=>by first|(simp[go_sem];done)|simp[go_sem, *]) λd K x=>?_;go_simp;refine x _ ?_;clear x K d;try walk_nrm)
 refine F.dA ?_;iterate 3 (refine F.aJ ?_)
 refine F.es ?_;refine F.cF ?_;iterate 2 (refine F.aJ ?_)
 refine F.re ?_;refine F.cf rfl ?_;refine F.sk ?_;refine F.cF ?_;iterate 3 (refine F.aJ ?_)
 refine F.es ?_;refine F.cF ?_;iterate 3 (refine F.aJ ?_)
 refine F.re ?_;refine F.cf rfl ?_;refine F.sk ?_;refine F.sq ?_;refine F.cF ?_;iterate 6 (refine F.oq rfl rfl rfl (λ_=>by first|(simp[go_sem];done)|simp[go_sem, *]) λd K x=>?_;go_simp;refine x _ ?_;clear x K d;try walk_nrm)
 refine F.re ?_;by_cases c:q+1<=D
 .have c3:((D:Int)<(q:Int)+1)=False:=θ
  have e:(q:Int)+1<=(D:Int):=ω
  have e:(D=i+1)=False:=θ
  have UN:(i:Int)<=(q:Int)+1:=ω
  have Qs:q+1-(i+1)=q-i:=ω
  have e:∀w,(Instr.sliceAt 115 (.slice (some ⟨E,off,none⟩) q D) none (some (.int .i64 ((q:Int)+1))) none).events prog w #[]=#[]:=λw=>(Ki w (L:=q+1) ω c).2;have c:∀w,(Instr.sliceAt 115 (.slice (some ⟨E,off,none⟩) (q+1) D) (some (.int .i64 ((i:Int)+1))) none none).events prog w #[]=#[]:=λw=>(l6 w (L:=i+1) ω ω ω).2;have c:∀w,(Instr.sliceAt 115 (.slice (some ⟨E,off,none⟩) (q+1) D) (some (.int .i64 i)) none none).events prog w #[]=#[]:=λw=>(l6 w rfl ω ω).2;simp only[c3,decide_false];refine F.cf rfl ?_;refine F.sk ?_;refine F.cF ?_;iterate 6 (refine F.oq rfl rfl rfl (λ_=>by first|(simp[go_sem];done)|simp[go_sem, *]) λd K x=>?_;go_simp;refine x _ ?_;clear x K d;try walk_nrm)
  refine F.es ?_;refine F.cF ?_;iterate 6 (refine F.oq rfl rfl rfl (λ_=>by first|(simp[go_sem];done)|simp[go_sem, *]) λd K x=>?_;go_simp;refine x _ ?_;clear x K d;try walk_nrm)
  refine F.apart rfl rfl δ (.tmp 61) (.tmp 66) rfl (nb:=nb) (E:=E) rfl rfl Y C qM ω ?_;try walk_nrm
  refine F.oq rfl rfl rfl (λ_=>φ) λd K x=>?_;go_simp;refine x _ ?_;clear x K d;try walk_nrm
  refine F.re ?_;refine F.ct rfl ?_;refine F.sq ?_;refine F.yw (γ:=Unit) (n:=9) mixed [[],[],[],[1,2],[0,3],[],[],[5,6],[4,7]] rfl ρ (λb g=>[(69,dB (b 0) (.slice (some ⟨E,off,none⟩) (q+1) D) (undef)),(70,dB (b 1) (.int .i64 i) (undef)),(71,dB (b 2) (.int .i64 1) (undef)),(72,dB (b 3) (.int .i64 ((i:Int)+1)) (undef)),(73,dB (b 4) (.slice (some ⟨E,off+(i+1)*2,none⟩) (q-i) (D-(i+1))) (undef)),(74,dB (b 5) (.slice (some ⟨E,off,none⟩) (q+1) D) (undef)),(75,dB (b 6) (.int .i64 i) (undef)),(76,dB (b 7) (.slice (some ⟨E,off+i*2,none⟩) (q+1-i) (D-i)) (undef)),(77,dB (b 8) (.int .i64 ((q-i:Nat):Int)) (undef))]) (λb g w=>(b 8=false->w=J)/\(b 8=true->(J.setRow E (pP H (off+(i+1)*2) ((flat es).drop (2*i)))=w))) (()) (by simp only[pu]) (⟨λ_=>rfl,λh=>by cases h⟩) (all_cons ?_ (all_cons ?_ (all_cons ?_ (all_cons ?_ (all_cons ?_ (all_cons ?_ (all_cons ?_ (all_cons ?_ (all_cons ?_ (all_nil)))))))))) ?_
  .intro b g w z l a r I A o;let⟨m,s⟩:=z;replace a:b 0=false:=a;have gD:=dy (l 4 0 rfl) a;have dG:=dy (l 8 4 rfl) gD;have p:=(m dG).symm;subst p;simp only[gD,dG,a,pu];refine F.aJ ?_;have k:=o g _ ⟨λ_=>rfl,λh=>no dG h⟩;simp only[gD,dG,a,pu,Nat.reduceEqDiff,reduceIte]at k;exact k
  .intro b g w z l a r I A o;let⟨m,s⟩:=z;replace a:b 1=false:=a;have Yl:=dy (l 3 1 rfl) a;have gD:=dy (l 4 3 rfl) Yl;have dG:=dy (l 8 4 rfl) gD;have p:=(m dG).symm;subst p;simp only[Yl,gD,dG,a,pu];refine F.aJ ?_;have k:=o g _ ⟨λ_=>rfl,λh=>no dG h⟩;simp only[Yl,gD,dG,a,pu,Nat.reduceEqDiff,reduceIte]at k;exact k
  .intro b g w z l a r I A o;let⟨m,s⟩:=z;replace a:b 2=false:=a;have Yl:=dy (l 3 2 rfl) a;have gD:=dy (l 4 3 rfl) Yl;have dG:=dy (l 8 4 rfl) gD;have p:=(m dG).symm;subst p;simp only[Yl,gD,dG,a,pu,Nat.reduceAdd];refine F.aJ ?_;have k:=o g _ ⟨λ_=>rfl,λh=>no dG h⟩;simp only[Yl,gD,dG,a,pu,Nat.reduceAdd,Nat.reduceEqDiff,reduceIte]at k;exact k
  .intro b g w z l a r I A o;let⟨m,s⟩:=z;replace a:b 3=false:=a;have d1:=r 1 rfl;have d2:=r 2 rfl;have gD:=dy (l 4 3 rfl) a;have dG:=dy (l 8 4 rfl) gD;have p:=(m dG).symm;subst p;simp only[d1,d2,gD,dG,a,pu,Nat.reduceAdd];refine F.aJ ?_;have k:=o g _ ⟨λ_=>rfl,λh=>no dG h⟩;simp only[d1,d2,gD,dG,a,pu,Nat.reduceAdd,Nat.reduceEqDiff,reduceIte]at k;exact k
  .intro b g w z l a r I A o;let⟨m,s⟩:=z;replace a:b 4=false:=a;have d0:=r 0 rfl;have d3:=r 3 rfl;have dG:=dy (l 8 4 rfl) a;have p:=(m dG).symm;subst p;simp only[d0,d3,dG,a,pu,Nat.reduceAdd];refine F.oq rfl rfl rfl (λ_=>by first|(simp[go_sem];done)|simp[go_sem, *]) λd K x=>?_;go_simp;refine x _ ?_;clear x K d;try walk_nrm
   have k:=o g _ ⟨λ_=>rfl,λh=>no dG h⟩;simp only[d0,d3,dG,a,pu,Nat.reduceAdd,Nat.reduceEqDiff,reduceIte]at k;exact k
  .intro b g w z l a r I A o;let⟨m,s⟩:=z;replace a:b 5=false:=a;have vN:=dy (l 7 5 rfl) a;have dG:=dy (l 8 7 rfl) vN;have p:=(m dG).symm;subst p;simp only[vN,dG,a,pu,Nat.reduceAdd];refine F.aJ ?_;have k:=o g _ ⟨λ_=>rfl,λh=>no dG h⟩;simp only[vN,dG,a,pu,Nat.reduceAdd,Nat.reduceEqDiff,reduceIte]at k;exact k
  .intro b g w z l a r I A o;let⟨m,s⟩:=z;replace a:b 6=false:=a;have vN:=dy (l 7 6 rfl) a;have dG:=dy (l 8 7 rfl) vN;have p:=(m dG).symm;subst p;simp only[vN,dG,a,pu,Nat.reduceAdd];refine F.aJ ?_;have k:=o g _ ⟨λ_=>rfl,λh=>no dG h⟩;simp only[vN,dG,a,pu,Nat.reduceAdd,Nat.reduceEqDiff,reduceIte]at k;exact k
  .intro b g w z l a r I A o;let⟨m,s⟩:=z;replace a:b 7=false:=a;have d5:=r 5 rfl;have d6:=r 6 rfl;have dG:=dy (l 8 7 rfl) a;have p:=(m dG).symm;subst p;simp only[d5,d6,dG,a,pu,Nat.reduceAdd];refine F.oq rfl rfl rfl (λ_=>by first|(simp[go_sem];done)|simp[go_sem, *]) λd K x=>?_;go_simp;refine x _ ?_;clear x K d;try walk_nrm
   have k:=o g _ ⟨λ_=>rfl,λh=>no dG h⟩;simp only[d5,d6,dG,a,pu,Nat.reduceAdd,Nat.reduceEqDiff,reduceIte]at k;exact k
  .intro b g w z l a r I A o;let⟨m,s⟩:=z;replace a:b 8=false:=a;have d4:=r 4 rfl;have d7:=r 7 rfl;have p:=(m a).symm;subst p;simp only[d4,d7,a,pu,Nat.reduceAdd];refine F.BH rfl rfl δ (.tmp 73) (.tmp 76) rfl (E:=E) (p:=off+(i+1)*2) (n:=q-i) (vs:=(flat es).drop (2*i)) (bb:=⟨E,off+i*2,none⟩) rfl rfl C (Nat.min_eq_right ω).symm Uy ω (oA C Qj) RO S (λB h=>S B false h) XV ?_;intro w3 T;try walk_nrm
   have k:=o g _ ⟨λh=>by simp[tick]at h,λ_=>T⟩;simp only[d4,d7,a,pu,Nat.reduceAdd,Nat.reduceEqDiff,reduceIte]at k;exact k
  intro b g w z n;let⟨m,s⟩:=z;simp only[n 0 δ,n 1 δ,n 2 δ,n 3 δ,n 4 δ,n 5 δ,n 6 δ,n 7 δ,n 8 δ,pu,Nat.reduceAdd,Nat.reduceEqDiff,reduceIte];have L:=s (n 8 δ);have s1:(pP H (off+(i+1)*2) ((flat es).drop (2*i))).size=H.size:=jL ω;have V:w.heap[E]? =some (.cells (pP H (off+(i+1)*2) ((flat es).drop (2*i))) 143 (0,0)):=by rw[<-L];exact setRow_heap J E _ _ 143 _ C
  have X:w.heap[nb]? =some (.cells #[.int .i64 t,f] tb (0,0)):=by rw[<-L,setRow_other _ E nb _ qM];exact Y
  have c:w.heap.size=J.heap.size:=by rw[<-L];simp
  refine F.dA ?_;iterate 4 (refine F.oq rfl rfl rfl (λ_=>by first|(simp[go_sem];done)|simp[go_sem, *]) λd K x=>?_;go_simp;refine x _ ?_;clear x K d;try walk_nrm)
  refine F.BH rfl rfl δ (.tmp 80) (.tmp 81) rfl (E:=E) (p:=off+i*2) (n:=1) (vs:=[.int .i64 t,f]) (bb:=⟨nb,0,none⟩) rfl rfl V (Nat.min_eq_left ω).symm rfl χ (rT X) X2 S R χ ?_;intro w2 Q;try walk_nrm
  refine F.dA ?_;iterate 2 (refine F.aJ ?_)
  refine F.tC func59 ?_;have OH:w2.heap[E]? =some (.cells (pP (pP H (off+(i+1)*2) ((flat es).drop (2*i))) (off+i*2) [.int .i64 t,f]) 143 (0,0)):=by rw[<-Q];exact setRow_heap w E _ _ 143 _ V
  refine hc _ _ ⟨⟨Xw,.inr ⟨E,off,D,_,by rw[qL es i t f ω,hq];rfl,χ,hE,OH,?_,λj u P=>?_⟩⟩,?_,λg Z=>?_⟩
  .rw[jL χ,s1];exact VC
  .rw[yf]at P;exact Bh (R:=H) (o:=off) (i:=i) (q:=q) QM ω rfl ω (λj u hj P=>Qb j u P) (.inr ⟨rfl,rfl⟩) j u P
  .have k1:Kp [E] J w:=L▸Kp.setRow J E _;exact k1.pX (Q▸Kp.setRow w E _) ψ ψ
  .rw[bS]at Z;simp[Value.ownBlock]at Z;omega
 have c3:((D:Int)<(q:Int)+1)=True:=θ
 have c:∀w,(Instr.sliceAt 115 (.slice (some ⟨E,off,none⟩) q D) none (some (.int .i64 i)) none).events prog w #[]=#[]:=λw=>(Ki w rfl ω).2;simp only[c3,decide_true];refine F.ct rfl ?_;refine F.cF ?_;iterate 8 (refine F.oq rfl rfl rfl (λ_=>by first|(simp[go_sem];done)|simp[go_sem, *]) λd K x=>?_;go_simp;refine x _ ?_;clear x K d;try walk_nrm)
 refine F.MC rfl rfl δ (.tmp 34) (.tmp 39) rfl (p:=i) (n:=q+1-i) (xs:=(flat es).take (2*i)) rfl rfl C hxt (λj u P=>Qb j u χ) ω ω ω (λB h=>S B false h) ?_;intro c' rs w1 I9 c L;rw[hpn]at I9 ⊢;try walk_nrm
 generalize CH:J.heap.size=M at XV U6 U hN hc ⊢;have V:w1.heap[M]? =some (.cells (((flat es).take (2*i)).toArray++rs) 143 (0,0)):=by subst L;rw[<-CH];exact ny (w:=J) rfl rfl
 have QV:w1.heap[E]? =some (.cells H 143 (0,0)):=by subst L;rw[Below.heap_alloc _ _ _ ω];exact C
 have X:w1.heap[nb]? =some (.cells #[.int .i64 t,f] tb (0,0)):=by subst L;rw[Below.heap_alloc _ _ _ ω];exact Y
 have T8:w1.heap.size=M+1:=by subst L;simp[CH]
 have c:(c'=i)=False:=θ
 have c:(c'=i+1)=False:=θ
 have c:∀w,(Instr.sliceAt 115 (.slice (some ⟨M,0,none⟩) (q+1) c') (some (.int .i64 i)) none none).events prog w #[]=#[]:=λw=>(l6 w rfl ω ω).2;have c:∀w,(Instr.sliceAt 115 (.slice (some ⟨M,0,none⟩) (q+1) c') (some (.int .i64 ((i:Int)+1))) none none).events prog w #[]=#[]:=λw=>(l6 w (L:=i+1) ω ω ω).2;have UN:(i:Int)<=(q:Int)+1:=ω
 have c:(i:Int)+1<=((q+1:Nat):Int):=ω
 refine F.aJ ?_;refine F.dA ?_;iterate 4 (refine F.oq rfl rfl rfl (λ_=>by first|(simp[go_sem];done)|simp[go_sem, *]) λd K x=>?_;go_simp;refine x _ ?_;clear x K d;try walk_nrm)
 refine F.BH rfl rfl δ (.tmp 43) (.tmp 44) rfl (E:=M) (p:=i*2) (n:=1) (vs:=[.int .i64 t,f]) (bb:=⟨nb,0,none⟩) rfl rfl V (Nat.min_eq_left ω).symm rfl χ (rT X) X2 (λB wr h=>U B wr ω) R χ ?_;intro w2 Q;try walk_nrm
 have T9:(pP (((flat es).take (2*i)).toArray++rs) (i*2) [.int .i64 t,f]).size=(((flat es).take (2*i)).toArray++rs).size:=jL χ;have Tb:(((flat es).take (2*i)).toArray++rs).size=2*c':=χ
 have OH:w2.heap[M]? =some (.cells (pP (((flat es).take (2*i)).toArray++rs) (i*2) [.int .i64 t,f]) 143 (0,0)):=by rw[<-Q];exact setRow_heap w1 M _ _ 143 _ V
 have QU:w2.heap[E]? =some (.cells H 143 (0,0)):=by rw[<-Q,setRow_other _ M E _ ω];exact QV
 have c:w2.heap.size=M+1:=by rw[<-Q];simp[T8]
 have Qs:q+1-(i+1)=q-i:=ω
 refine F.es ?_;refine F.yw (γ:=Unit) (n:=9) mixed [[],[],[],[1,2],[0,3],[],[],[5,6],[4,7]] rfl ρ (λb g=>[(46,dB (b 0) (.slice (some ⟨M,0,none⟩) (q+1) c') (undef)),(47,dB (b 1) (.int .i64 i) (undef)),(48,dB (b 2) (.int .i64 1) (undef)),(49,dB (b 3) (.int .i64 ((i:Int)+1)) (undef)),(50,dB (b 4) (.slice (some ⟨M,(i+1)*2,none⟩) (q-i) (c'-(i+1))) (undef)),(51,dB (b 5) (.slice (some ⟨E,off,none⟩) q D) (undef)),(52,dB (b 6) (.int .i64 i) (undef)),(53,dB (b 7) (.slice (some ⟨E,off+i*2,none⟩) (q-i) (D-i)) (undef)),(54,dB (b 8) (.int .i64 ((q-i:Nat):Int)) (undef))]) (λb g w=>(b 8=false->w=w2)/\(b 8=true->(w2.setRow M (pP (pP (((flat es).take (2*i)).toArray++rs) (i*2) [.int .i64 t,f]) ((i+1)*2) ((flat es).drop (2*i)))=w))) (()) (by simp only[pu]) (⟨λ_=>rfl,λh=>by cases h⟩) (all_cons ?_ (all_cons ?_ (all_cons ?_ (all_cons ?_ (all_cons ?_ (all_cons ?_ (all_cons ?_ (all_cons ?_ (all_cons ?_ (all_nil)))))))))) ?_
 .intro b g w z l a r I A o;let⟨m,s⟩:=z;replace a:b 0=false:=a;have gD:=dy (l 4 0 rfl) a;have dG:=dy (l 8 4 rfl) gD;have p:=(m dG).symm;subst p;simp only[gD,dG,a,pu];refine F.aJ ?_;have k:=o g _ ⟨λ_=>rfl,λh=>no dG h⟩;simp only[gD,dG,a,pu,Nat.reduceEqDiff,reduceIte]at k;exact k
 .intro b g w z l a r I A o;let⟨m,s⟩:=z;replace a:b 1=false:=a;have Yl:=dy (l 3 1 rfl) a;have gD:=dy (l 4 3 rfl) Yl;have dG:=dy (l 8 4 rfl) gD;have p:=(m dG).symm;subst p;simp only[Yl,gD,dG,a,pu];refine F.aJ ?_;have k:=o g _ ⟨λ_=>rfl,λh=>no dG h⟩;simp only[Yl,gD,dG,a,pu,Nat.reduceEqDiff,reduceIte]at k;exact k
 .intro b g w z l a r I A o;let⟨m,s⟩:=z;replace a:b 2=false:=a;have Yl:=dy (l 3 2 rfl) a;have gD:=dy (l 4 3 rfl) Yl;have dG:=dy (l 8 4 rfl) gD;have p:=(m dG).symm;subst p;simp only[Yl,gD,dG,a,pu,Nat.reduceAdd];refine F.aJ ?_;have k:=o g _ ⟨λ_=>rfl,λh=>no dG h⟩;simp only[Yl,gD,dG,a,pu,Nat.reduceAdd,Nat.reduceEqDiff,reduceIte]at k;exact k
 .intro b g w z l a r I A o;let⟨m,s⟩:=z;replace a:b 3=false:=a;have d1:=r 1 rfl;have d2:=r 2 rfl;have gD:=dy (l 4 3 rfl) a;have dG:=dy (l 8 4 rfl) gD;have p:=(m dG).symm;subst p;simp only[d1,d2,gD,dG,a,pu,Nat.reduceAdd];refine F.aJ ?_;have k:=o g _ ⟨λ_=>rfl,λh=>no dG h⟩;simp only[d1,d2,gD,dG,a,pu,Nat.reduceAdd,Nat.reduceEqDiff,reduceIte]at k;exact k
 .intro b g w z l a r I A o;let⟨m,s⟩:=z;replace a:b 4=false:=a;have d0:=r 0 rfl;have d3:=r 3 rfl;have dG:=dy (l 8 4 rfl) a;have p:=(m dG).symm;subst p;simp only[d0,d3,dG,a,pu,Nat.reduceAdd];refine F.oq rfl rfl rfl (λ_=>by first|(simp[go_sem];done)|simp[go_sem, *]) λd K x=>?_;go_simp;refine x _ ?_;clear x K d;try walk_nrm
  have k:=o g _ ⟨λ_=>rfl,λh=>no dG h⟩;simp only[d0,d3,dG,a,pu,Nat.reduceAdd,Nat.reduceEqDiff,reduceIte]at k;exact k
 .intro b g w z l a r I A o;let⟨m,s⟩:=z;replace a:b 5=false:=a;have vN:=dy (l 7 5 rfl) a;have dG:=dy (l 8 7 rfl) vN;have p:=(m dG).symm;subst p;simp only[vN,dG,a,pu,Nat.reduceAdd];refine F.aJ ?_;have k:=o g _ ⟨λ_=>rfl,λh=>no dG h⟩;simp only[vN,dG,a,pu,Nat.reduceAdd,Nat.reduceEqDiff,reduceIte]at k;exact k
 .intro b g w z l a r I A o;let⟨m,s⟩:=z;replace a:b 6=false:=a;have vN:=dy (l 7 6 rfl) a;have dG:=dy (l 8 7 rfl) vN;have p:=(m dG).symm;subst p;simp only[vN,dG,a,pu,Nat.reduceAdd];refine F.aJ ?_;have k:=o g _ ⟨λ_=>rfl,λh=>no dG h⟩;simp only[vN,dG,a,pu,Nat.reduceAdd,Nat.reduceEqDiff,reduceIte]at k;exact k
 .intro b g w z l a r I A o;let⟨m,s⟩:=z;replace a:b 7=false:=a;have d5:=r 5 rfl;have d6:=r 6 rfl;have dG:=dy (l 8 7 rfl) a;have p:=(m dG).symm;subst p;simp only[d5,d6,dG,a,pu,Nat.reduceAdd];refine F.oq rfl rfl rfl (λ_=>by first|(simp[go_sem];done)|simp[go_sem, *]) λd K x=>?_;go_simp;refine x _ ?_;clear x K d;try walk_nrm
  have k:=o g _ ⟨λ_=>rfl,λh=>no dG h⟩;simp only[d5,d6,dG,a,pu,Nat.reduceAdd,Nat.reduceEqDiff,reduceIte]at k;exact k
 .intro b g w z l a r I A o;let⟨m,s⟩:=z;replace a:b 8=false:=a;have d4:=r 4 rfl;have d7:=r 7 rfl;have p:=(m a).symm;subst p;simp only[d4,d7,a,pu,Nat.reduceAdd];refine F.BH rfl rfl δ (.tmp 50) (.tmp 53) rfl (E:=M) (p:=(i+1)*2) (n:=q-i) (vs:=(flat es).drop (2*i)) (bb:=⟨E,off+i*2,none⟩) rfl rfl OH (Nat.min_self _).symm Uy ω (oA QU Qj) RO (λB wr h=>U B wr ω) (λB h=>S B false h) χ ?_;intro w3 T;try walk_nrm
  have k:=o g _ ⟨λh=>by simp[tick]at h,λ_=>T⟩;simp only[d4,d7,a,pu,Nat.reduceAdd,Nat.reduceEqDiff,reduceIte]at k;exact k
 intro b g w z n;let⟨m,s⟩:=z;simp only[n 0 δ,n 1 δ,n 2 δ,n 3 δ,n 4 δ,n 5 δ,n 6 δ,n 7 δ,n 8 δ,pu];have T:=s (n 8 δ);refine F.dA ?_;iterate 2 (refine F.aJ ?_)
 refine F.tC func59 ?_;have b:w.heap[M]? =some (.cells (pP (pP (((flat es).take (2*i)).toArray++rs) (i*2) [.int .i64 t,f]) ((i+1)*2) ((flat es).drop (2*i))) 143 (0,0)):=by rw[<-T];exact setRow_heap w2 M _ _ 143 _ OH
 refine hc _ _ ⟨⟨Xw,.inr ⟨M,0,c',_,by rw[qL es i t f ω,hq];rfl,χ,hN,b,?_,λj u P=>?_⟩⟩,?_,λg Z=>?_⟩
 .rw[jL ω,T9,Tb];omega
 .rw[yf]at P;refine Bh (R:=((flat es).take (2*i)).toArray++rs) (R1:=pP (((flat es).take (2*i)).toArray++rs) (i*2) [.int .i64 t,f]) (o:=0) (i:=i) (q:=q) QM ω rfl ω (λj u hj P=>?_) (.inl ⟨ψ,ψ⟩) j u P;grind
 .have k1:Kp [E] J w1:=Kp.alloc L;have b:Kp [E] J w2:=k1.pX (Q▸Kp.setRow w1 M _) θ ψ;exact b.pX (T▸Kp.setRow w2 M _) θ ψ
 .rw[bS]at Z;simp[Value.ownBlock]at Z;omega
structure iM(es:jl)(t:Int)(i:Nat):Prop where
 gt:∀j e,i<=j->es[j]? =some e->t<e.1
 le:∀e,0<i->es[i-1]? =some e->e.1<=t
def IE(f:Func):Code:=match f.body with|some (.seq _ (.seq (.block _ (.loop b)) _))=>b|_=>.skip
def Ml(f:Func):Code:=match f.body with|some (.seq _ (.seq _ r))=>r|_=>.skip
def Qg:∀(es:jl)(j:Nat),j<es.length->(flat es)[2*j]? =some (.int .i64 (es.getD j (0,.nilFunc)).1)
 |e::es,0,_=>rfl
 |e::es,j+1,h=>by
  have a:=Qg es j ξ;rw[show 2*(j+1)=2*j+1+1 by omega];simpa [flat]using a
def P6(w:aj)(h:p<q):(Instr.indexAt 115 (.slice (some ⟨E,off,none⟩) q D) (.int .i64 (p:Int))).events prog w #[]=#[]:=by
 let⟨inf,z,a,_,_,_,b⟩:=lO;have b:(p:Int)<(q:Int):=ω
 simp[Instr.indexAt,run_underlying dZ,asIntOf,sizeOf,typeInfo,a,h]
def EW(F:aB prog W (DX Ok) Ψ)(A:Nat)(t:Int)(fv:ay)(w0:aj){b:eP}(To:q<1000000)(hb:0<q->b=some ⟨E,off,none⟩)(TG:w0.cell? ⟨A,1,none⟩=some (.slice b q D))(b:Ok ⟨A,1,none⟩ false)(ts:Nat->Int)(hx:∀j,j<q->w0.cell? ⟨E,off+j*2,none⟩=some (.int .i64 (ts j))/\Ok ⟨E,off+j*2,none⟩ false)(c:aC)(cs:cO)(hk:∀i:Nat,i<=q->(∀j,i<=j->j<q->t<ts j)->(0<i->¬t<ts (i-1))->∀y3 y4 y5 y7 y8 y9 Y X V U T S R Q P O N M L J I H C B y v u s r o n m l k h g f a:Value,Ψ (G ((base 47).at ⟨List.toArray (.pointer (some ⟨A,0,none⟩)::.int .i64 t::fv::y3::y4::y5::.int .i64 (i:Int)::y7::y8::y9::Y::X::V::U::T::S::R::Q::P::O::N::M::L::J::I::H::C::B::y::v::u::s::r::o::n::m::l::k::h::g::f::a::[]),[]⟩ [.code (Ml f47)]) (c::cs)) w0):
 ∀p:Nat,p<=q->(∀j,p<=j->j<q->t<ts j)->∀y3 y4 y5 y7 y8 y9 Y X V U T S R Q P O N M L J I H C B y v u s r o n m l k h g f a:Value,Ψ (G ((base 47).at ⟨List.toArray (.pointer (some ⟨A,0,none⟩)::.int .i64 t::fv::y3::y4::y5::.int .i64 (p:Int)::y7::y8::y9::Y::X::V::U::T::S::R::Q::P::O::N::M::L::J::I::H::C::B::y::v::u::s::r::o::n::m::l::k::h::g::f::a::[]),[]⟩ [.code (IE f47),.inLoop (IE f47),.inBlock 0,.code (Ml f47)]) (c::cs)) w0:=by
 intro p;induction p with
 |zero=>
  intro hp Z y3 y4 y5 y7 y8 y9 Y X V U T S R Q P O N M L J I H C B y v u s r o n m l k h g f a;simp only[IE,f47];refine F.sq ?_;refine F.cF ?_;iterate 3 (refine F.aJ ?_)
  refine F.dK ?_;refine F.dK ?_;refine F.dK ?_;refine F.dK ?_;refine F.dK ?_;refine F.dK ?_;refine F.dK ?_;refine F.dK ?_;refine F.dK ?_;refine F.dK ?_;refine F.dK ?_;refine F.aJ ?_;refine F.re ?_;refine F.cf rfl ?_;refine F.ctl (λ_=>stepG_exit rfl) ?_;exact hk 0 hp Z (λz=>absurd z δ) _ _ _ _ _ _ _ _ _ _ _ _ _ _ _ _ _ _ _ _ _ _ _ _ _ _ _ _ _ _ _ _ _ _ _ _ _ _
 |succ p ih=>
  intro hp Z y3 y4 y5 y7 y8 y9 Y X V U T S R Q P O N M L J I H C B y v u s r o n m l k h g f a;let⟨Nc,a⟩:=hx p hp;obtain rfl:=hb ω;generalize ZZ:ts p=x at Nc;have wp:IntKind.i64.wrap (p:Int)=(p:Int):=nS ω ω;have pp:((0:Int)<(p:Int)+1)=True:=propext ⟨λ_=>trivial,λ_=>ω⟩;have a:(p:Int)<(q:Int):=ω
  have a:p<q:=hp;rw[show(((p+1:Nat):Int))=(p:Int)+1 from by omega];have b:(p:Int)+1-1=(p:Int):=ω
  simp only[IE,f47];refine F.sq ?_;refine F.cF ?_;iterate 6 (refine F.aJ ?_)
  refine F.ez ?_;iterate 2 (refine F.aJ ?_)
  have b:∀w,(Instr.indexAt 115 (.slice (some ⟨E,off,none⟩) q D) (.int .i64 (p:Int))).events prog w #[]=#[]:=λw=>P6 w a;refine F.AZ rfl rfl δ (λd=>by simp[go_sem,b]) (λd K a=>?_);go_simp;refine a _ ?_;clear a K d;try walk_nrm
  refine F.aJ ?_;refine F.ez ?_;iterate 3 (refine F.aJ ?_)
  refine F.re ?_;by_cases ht:t<x
  .simp only[ht,decide_true];refine F.ct rfl ?_;refine F.sk ?_;refine F.bl ?_;refine F.zA ?_;iterate 3 (refine F.aJ ?_)
   refine F.re ?_;refine F.ib ?_;refine F.ctl (λ_=>stepG_inLoop) ?_;exact ih (Nat.le_of_succ_le hp) (λj a h2=>by rcases Lz a with e|e;subst e;rw[ZZ];exact ht;exact Z j e h2) _ _ _ _ _ _ _ _ _ _ _ _ _ _ _ _ _ _ _ _ _ _ _ _ _ _ _ _ _ _ _ _ _ _ _ _ _ _
  .simp only[ht,decide_false];refine F.cf rfl ?_;refine F.ctl (λ_=>stepG_exit rfl) ?_;exact hk (p+1) hp Z (λ_=>ξ) _ _ _ _ _ _ _ _ _ _ _ _ _ _ _ _ _ _ _ _ _ _ _ _ _ _ _ _ _ _ _ _ _ _ _ _ _ _
def EX(N A:Nat)(t:Int)(fn:Fn)(fst k:gd)(u:ay)(es:jl)(m:aj)(hN:N<=m.heap.size)(lA:A<N)(Q:es.length<1000000)(L:fZ N m u es)(l:m.cell? ⟨A,1,none⟩=some u)(B:m.frozen? ⟨A,1,none⟩=false)(okr:Ok ⟨A,1,none⟩ false)(okw:Ok ⟨A,1,none⟩ true)(G:∀(a:Addr)(wr:Bool),a.block∈cw u\/m.heap.size<=a.block->Ok a wr):
 fG prog W (DX Ok) 47 #[.pointer (some ⟨A,0,none⟩),.int .i64 t,.func fn fst k] m λr w'=>r=.tuple #[]/\Kp (cw u) m w' [⟨A,1,none⟩]/\∃r i,i<=es.length/\iM es t i/\w'.cell? ⟨A,1,none⟩=some r/\w'.frozen? ⟨A,1,none⟩=false/\fZ N w' r (es.take i++(t,.func fn fst k)::es.drop i)/\∀g∈cw r,g∈cw u\/m.heap.size<=g:=by
 have T:A∉cw u:=λz=>by have:=(L.lt (bS.1 z)).1;omega
 have okF:∀(C:Addr)(wr:Bool),m.heap.size<=C.block->Ok C wr:=λC wr h=>G C wr (.inr h);obtain⟨b,E,off,D,V,hb,M⟩:∃b E off D,u=.slice b es.length D/\(0<es.length->b=some ⟨E,off,none⟩)/\∀j,j<es.length->m.cell? ⟨E,off+j*2,none⟩=some (.int .i64 (es.getD j (0,.nilFunc)).1)/\Ok ⟨E,off+j*2,none⟩ false:=by
  rcases L.2 with ⟨rfl,rfl⟩|⟨E,off,D,H,rfl,r,r,p,r,Qb⟩
  .simp
  .exact⟨_,E,off,D,rfl,λ_=>rfl,λj r=>⟨by rw[oz p,show off+j*2=off+2*j by omega];exact Qb _ _ (Qg es j r),G _ _ (.inl (by simp[cw,Value.ownBlock]))⟩⟩
 have p:∀g∈cw u,g<m.heap.size:=λg J=>by let⟨_,H,h⟩:=L.lt (bS.1 J);grind
 intro Ψ F c cs hc;have p:m.cell? ⟨A,1,none⟩=some (.slice b es.length D):=V▸l;clear l;simp only[enter_at _ func47 rfl,ntmps47];walk_nrm;refine F.cF ?_;iterate 3 (refine F.aJ ?_)
 refine F.ez ?_;iterate 2 (refine F.aJ ?_)
 refine F.es ?_;refine F.bl ?_;refine F.ctl (λ_=>stepG_loop) ?_;refine EW F A t (.func fn fst k) m (q:=es.length) Q hb p okr (λj=>(es.getD j (0,.nilFunc)).1) M c cs ?_ es.length (az _) (λj E r=>ω) _ _ _ _ _ _ _ _ _ _ _ _ _ _ _ _ _ _ _ _ _ _ _ _ _ _ _ _ _ _ _ _ _ _ _ _ _ _;clear M;intro i hi c b M M M M M M M M M M M M M M M M M M M M M M M M M M M M M M M M M M M M M M;have UT:iM es t i:=⟨λj e E r=>χ,λe E r=>ξ⟩;clear c b;simp only[Ml,f47];have l:=p;clear p;refine F.zA ?_;iterate 4 (refine F.aJ ?_)
 refine F.ez ?_;iterate 4 (refine F.aJ ?_)
 refine F.GV ?_;generalize f:World.alloc m _=Z;generalize n:(World.heap m).size=n1;have b:=gH f n;replace B:=dP B l f;replace l:=bN l f;have S:=aY (i:=0) f n rfl;have Y:=cy f n 0;have R:=aY (i:=1) f n rfl;have X:=cy f n 1;try simp only[sS,sW,sV]at S R
 have I:Kp (cw u) m m [⟨A,1,none⟩]:=Kp.refl _;replace I:=I.yT f;have c:fZ N Z u es:=(Kp.alloc (L:=[]) f).bA L (λg J=>⟨ψ,ψ⟩);have b:Z.heap[n1]? =some (.cells #[.int .i64 t,.func fn fst k] 143 (0,0)):=by rw[<-n];exact ny f rfl
 refine F.uO func59 ?_;refine CE N n1 i t (.func fn fst k) 143 Z es Q hi ω (V▸c) b rfl (λz=>χ) (λC wr h=>G C wr (V▸h.imp id λh=>ω)) (λC h=>okF C false ω) _ F _ _ (λv w' b=>?_);let⟨ho,U,P⟩:=b;rw[<-V]at U P;generalize Y7:es.take i++(t,.func fn fst k)::es.drop i=b at ho hc;rw[bQ];try walk_nrm
 have q:=U.cell _ _ T l;have o:=(U.V7 _ _ T l).trans B;replace I:=I.RY U (λx b=>.inl b);let⟨_,_,Uz,b⟩:=id ho.form;have Tp:A∉cw v:=λz=>χ
 have O:∀g∈cw v,g∈cw u\/m.heap.size<=g:=λg J=>(P g J).imp id λy=>ω
 subst Uz;have iL:∀(w:aj)(d:Nat),(w.at d).heap.size=w.heap.size:=λ_ _=>rfl;have size_set:∀(w:aj)(a:Addr)(v:ay),(w.setCell a v).heap.size=w.heap.size:=λw a v=>ψ
 clear l B S R Y X;iterate 2 (refine F.aJ ?_)
 refine F.op rfl rfl δ (λd K hK=>?_);go_simp;rw[setCell_at'];refine hK _ _ ⟨DX.set _ (by(first|assumption|(apply Hh<;>dsimp only<;>omega))) (λe L=>?_),?_⟩
 .have hm:=mem_listed L;simp[go_sem,storedEv,fD, *]at hm;subst hm;exact .inl ⟨_,rfl,rfl,by(first|assumption|(apply Hh<;>dsimp only<;>omega)),by simp only[iL,size_set];first|omega|exact au (by assumption)⟩
 clear hK K d;try walk_nrm
 generalize s:World.setCell w' _ _=a;have a:=lu s;replace o:=eF o s;replace q:=kP q s;replace I:=I.EH s ψ;refine F.Du func47 ?_;refine hc _ _ ⟨rfl,I,_,i,hi,UT,q,o,?_,O⟩;rw[Y7];exact(Kp.H8 s).bA ho (λg J=>⟨ψ,by simp;exact λz=>Tp (z▸J)⟩)
def LS.Yj(L:LS)(t j:Nat)(n:Int):LS:={L with tk:=upd L.tk t {L.tk t with a:=upd (L.tk t).a j n}}
abbrev oR(b o:Nat)(vs:iO)(wr:Bool):aH:=⟨λj=>⟨b,o+j.2,none⟩,vs,λ_ _=>undef,1,vs.length,wr,none⟩
structure mW where
 E:Nat
 n:Nat
 c:Nat
 f:Nat->Value
abbrev eR(b:mW):aH:=⟨λj=>⟨b.E,j.2,none⟩,[],λ_ j=>b.f j,b.c,b.n,true,match b.c with|0=>none|_+1=>some (b.E,143,b.n)⟩
def Has(C:aW)(r:aH):Prop:=r.wr=false/\∃i,nth C i=some r
def Has.cons{x:aH}(h:Has C r):Has (x::C) r:=by
 let⟨b,i,a⟩:=h;exact⟨b,i+1,a⟩
def Has.app{C:aW}{r:aH}(h:Has C r):∀A:List aH,Has (A++C) r
 |[]=>h
 |_::A=>(h.app A).cons
def Has.pre(h:Has C r)(A:aW):Has (C++A) r:=by
 let⟨b,i,a⟩:=h;exact⟨b,i,by rw[j4,sJ (qH _ _ _ a)];exact a⟩
def Sat.get(h:Sat Ok w M)(a:Has M r):Sat Ok w (r::M):=by
 let⟨c,i,b⟩:=a;exact h.dup b c
def St.get{Ok:dh}{B N c:Nat}{E:Env}{M:aW}{r:aH}{a:Act}{w:aj}(S:St Ok B N E M c a w)(h:Has M r):St Ok B N E (r::M) c a w:=⟨S.env,S.sat.get h,S.sz⟩
def s9(x:Lm):List Value:=[i6 x.k,i6 x.n,i6 x.t]
structure PK where
 A:Nat
 J:Nat
 HD:Nat
 O:Nat
 V:Ev0
 lb:Nat->Nat
 ca:Addr
 cc:Nat
 dL:Nat->Option Addr
 eu:Nat->Nat
 bM:Nat
 bJ:Nat
structure Fb where
 s:Bool
 g:Nat
 o:Nat
 c:Nat
 v:Nat->List Value
structure PS where
 k:PK
 en:Value
 eb:mW
 ea:Option Addr
 ec:Nat
 vv:Nat->List Value
 oh:Nat->Value
 q:List Nat
 wb:Nat->Nat
 f:Nat->Fb
 lq:Nat->List Nat
 cv:Nat->Value
 cx:List aH
 T:Nat->Nat
 aS:Nat->Nat
 wk:Nat->Value
 bf:Nat->Fb
 bl:Nat->List Nat
 cm:Nat->Option (Nat×List Value)
 l:LS
def pM(s:PS):List aH:=[bR s.k.A [i6 s.l.now,s.en],eR s.eb,bR s.k.J [.slice s.ea s.l.el s.ec],vR s.ea 5 (λj=>yt (s.l.ev j)) s.l.el s.ec 73,sR s.ea 5 s.vv s.l.el s.ec,
 fR ⟨s.k.HD,0,none⟩ 1 (λj=>[i6 (s.l.us j)]) s.k.V.nc true,fR ⟨s.k.O,0,none⟩ 4 (λj=>yL (s.l.ou j,s.oh j)) s.k.V.nc true]
abbrev tQ(b:Nat)(wi:ay)(num:Int)(J:Nat):aH:=oR b 0 [wi,i6 num,ptr J] false
abbrev wF(T A:Nat)(i:Nat)(c:Int)(aS:Nat):aH:=oR T 0 [ptr A,i6 i,i6 c,.chan (some aS)] false
abbrev dO(T:Nat)(v b:ay)(x e:Bool):aH:=oR T 4 [v,b,.bool x,.bool e] true
def su(f:Fb)(n:Nat):Value:=if f.s=true then .slice (some ⟨f.g,f.o,none⟩) n f.c else .slice none 0 0
def rK(f:Fb):Nat:=if f.s=true then max f.c 1 else 0
def gR(y:ju)(lb:Nat)(g:Gt)(f:Fb)(q:aN):List aH:=if y.k=3 then[oR lb 5 [i6 g.nx] true]else if y.k=4 then[oR lb 8 [i6 g.st,i6 g.si,i6 g.pd,i6 g.pr,su f g.la.length] true,fR ⟨f.g,0,none⟩ 1 f.v (f.o+f.c) true]else if y.k=5 then[oR lb 5 [i6 g.tn,su f q.length] true,fR ⟨f.g,f.o,none⟩ 1 f.v (rK f) true]else[]
def nJ(x:tU):Int:=if x.x=true then x.z else if x.e=true then 1 else 0
def lf(s:PS)(i:Nat):List aH:=match s.cm i with
 |none=>[]
 |some (b,vs)=>[oR b 0 vs true]
def wR(s:PS)(i:Nat):List aH:=oR (s.wb i) 1 [i6 (nJ (s.l.wt i))] true::oR (s.wb i) 0 [ptr (s.T (s.l.wt i).t.toNat)] false::lf s i
def wS(s:PS):List aH:=(List.range s.l.wl).flatMap (wR s)
def gA(s:PS):List aH:=(List.range s.k.V.nl).flatMap λj=>gR (s.k.V.ly j) (s.k.lb j) (s.l.gt j) (s.f j) (s.lq j)
def j9(wb:bU)(o:Int):Value:=if o<0 then .pointer none else ptr (wb o.toNat)
def j7(s:PS)(j:Nat):List aH:=[dO (s.T j) (j9 s.wb (s.l.tk j).o) (su (s.bf j) (s.bl j).length) (s.l.tk j).x (s.l.tk j).e,fR ⟨(s.bf j).g,(s.bf j).o,none⟩ 1 (s.bf j).v (rK (s.bf j)) true,wF (s.T j) s.k.A j (s.l.tk j).c (s.aS j)]
def tS(s:PS):List aH:=(List.range s.l.tl).flatMap (j7 s)
def xS(s:PS):List aH:=oR s.k.A 2 [i6 s.l.tl] true::(tS s++s.cx)
def gS(s:PS):List aH:=gA s++(wS s++xS s)
def gX(s:PS)(k:Nat):List aH:=((List.range s.k.V.nl).flatMap λj=>if j=k then[]else gR (s.k.V.ly j) (s.k.lb j) (s.l.gt j) (s.f j) (s.lq j))++(wS s++xS s)
def wX(s:PS)(i:Nat):List aH:=gA s++(((List.range s.l.wl).flatMap λj=>if j=i then[]else wR s j)++xS s)
def tX(s:PS)(i:Nat):List aH:=gA s++(wS s++(oR s.k.A 2 [i6 s.l.tl] true::(((List.range s.l.tl).flatMap λj=>if j=i then[]else j7 s j)++s.cx)))
def nI(f g:Nat->List aH)(i:Nat)(b:g i=[])(c:∀j,j≠i->g j=f j):∀n,((List.range n).flatMap f).Perm ((if i<n then f i else[])++(List.range n).flatMap g)
 |0=>ψ
 |n+1=>by
  have a:=nI f g i b c n;rw[rj,yZ,yZ];simp only[DN,List.flatMap_nil,List.append_nil];by_cases e:n=i
  .subst e;rw[af (Ap _),List.nil_append]at a;rw[sJ (gr _),b,List.append_nil];exact(a.append_right _).trans D2
  .rw[c n e];have:(i<n)=(i<n+1):=χ
   simp only[this]at a;rw[<-dU];exact a.append_right _
def Yo(s:PS){k:Nat}(a:k<s.k.V.nl):(gS s).Perm (gR (s.k.V.ly k) (s.k.lb k) (s.l.gt k) (s.f k) (s.lq k)++gX s k):=by
 have:=nI (λj=>gR (s.k.V.ly j) (s.k.lb j) (s.l.gt j) (s.f j) (s.lq j)) (λj=>if j=k then[]else gR (s.k.V.ly j) (s.k.lb j) (s.l.gt j) (s.f j) (s.lq j)) k (sJ rfl) (λj b=>af b) s.k.V.nl;rw[sJ a]at this;have h:=this.append_right (wS s++xS s);rw[dU]at h;exact h
def og(s:PS)(b:i<s.l.wl):(gS s).Perm (wR s i++wX s i):=by
 have:=nI (wR s) (λj=>if j=i then[]else wR s j) i (sJ rfl) (λj a=>af a) s.l.wl;rw[sJ b]at this;have h:=(this.append_right (xS s)).append_left (gA s);rw[dU]at h;exact h.trans (fA ..)
def jw(s:PS)(b:i<s.l.tl):(gS s).Perm (j7 s i++tX s i):=by
 have:=nI (j7 s) (λj=>if j=i then[]else j7 s j) i (sJ rfl) (λj a=>af a) s.l.tl;rw[sJ b]at this;have h:=this.append_right s.cx;unfold gS xS tX;refine((h.cons _).append_left (wS s)).append_left (gA s)|>.trans ?_;have c:=fA (j7 s i) (gA s++(wS s++[oR s.k.A 2 [i6 s.l.tl] true])) (((List.range s.l.tl).flatMap λj=>if j=i then[]else j7 s j)++s.cx);simpa using c.symm
def WY(s s':PS):Prop:=(s'.l.wl=s.l.wl/\∀i,i<s.l.wl->wR s' i=wR s i)/\s'.l.tl=s.l.tl/\∀i,i<s.l.tl->j7 s' i=j7 s i
def O5{s a:PS}(h:WY s a):wS a=wS s:=by
 unfold wS;rw[h.1.1,List.flatMap_def,List.flatMap_def];congr 1;exact u7 λi a=>h.1.2 i (aZ.1 a)
def T6{s a:PS}(c:a.k=s.k)(h:WY s a)(b:a.cx=s.cx):xS a=xS s:=by
 unfold xS tS;rw[c,b,h.2.1,List.flatMap_def,List.flatMap_def];congr 3;exact u7 λi a=>h.2.2 i (aZ.1 a)
def K3{s a:PS}{k:Nat}(c:a.k=s.k)(b:∀j,j≠k->a.l.gt j=s.l.gt j)(b:∀j,j≠k->a.f j=s.f j/\a.lq j=s.lq j)(b:WY s a)(d:a.cx=s.cx):gX a k=gX s k:=by
 unfold gX;rw[O5 b,T6 c b d,c];simp_all
def Gf(y:ju)(lb:Nat)(g:Gt)(f:Fb)(q:aN):∀r∈gR y lb g f q,r.row=none:=λr a=>by
 unfold gR at a;grind
def EG(s:PS)(i:Nat):∀r∈lf s i,r.row=none:=λr a=>by
 unfold lf at a;grind
def r9(s:PS)(b:∀r∈s.cx,r.row=none):∀r∈gS s,r.row=none:=λr a=>by
 rcases dJ.1 a with a|a
 .let⟨j,_,h⟩:=mL.1 a;exact Gf _ _ _ _ _ r h
 .rcases dJ.1 a with a|a
  .let⟨j,_,h⟩:=mL.1 a;simp only[wR,ak]at h;rcases h with rfl|rfl|h
   .rfl
   .rfl
   .exact EG s j r h
  .rcases ak.1 a with rfl|a
   .rfl
   .rcases dJ.1 a with a|a
    .let⟨j,_,h⟩:=mL.1 a;simp[j7]at h;grind
    simp_all
structure qv(Ok:dh)(la:iy)(f:Fb):Prop where
 nil:f.s=false->la=[]/\f.o=0/\f.c=0
 len:f.s=true->0<la.length/\la.length<=f.c
 ok:f.s=true->∀(ad:Addr)(wr:Bool),ad.block=f.g->Ok ad wr
 val:∀j,j<la.length->(f.v (f.o+j)).getD 0 undef=.bool (la.getD j false)
structure G3(Ok:dh)(wb:bU)(q:aN)(f:Fb):Prop where
 nil:f.s=false->q=[]/\f.o=0/\f.c=0
 len:f.s=true->q.length<=f.c
 ok:f.s=true->∀(ad:Addr)(wr:Bool),ad.block=f.g->Ok ad wr
 val:∀j,j<q.length->(f.v j).getD 0 undef=ptr (wb (q.getD j 0))
def G3.wb{a Xp:bU}{q:aN}{f:Fb}(h:G3 Ok a q f)(b:∀w∈q,Xp w=a w):G3 Ok Xp q f:=⟨h.nil,h.len,h.ok,λj a=>by rw[h.val j a,b _ ξ]⟩
abbrev PS.dI(s:PS)(g' cap':Nat)(vs':eX)(L:LS):PS:={s with ea:=some ⟨g',0,none⟩,ec:=cap',vv:=vs',l:=L}
def Er(F:aB prog W (DX Ok) Ψ)(o:HB B Ok){p:aC}{s:PS}{T aS:Nat}{wi:ay}{num:Int}{q n:Int}(l:Sat Ok w (pM s++C))(y:Has C (tQ lb wi num s.k.J))(x:Has C (wF T s.k.A t (s.l.tk t).c aS))(u:Vc Ok s.ea s.l.el s.ec)(m:B<=w.heap.size)(m:s.l.el<1000000)(K:∀f b c w',Sat Ok w' (pM (s.dI f b c (s.l.say t num q n))++C)->Vc Ok (some ⟨f,0,none⟩) (s.l.el+1) b->w.heap.size<=w'.heap.size->Ψ (G (p.finish (.tuple #[])) cs) w'):
 Ψ (G (Frame.enter prog 148 #[ptr lb,ptr T,i6 q,i6 n] .normal) (p::cs)) w:=by
 replace l:=(l.get (y.app (pM s))).get ((x.app (pM s)).cons);refine cJ func148 l 34 λm m p m d k j E m=>TM [tQ lb wi num s.k.J] [(3,[(0,(0,2),true)])] F aK (λa wr z=>o a wr ω) d 23 (Hq [1,0,2,1,1,0,2,1,4,0,0,1,0,0,0,1,2,0,0,1,0,0,2,1,1,0,1,1]) [] [(11,ptr s.k.J)] (bR p (yt ⟨s.l.now,(s.l.tk t).c,num,q,n⟩)::·) 1 [] [] [] 18 30 31 28 73 5 40 6 7 0 ρ ρ ρ ρ ρ ρ (λi r h=>by match i,h with|0,h=>cases h;exact⟨rfl,2,δ,δ,rfl⟩) rfl rfl δ ρ eU eU eU E rfl rfl δ rfl u (λ_ _=>rfl) rfl (A4 _) ω (by simp only[maxLen];omega) ω λf b a c i g a A a a e=>?_;have h:=A.size;have D:St Ok g.heap.size 34 _ _ 0 i g:=⟨a,A.sat,rfl⟩;rw[j]at e;generalize v:g.heap.size=a at*;refine aq (λM=>bh 5 (0,0) (.slice (some ⟨f,0,none⟩) (s.l.el+1) b) (M)) 0 F o d e D 4 [5,0,0,1] 1 [] [] 5 1 [24] λa h g a i i i=>cC F g d k a [] (.tuple #[]) ?_;exact K f b c h (g.sat.tail.tail.tail.re 3 rfl rfl _ A.upd) A.vc ω
abbrev O3(Ok:dh)(Ψ:gi)(B:Nat)(M:aW)(f:Nat)(args:gd)(v:ay):Prop:=∀(cf:aC)(cs:cO)(w':aj)(M':aW),(∀r,Has M r->Has M' r)->Sat Ok w' M'->B<=w'.heap.size->(∀w2,Sat Ok w2 M'->w'.heap.size<=w2.heap.size->Ψ (G (cf.finish v) cs) w2)->Ψ (G (Frame.enter Tryz.prog f args .normal) (cf::cs)) w'
def t152:Qc prog 168 4 1 1=true:=ρ
def t156:Qc prog 172 129 1 8=true:=ρ
def EJ(r:Qc prog t e q bt=true)(s:bt<=48)(w:aj)(Y:TypeId)(y:olds.length=U*q)(holds:∀a,ON=some a->∀j u,olds[j]? =some u->w.cell? (a.add j)=some u)(y:ON=none->U=0){a:Addr}(y:news.length=m*q)(d:∀j u,news[j]? =some u->w.cell? (a.add j)=some u)(E:∀u∈news,u.oneCell'=true)(D:sc<U+m)(C:(U+m)*48<=140737488355328):
 ∃n j,(Builtin.append_ #[t,t] Y #[.slice ON U sc,.slice (some a) m c]).run prog w=.ok (.slice (some ⟨w.heap.size,0,none⟩) (U+m) n) (w.drew.alloc (.cells ((olds++news).toArray++j) e))/\U+m<=n/\j.size=(n-(U+m))*q/\
  ∀ev∈(Builtin.append_ #[t,t] Y #[.slice ON U sc,.slice (some a) m c]).events prog w #[],(∃o,ev.loc=.cell o/\ev.write=false/\(o.block=a.block\/∃b,ON=some b/\o.block=b.block))\/ev=noRoomEvent:=by
 let⟨inf,z,p,x,v,_,B,A,j⟩:=kv r;have f:olds.length=U*inf.size:=ξ
 have i:news.length=m*inf.size:=ξ
 have k:(Builtin.firstCells inf.size U (.slice ON U sc)).run prog w.drew=.ok olds.toArray w.drew:=by
  cases ON with
  |none=>
   have e:olds=[]:=WC ξ;rw[e];rfl
  |some b=>exact run_firstCells_some (P:=prog) w.drew inf.size U b U sc olds f ξ
 have j:=run_firstCells_some (P:=prog) w.drew inf.size m a m c news i ξ;have f:=growslice_fits (need:=U+m) (old:=sc) (bytes:=inf.bytes) ω (by rw[B];exact aT (Nat.mul_le_mul (az _) s) C);have q:=run_append_grow_src (P:=prog) w t t Y e inf z p x v ON U sc olds k (.slice (some a) m c) m news (Src.ofSlice w p a m c news i d E) D ω f;refine⟨_,_,q,grownCap_ge w (U+m) sc e,by rw[size_zeroCells,A],λev l=>?_⟩;have f:¬(U+m<=sc):=ω
 have c:¬(9223372036854775807<((U:Int)+(m:Int))):=ω
 have d:¬(281474976710656<Builtin.nextslicecap (U+m) sc*inf.bytes):=ω
 simp[Builtin.append_,run_underlying p,sizeOf,typeInfo,zeroValue,x,v,Builtin.lenOf,f,c,d,Question.forced,k,j,newRow]at l;rcases events_firstCells_in (P:=prog) (λg=>g=a.block\/∃b,ON=some b/\g=b.block) inf.size m _ w.drew _ (λj c n e=>by
  simp_all) ev l with h|⟨o,i,f,d⟩
 .rcases events_firstCells_in (P:=prog) (λg=>g=a.block\/∃b,ON=some b/\g=b.block) inf.size U _ w.drew _ (λj c n e=>by
   simp_all) ev h with h|⟨o,i,f,d⟩
  .exact .inr (qC _ _ ev h)
  simp_all
 simp_all
def aB.Om(D:Qc prog t e q bt=true)(N:bt<=48)(F:aB prog W (DX Ok) Ψ)(V:Q[i]? =some o)(S:Region.wanted o (yielded Q a.tmps)=true)(H:b.kind≠.early)(s x:Operand)(y:o.op=.call {callee:=.builtin .append,args:=#[s,x],argTypes:=#[t,t]}){p:Addr}(P:a.eval s=.slice ON U sc)(O:a.eval x=.slice (some p) m c)(E:olds.length=U*q)(holds:∀a,ON=some a->∀j u,olds[j]? =some u->w.cell? (a.add j)=some u)(A:ON=none->U=0)(X:news.length=m*q)(f:∀j u,news[j]? =some u->w.cell? (p.add j)=some u)(h1:∀u∈news,u.oneCell'=true)(Y:sc<U+m)(u:(U+m)*48<=140737488355328)(r:∀l,ON=some l->l.block<w.heap.size/\∀a:Addr,a.block=l.block->Ok a false)(v:p.block<w.heap.size/\∀a:Addr,a.block=p.block->Ok a false)(h:∀C n j,U+m<=C->n.size=(C-(U+m))*q->w.alloc (.cells ((olds++news).toArray++n) e)=j->Ψ (G (b.at (a.put o.dst (.slice (some ⟨w.heap.size,0,none⟩) (U+m) C)) (.inRegion Q I::k)) cs) j):
 Ψ (G (b.at a (.inRegion Q (i::I)::k)) cs) w:=by
 refine F.OA V S H λd K b=>?_;let⟨C,n,a,Z,M,L⟩:=EJ D N (w.at d) o.type (ON:=ON) (sc:=sc) (a:=p) (c:=c) E holds A X f h1 Y u;have B:(w.at d).grownBy ((w.at d).drew.alloc (.cells ((olds++news).toArray++n) e)) none:=⟨rfl,rfl,rfl,ψ,λk H _=>Below.heap_alloc (w.at d).drew _ k H⟩;refine uponK_append s x t y P O a (b _ _ ⟨WG (g:=none) (λev T=>?_) B (λg J=>by cases J) (λp wr z=>by cases z),?_⟩)
 .have R:=mem_listed T;rw[events_append_op s x t y P O]at R;rcases L ev R with ⟨b,c,f,a⟩|c
  .refine .inl ⟨b,c,rfl,?_,?_⟩
   .rw[f];rcases a with a|⟨l,a,b⟩
    .exact v.2 _ a
    .exact(r l a).2 _ b
   .refine ga ?_ B.size;rcases a with a|⟨l,a,b⟩
    .rw[a];exact v.1
    .rw[b];exact(r l a).1
  .exact .inr c
 .exact F.at' _ (w.alloc (.cells ((olds++news).toArray++n) e)) (d+1) (h C n _ Z M rfl)
def EK(a:Qc prog t e q bt=true)(w:aj)(Y:TypeId)(e:ON=none->U=0){x:eP}(b:U<=sc):(Builtin.append_ #[t,t] Y #[.slice ON U sc,.slice x 0 c]).run prog w=.ok (.slice ON U sc) w/\(Builtin.append_ #[t,t] Y #[.slice ON U sc,.slice x 0 c]).events prog w #[]=#[]:=by
 let⟨inf,z,f,d,_,_,_,_,c⟩:=kv a;cases x<;>cases ON<;>simp[Builtin.append_,run_underlying f,sizeOf,typeInfo,d,Builtin.lenOf,b,Builtin.firstCells,loadCells,loadCellsFrom,storeCells]
def aB.app0(j:Qc prog t e q bt=true)(F:aB prog W (DX Ok) Ψ)(y:Q[i]? =some o)(q:Region.wanted o (yielded Q a.tmps)=true)(B:b.kind≠.early)(s x:Operand)(f:o.op=.call {callee:=.builtin .append,args:=#[s,x],argTypes:=#[t,t]}){n:eP}(r:a.eval s=.slice ON U sc)(p:a.eval x=.slice n 0 c)(A:ON=none->U=0)(e:U<=sc)(h:Ψ (G (b.at (a.put o.dst (.slice ON U sc)) (.inRegion Q I::k)) cs) w):
 Ψ (G (b.at a (.inRegion Q (i::I)::k)) cs) w:=by
 refine F.OA y q B λd K b=>?_;let⟨a,m⟩:=EK j (w.at d) o.type (x:=n) (c:=c) A e;refine uponK_append s x t f r p a (b _ _ ⟨WG (g:=none) (λev v=>?_) ⟨rfl,rfl,rfl,az _,λ_ _ _=>rfl⟩ (λg l=>by cases l) (λa wr z=>by cases z),F.at' _ _ _ h⟩);have u:=mem_listed v;rw[events_append_op s x t f r p,m]at u;simp at u
def Lit(M:aW)(ON:eP)(L0:List iN):Prop:=(ON=none/\L0=[])\/∃nb y p,ON=some ⟨nb,0,none⟩/\L0=[y]/\nth M p=some (bR nb (qg y))
def Mb(o:Oper)(x d Y:Nat):Bool:=o.guard.isNone&&(match o.dst with|some d'=>d'==d|none=>false)&&(match o.op with
 |.slice t (.tmp x') (some (.const (.int .i64 l))) none none=>t==Y&&x'==x&&l==1
 |_=>false)
def HZ{x d:Nat}(h:Mb o x d Y=true):o.guard=none/\o.dst=some d/\o.op=.slice Y (.tmp x) (some (.const (.int .i64 1))) none none:=by
 unfold Mb at h;simp only[bZ]at h;let⟨⟨_,_⟩,a⟩:=h;have a:o.guard=none:=by
  simp_all
 grind
def vu(a:Qc prog Y e n bt=true)(w:aj){ca:Addr}(b:q+1<=D):(Instr.sliceAt Y (.slice (some ca) (q+1) D) (some (.int .i64 1)) none none).run prog w=.ok (.slice (some (if D=1 then ca else ca.add n)) q (D-1)) w/\
 (Instr.sliceAt Y (.slice (some ca) (q+1) D) (some (.int .i64 1)) none none).events prog w #[]=#[]:=by
 let⟨inf,z,c,b,_,d,_,_,e⟩:=kv a;have a:(1:Int)<=(q:Int)+1:=ω
 constructor
 .simp[Instr.sliceAt,run_underlying c,Instr.slice,Instr.sliceBounds,Instr.sliceBound,asIntOf,sizeOf,typeInfo,b,d,a];grind
 .simp[Instr.sliceAt,run_underlying c,Instr.slice,Instr.sliceBounds,Instr.sliceBound,asIntOf,sizeOf,typeInfo,b,a]
def Ub(f:Qc prog Y e n bt=true)(F:aB prog W (DX Ok) Ψ)(o:b.kind≠.early){l:Nat}{E:Env}{t:eC}(x d:Nat){ca:Addr}(m:kI t=true)(e:Mb (aQ t) x d Y=true)(p:d<N)(k:look E x=some (.slice (some ca) (q+1) D))(h:q+1<=D)(S:St Ok l N E M c a w)(K:∀j,aR ((d,.slice (some (if D=1 then ca else ca.add n)) q (D-1))::E) N j->j.defers=a.defers->Ψ (G (b.at j (jB t)) cs) w):Ψ (G (b.at a t) cs) w:=by
 let⟨Q,i,r,b,l,d,n⟩:=dH m;let⟨r,m,i⟩:=HZ e;have b:a.eval (.tmp x)=.slice (some ca) (q+1) D:=by rw[S.env.eval (by simp[kn,k])];simp[ev,k]
 have c:a.eval (.const (.int .i64 1))=.int .i64 1:=rfl;rw[l];refine F.AZ d (by simp[Region.wanted,r]) o (λg=>?_) λg a a=>?_
 .unfold execOp;simp only[i,fI,YU,b,c,YV,(vu f (w.at g) (ca:=ca) h).1,(vu f (w.at g) (ca:=ca) h).2,xg];rfl
 .unfold execOp;simp only[i,fI,YU,b,c,Am,(vu f (w.at g) (ca:=ca) h).1,Hv];refine a _ ?_;rw[<-n,m];exact K _ (S.env.put p) (put_defers _ _ _)
end Go.Proofs.YtobagnjnbmgidabGreatDoor
