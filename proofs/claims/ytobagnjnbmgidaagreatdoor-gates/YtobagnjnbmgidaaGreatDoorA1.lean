import Derived.Test.YtobagnjnbmgidaaGreatDoorE14
set_option linter.all false
namespace Go.Proofs.YtobagnjnbmgidaaGreatDoor
open Go.Conc Go.RowKit
variable{X:Int}{j k m t v:Nat}{a:Nat->Int}{A:cm}
structure iF where
 k:Int
 l:Int
 n:Int
structure Bk where
 k:Int
 n:Int
 ch:List iF
structure rj where
 a:Int
 t:Int
 w:Int
 c:Int
 o:Bool
structure PG where
 c:Int
 f:Int
 p:Int
 o:Int
 x:Bool
 e:Bool
 w:Int
 a:Nat->Int
 q:Nat->Int
structure H7 where
 t:Int
 l:Int
 x:Bool
 e:Bool
 b:Bk
structure UF where
 a:Int
 b:Bk
structure QK where
 a:Int
 c:Int
 l:Int
 w:Int
 n:Int
structure ko where
 k:Int
 a:Int
 b:Int
 c:Int
 d:Int
 e:Int
structure Mw where
 k:Int
 n:Int
 t:Int
structure Ev0 where
 nl:Nat
 ly:Nat->ko
 nc:Nat
 st:Nat->Int
 nt:Nat->Nat
 tr:Nat->Nat->Mw
structure Gt where
 sm:Bool
 nx:Int
 st:Int
 pd:Int
 si:Int
 la:List Bool
 pr:Int
structure LS where
 now:Int
 al:Nat
 ag:Nat->rj
 tl:Nat
 tk:Nat->PG
 wl:Nat
 wt:Nat->H7
 us:Nat->Int
 ou:Nat->UF
 el:Nat
 ev:Nat->QK
 gt:Nat->Gt
def LS.say(L:LS)(t:Nat)(l q n:Int):LS:={L with el:=L.el+1,ev:=upd L.ev L.el ⟨L.now,(L.tk t).c,l,q,n⟩}
def LS.put(L:LS)(e:rj):LS:={L with al:=L.al+1,ag:=upd L.ag L.al e}
def LS.cY(L:LS)(t:Nat)(l:Int):LS:={L with wl:=L.wl+1,wt:=upd L.wt L.wl ⟨t,l,false,false,⟨0,0,[]⟩⟩,tk:=upd L.tk t {L.tk t with w:=L.wl}}
def LS.wait(L:LS)(t:Nat)(l d:Int):LS:=(L.cY t l).put ⟨L.now+d,t,L.wl,1,false⟩
def LS.end_(L:LS)(t:Nat)(b:Bk):LS:={L with tk:=upd L.tk t {L.tk t with e:=true},ou:=upd L.ou (L.tk t).c.toNat ⟨L.now,b⟩}
def eB(k l n:Int):Bk:=⟨2,0,[⟨k,l,n⟩]⟩
def cC(b:Bk)(k:Int):Bool:=b.ch.any λx=>x.k==k
def cN(x:Mw):Bk:=if x.k=2 then eB 1 (-1) x.n else if x.k=3 then eB 2 (-1) x.n else if x.k=4 then⟨3,x.n,[]⟩else⟨1,x.n,[]⟩
def aU(V:Ev0)(c:Nat)(n:Nat):Mw:=if n<V.nt c then V.tr c n else⟨1,0,0⟩
def dF(c d:Int):Nat->Int->Int
 |0,p=>p
 |m+1,p=>if p<=d then dF c d m (p*c)else p
def aH(y:ko)(n:Int):Int:=let p:=dF y.c y.d (n-1).toNat y.b;if p>y.d then y.d else p
def LS.aS(L:LS)(k:Nat)(g:Gt):LS:={L with gt:=upd L.gt k g}
def Gt.turn(g:Gt)(now st:Int):Gt:={g with st:=st,pd:=g.pd+1,si:=now,la:=[],pr:=0}
def dQ(l:fL):Nat:=(l.filter id).length
def bh(b:Bk):Int:=match b.ch.getLast? with
 |some x=>x.k
 |none=>0
def LS.tQ(t k:Nat)(L:LS):LS×Option (Nat×Option Bk):=(L.say t k 7 0,some (k,some (eB 3 k 0)))
def LS.jc(y:ko)(t k:Nat)(L:LS):LS×Option (Nat×Option Bk):=
 if(L.gt k).sm=true/\(L.gt k).nx-L.now>(y.b-1)*y.a then L.tQ t k
 else((L.aS k {L.gt k with sm:=true,nx:=(if(L.gt k).sm=false\/(L.gt k).nx<L.now then L.now else(L.gt k).nx)+y.a}).say t k 6 0,some (k+1,none))
def LS.aM(t k:Nat)(L:LS):LS:=if(L.gt k).st=1 then(L.aS k ((L.gt k).turn L.now 2)).say t k 10 0 else L
def LS.cz(k:Nat)(L:LS):LS:=if(L.gt k).st=2 then L.aS k {L.gt k with pr:=(L.gt k).pr+1} else L
def LS.mark(t k:Nat)(L:LS):LS:={L with tk:=upd L.tk t {L.tk t with q:=upd (L.tk t).q k (L.gt k).pd}}
def LS.pass(y:ko)(t k:Nat)(L:LS):LS×Option (Nat×Option Bk):=
 if(L.gt k).st=1/\L.now-(L.gt k).si<y.d then L.tQ t k
 else if((L.aM t k).gt k).st=2/\((L.aM t k).gt k).pr=y.e then(L.aM t k).tQ t k
 else((((L.aM t k).cz k).mark t k).say t k 8 0,some (k+1,none))
def Gt.keep(y:ko)(g:Gt)(x:Bool):List Bool:=if g.st=0/\((g.la.length:Int)+1>y.a)then(g.la++[x]).tail else g.la++[x]
def over(y:ko)(l:fL):Bool:=decide (y.c*(l.length:Int)<=(dQ l:Int)*100)
def LS.count(y:ko)(t j:Nat)(b:Bk)(L:LS):LS:=
 if(L.tk t).q j≠(L.gt j).pd then L
 else if bh b=3\/bh b=5 then L.aS j {L.gt j with pr:=if(L.gt j).st=2 then(L.gt j).pr-1 else(L.gt j).pr}
 else
  let g:Gt:={L.gt j with la:=(L.gt j).keep y (decide (b.k≠1))}
  if(g.st=0/\y.b<=g.la.length\/g.st=2/\(g.la.length:Int)=y.e)/\over y g.la=true then(L.aS j (g.turn L.now 1)).say t j 9 0
  else if g.st=2/\(g.la.length:Int)=y.e then(L.aS j (g.turn L.now 0)).say t j 11 0
  else L.aS j g
def LS.step(V:Ev0)(t k:Nat)(ob:Option Bk)(L:LS):LS×Option (Nat×Option Bk):=match ob with
 |none=>
  if k=V.nl then
   let c:=(L.tk t).c.toNat
   let n:=L.us c
   let L1:LS:={L with us:=upd L.us c (n+1)}
   let L2:=L1.say t (-1) 1 n
   let x:=aU V c n.toNat
   if x.t=0 then(L2.say t (-1) 2 n,some (V.nl,some (cN x)))
   else
    let L3:=L2.wait t V.nl x.t
    ({L3 with wt:=upd L3.wt L2.wl {L3.wt L2.wl with b:=⟨(cN x).k,(cN x).n,⟨0,0,n⟩::(cN x).ch⟩}},none)
  else if(V.ly k).k=1 then({L with tk:=upd L.tk t {L.tk t with a:=upd (L.tk t).a k 1}},some (k+1,none))
  else if(V.ly k).k=3 then L.jc (V.ly k) t k
  else if(V.ly k).k=4 then L.pass (V.ly k) t k
  else(L,some (k+1,none))
 |some b=>
  if k=0 then(L.end_ t b,none)
  else
   let j:=k-1
   let y:=V.ly j
   if y.k=1 then
    if b.k≠2\/cC b 2=true\/cC b 5=true then(L,some (j,some b))
    else
     let n:=(L.tk t).a j
     if n=y.a then(L.say t j 4 0,some (j,some ⟨2,0,⟨7,j,0⟩::b.ch⟩))
     else
      let p:=aH y n
      let L1:=L.say t j 3 p
      let L2:LS:={L1 with tk:=upd L1.tk t {L1.tk t with a:=upd (L1.tk t).a j (n+1)}}
      if p>0 then(L2.wait t j p,none)else(L2,some (j+1,none))
   else if y.k=4 then(L.count y t j b,some (j,some b))
   else if y.k=2/\b.k=3 then(L.say t j 5 b.n,some (j,some (eB 6 j b.n)))
   else(L,some (j,some b))
def cj(ag:Nat->rj):Nat->Int
 |0=>-1
 |i+1=>if(ag i).o=false/\(cj ag i<0\/(ag i).a<(ag (cj ag i).toNat).a)then(i:Int)else cj ag i
theorem sv(ag:Nat->rj):∀i,cj ag i=-1\/∃k:Nat,k<i/\cj ag i=k
 |0=>.inl rfl
 |i+1=>by
  unfold cj
  split
  .exact .inr ⟨i,by omega,rfl⟩
  .rcases sv ag i with h|⟨k,c,b⟩
   .exact .inl h
   .exact .inr ⟨k,by omega,b⟩
def Jf(ly:Nat->ko):Nat->Nat
 |0=>0
 |n+1=>Jf ly n+if(ly n).k=1 then 1 else 0
structure sW(y:ko)(g:Gt)(X:Int)(m:Nat):Prop where
 nx:0<=g.nx/\g.nx<=X+20000
 sm:g.sm=false->g.nx=0
 st:(g.st=0/\(g.la.length:Int)<=y.a)\/(g.st=1/\g.la=[])\/(g.st=2/\(g.la.length:Int)<y.e)
 pd:0<=g.pd/\g.pd+m<1000000
 si:0<=g.si/\g.si<=X
 pr:-1000000<g.pr-m/\g.pr+m<1000000
structure vf(V:Ev0):Prop where
 nl:V.nl<=6
 nc:V.nc<=9
 kd:∀k,k<V.nl->(V.ly k).k=1\/(V.ly k).k=2\/(V.ly k).k=3\/(V.ly k).k=4
 r2:Jf V.ly V.nl<=2
 ra:∀k,k<V.nl->(V.ly k).k=3->(1<=(V.ly k).a/\(V.ly k).a<=1000)/\(1<=(V.ly k).b/\(V.ly k).b<=20)
 br:∀k,k<V.nl->(V.ly k).k=4->(1<=(V.ly k).a/\(V.ly k).a<=20)/\(1<=(V.ly k).b/\(V.ly k).b<=(V.ly k).a)/\(1<=(V.ly k).c/\(V.ly k).c<=100)/\(0<=(V.ly k).d/\(V.ly k).d<=1000)/\(1<=(V.ly k).e/\(V.ly k).e<=9)
 rt:∀k,k<V.nl->(V.ly k).k=1->(1<=(V.ly k).a/\(V.ly k).a<=9)/\(0<=(V.ly k).b/\(V.ly k).b<=1000)/\(1<=(V.ly k).c/\(V.ly k).c<=9)/\(0<=(V.ly k).d/\(V.ly k).d<=10000)
 st:∀c,c<V.nc->0<=V.st c/\V.st c<=1000
 nt:∀c,c<V.nc->V.nt c<=12
 tr:∀c,c<V.nc->∀j,j<V.nt c->(1<=(V.tr c j).k/\(V.tr c j).k<=4)/\(0<=(V.tr c j).t/\(V.tr c j).t<=1000)
structure xg(V:Ev0)(t:Nat)(L:LS):Prop where
 tl:L.tl=V.nc
 tn:t<V.nc
 el:L.el<1000000
 wl:L.wl<1000000
 al:L.al<1000000
 now:0<=L.now/\L.now<1000000000000
 tc:(L.tk t).c=t
 tf:(L.tk t).f=-1
 to:(L.tk t).o=-1
 tx:(L.tk t).x=false
 us:0<=L.us t/\L.us t<1000000
 gt:∀k,k<V.nl->3<=(V.ly k).k->sW (V.ly k) (L.gt k) 1000000000000 0
 q:∀k,k<V.nl->(V.ly k).k=4->(L.gt k).st=1->(L.tk t).q k≠(L.gt k).pd
def Is(b:Bk):Prop:=b.ch.length<1000000/\(∀x∈b.ch.dropLast,x.k=7)/\((b.k=1/\b.ch=[])\/(b.k=2/\b.n=0/\b.ch≠[])\/(b.k=3/\b.ch=[]))
def KY(V:Ev0)(L:LS)(t k:Nat):Prop:=(V.ly k).k=1->1<=(L.tk t).a k/\(L.tk t).a k<=(V.ly k).a
def LS.pop(L:LS)(i:Nat):LS:={L with ag:=upd L.ag i {L.ag i with o:=true},now:=(L.ag i).a}
def LS.iD(L:LS)(t w:Nat):LS:={L with wt:=upd L.wt w {L.wt w with e:=true},tk:=upd L.tk t {L.tk t with w:=-1}}
def Fin(V:Ev0)(Lf:LS):Nat->Option (Nat×Nat×Option Bk)->LS->Prop
 |0,_,_=>False
 |m+1,some (t,k,ob),L=>xg V t L/\k<=V.nl/\(∀b,ob=some b->Is b/\(0<k->KY V L t (k-1)))/\match L.step V t k ob with
  |(L',none)=>Fin V Lf m none L'
  |(L',some (k',Ry))=>Fin V Lf m (some (t,k',Ry)) L'
 |m+1,none,L=>L.al<1000000/\if cj L.ag L.al<0 then L=Lf else
  let i:=(cj L.ag L.al).toNat
  let e:=L.ag i
  ∃t:Nat,e.t=t/\xg V t (L.pop i)/\((e.c=0/\Fin V Lf m (some (t,0,none)) (L.pop i))\/
   (e.c=1/\∃w:Nat,e.w=w/\w<L.wl/\(L.wt w).t=t/\(L.wt w).x=false/\(L.wt w).e=false/\
     (((L.wt w).l=V.nl/\(∃y ch,(L.wt w).b.ch=y::ch/\Fin V Lf m (some (t,V.nl,some ⟨(L.wt w).b.k,(L.wt w).b.n,ch⟩)) (((L.pop i).iD t w).say t (-1) 2 y.n)))\/
      (∃k:Nat,k<V.nl/\(V.ly k).k=1/\(L.wt w).l=k/\Fin V Lf m (some (t,k+1,none)) ((L.pop i).iD t w)))))
def D5(e:rj):List Value:=[i6 e.a,i6 e.t,i6 e.w,i6 e.c,.bool e.o]
def Ff(t:PG):List Value:=[i6 t.c,i6 t.f,i6 t.p,i6 t.o,.bool t.x,.bool t.e,i6 t.w,i6 (t.a 0),i6 (t.a 1),i6 (t.a 2),i6 (t.a 3),i6 (t.a 4),i6 (t.a 5),i6 (t.q 0),i6 (t.q 1),i6 (t.q 2),i6 (t.q 3),i6 (t.q 4),i6 (t.q 5)]
def rN(p:H7×Value):List Value:=[i6 p.1.t,i6 p.1.l,.bool p.1.x,.bool p.1.e,i6 p.1.b.k,i6 p.1.b.n,p.2]
def zm(p:UF×Value):List Value:=[i6 p.1.a,i6 p.1.b.k,i6 p.1.b.n,p.2]
def yR(t:QK):List Value:=[i6 t.a,i6 t.c,i6 t.l,i6 t.w,i6 t.n]
def qR(t:ko):List Value:=[i6 t.k,i6 t.a,i6 t.b,i6 t.c,i6 t.d,i6 t.e]
theorem BR(e:QK):∀u∈yR e,u.oneCell'=true:=by intro u b;simp[yR]at b;rcases b with rfl|rfl|rfl|rfl|rfl<;>rfl
def nN(g:Gt)(p:eN)(c:Nat):List Value:=[.bool g.sm,i6 g.nx,i6 g.st,i6 g.pd,i6 g.si,.slice p g.la.length c,i6 g.pr,i6 0]
def qA(x:iF):List Value:=[i6 x.k,i6 x.l,i6 x.n]
abbrev gZ(ca:Addr)(L:List iF):aJ:=fR ca 3 (λj=>qA (L.getD j ⟨0,0,0⟩)) L.length false
def eY(C:aX)(h:ay)(L:List iF):Prop:=(h=.slice none 0 0/\L=[])\/∃ca cap i,h=.slice (some ca) L.length cap/\nth C i=some (gZ ca L)
abbrev CH(ca:Addr)(L:fL):aJ:=fR ca 1 (λj=>[.bool (L.getD j false)]) L.length false
abbrev lu(b:Bk)(h:ay):Value:=.agg #[i6 b.k,i6 b.n,h]
def Fi(f:cm):Nat->Nat
 |0=>0
 |n+1=>Fi f n+f n
theorem qH(f:cm)(t v:Nat):∀n,Fi (upd f t v) n+(if t<n then f t else 0)=Fi f n+(if t<n then v else 0)
 |0=>by simp[Fi]
 |n+1=>by
  have h:=qH f t v n;simp only[Fi]
  by_cases b:t<n
  .have:(upd f t v) n=f n:=by simp[upd];omega
   rw[this];simp only[b,if_true,show t<n+1 by omega]at h ⊢;omega
  .by_cases c:t=n
   .subst c
    have:(upd f t v) t=v:=by simp[upd]
    rw[this];simp only[b,if_false,show t<t+1 by omega,if_true]at h ⊢;omega
   .have:(upd f t v) n=f n:=by simp[upd];omega
    rw[this];simp only[b,if_false,show¬t<n+1 by omega]at h ⊢;omega
theorem zO(f:cm)(t:Nat):∀n,t<n->f t<=Fi f n
 |0,h=>by omega
 |n+1,h=>by
  simp only[Fi]
  by_cases b:t=n
  .subst b;omega
  .have:=zO f t n (by omega);omega
theorem qP(ag:Nat->rj):∀i,∀k:Nat,cj ag i=k->k<i/\(ag k).o=false
 |0,k,h=>by simp[cj]at h
 |i+1,k,h=>by
  unfold cj at h
  split at h
  .rename_i b
   have:k=i:=by omega
   subst this;exact⟨by omega,b.1⟩
  .have:=qP ag i k h;exact⟨by omega,this.2⟩
def cI(V:Ev0):Nat->Nat
 |0=>4
 |d+1=>if(V.ly (V.nl-(d+1))).k=1 then 9*(cI V d+4)+4 else cI V d+4
def oC(V:Ev0)(a:Nat->Int):Nat->Nat
 |0=>1
 |j+1=>oC V a j+2+if(V.ly j).k=1 then((V.ly j).a-a j).toNat*(cI V (V.nl-(j+1))+4)else 0
def lp(V:Ev0)(a:Nat->Int)(k:Nat)(ob:Option Bk):Nat:=oC V a k+match ob with
 |none=>cI V (V.nl-k)
 |some _=>0
theorem Ju{V:Ev0}(j:Nat):oC V a (j+1)=oC V a j+2+if(V.ly j).k=1 then((V.ly j).a-a j).toNat*(cI V (V.nl-(j+1))+4)else 0:=rfl
theorem so{V:Ev0}{a a':Nat->Int}:∀k,(∀i,i<k->a i=a' i)->oC V a k=oC V a' k
 |0,_=>rfl
 |k+1,h=>by unfold oC;rw[so k λi b=>h i (by omega),h k (by omega)]
theorem Mr{V:Ev0}(hk:k<V.nl):cI V (V.nl-k)=if(V.ly k).k=1 then 9*(cI V (V.nl-(k+1))+4)+4 else cI V (V.nl-(k+1))+4:=by
 rw[show V.nl-k=(V.nl-(k+1))+1 by omega]
 conv=>lhs;unfold cI
 rw[show V.nl-(V.nl-(k+1)+1)=k by omega]
theorem HS{V:Ev0}:∀d,4<=cI V d
 |0=>by simp[cI]
 |d+1=>by have:=HS (V:=V) d;unfold cI;split<;>omega
theorem F7{V:Ev0}:∀k,0<oC V a k
 |0=>by simp[oC]
 |k+1=>by unfold oC;omega
theorem Mq{V:Ev0}:∀d,d<=V.nl->∃r,Jf V.ly V.nl=Jf V.ly (V.nl-d)+r/\(r=0->cI V d<=4*d+4)/\(r<=1->cI V d<=40*d+76)/\(r<=2->cI V d<=364*d+724)
 |0,_=>⟨0,by simp,by simp[cI],by simp[cI],by simp[cI]⟩
 |d+1,h=>by
  obtain⟨r,b,f,c,g⟩:=Mq (V:=V) d (by omega);rw[show V.nl-d=(V.nl-(d+1))+1 by omega]at b;simp only[Jf]at b;unfold cI
  by_cases e:(V.ly (V.nl-(d+1))).k=1
  .rw[ah e]at b ⊢
   exact⟨r+1,by omega,λz=>by omega,λz=>by have:=f (by omega);omega,λz=>by have:=c (by omega);omega⟩
  .rw[af e]at b ⊢
   exact⟨r,by omega,λz=>by have:=f z;omega,λz=>by have:=c z;omega,λz=>by have:=g z;omega⟩
theorem Uf{V:Ev0}(hk:k<V.nl)(b:(V.ly k).k=1)(e:1<=(V.ly k).a/\(V.ly k).a<=9):lp V (upd a k 1) (k+1) none<lp V a k none:=by
 have e1:oC V (upd a k 1) k=oC V a k:=so k λi d=>by simp[upd];omega
 have e2:upd a k 1 k=1:=by simp[upd]
 have c:((V.ly k).a-1).toNat<=8:=by omega
 have f:=CZ (cI V (V.nl-(k+1))+4) c;simp only[lp];rw[Mr hk,ah b,Ju,ah b,e1,e2];omega
theorem HM{V:Ev0}(hk:k<V.nl)(b:¬(V.ly k).k=1):lp V a (k+1) none<lp V a k none:=by
 simp only[lp];rw[Mr hk,af b,Ju,af b];omega
theorem wF{V:Ev0}{b:Bk}:lp V a k (some b)<lp V a k none:=by have:=HS (V:=V) (V.nl-k);simp only[lp];omega
theorem jW{V:Ev0}{b c:Bk}:lp V a j (some c)<lp V a (j+1) (some b):=by
 simp only[lp,Ju];omega
theorem Ug{V:Ev0}{b:Bk}(c:(V.ly j).k=1)(f:a j<(V.ly j).a):lp V (upd a j (a j+1)) (j+1) none+1<lp V a (j+1) (some b):=by
 have e1:oC V (upd a j (a j+1)) j=oC V a j:=so j λi e=>by simp[upd];omega
 have e2:upd a j (a j+1) j=a j+1:=by simp[upd]
 have d:((V.ly j).a-a j).toNat=((V.ly j).a-(a j+1)).toNat+1:=by omega
 simp only[lp,Ju,ah c,e1,e2,d,rF];omega
def Zc(m:Nat)(b:Bk):Prop:=b.ch.length+m<1000000/\(∀x∈b.ch.dropLast,x.k=7)/\((b.k=1/\b.ch=[])\/(b.k=2/\b.n=0/\b.ch≠[])\/(b.k=3/\b.ch=[]))
theorem sW.less{y:ko}{g:Gt}{b:Nat}(h:sW y g X m)(c:b<=m):sW y g X b:=⟨h.nx,h.sm,h.st,by have:=h.pd;omega,h.si,by have:=h.pr;omega⟩
theorem sW.x{y:ko}{g:Gt}{b:Int}(h:sW y g X m)(c:X<=b):sW y g b m:=⟨by have:=h.nx;omega,h.sm,h.st,h.pd,by have:=h.si;omega,h.pr⟩
def QOk(V:Ev0)(L:LS):Prop:=∀t k,t<V.nc->k<V.nl->(V.ly k).k=4->(L.tk t).q k<=(L.gt k).pd/\((L.gt k).st=1->(L.tk t).q k<(L.gt k).pd)
def gd(V:Ev0)(L:LS)(X:Int)(m:Nat):Prop:=(∀k,k<V.nl->3<=(V.ly k).k->sW (V.ly k) (L.gt k) X m)/\QOk V L
theorem gd.g{V:Ev0}{L:LS}(h:gd V L X m):∀k,k<V.nl->3<=(V.ly k).k->sW (V.ly k) (L.gt k) X m:=h.1
theorem gd.q{V:Ev0}{L:LS}(h:gd V L X m):QOk V L:=h.2
theorem gd.less{V:Ev0}{L:LS}{X:Int}{m:Nat}(h:gd V L X (m+1)):gd V L X m:=⟨λk hk b=>(h.g k hk b).less (by omega),h.q⟩
theorem gd.uP{V:Ev0}{L L':LS}(h:gd V L X (m+1))(e:L'.gt=L.gt)(c:∀u,(L'.tk u).q=(L.tk u).q):gd V L' X m:=⟨λk hk f=>by rw[e];exact(h.g k hk f).less (by omega),λt k b hk d=>by rw[e,c];exact h.q t k b hk d⟩
theorem gd.x{V:Ev0}{L:LS}{X b:Int}{m:Nat}(h:gd V L X m)(c:X<=b):gd V L b m:=⟨λk hk d=>(h.g k hk d).x c,h.q⟩
theorem gd.set{V:Ev0}{L:LS}{g:Gt}(h:gd V L X (m+1))(n:3<=(V.ly k).k->sW (V.ly k) g X m)(l:(L.gt k).pd<g.pd\/(g.pd=(L.gt k).pd/\g.st=(L.gt k).st)):gd V (L.aS k g) X m:=⟨λj hj c=>by
 by_cases e:j=k
 .subst e;simp only[LS.aS,upd,if_true];exact n c
 .simp only[LS.aS,upd,af e];exact(h.g j hj c).less (by omega),λt j i hj o=>by
 have b:=h.q t j i hj o
 by_cases e:j=k
 .subst e;simp only[LS.aS,upd,if_true]
  rcases l with z|⟨f,d⟩
  .exact⟨by omega,λ_=>by omega⟩
  .rw[f,d];exact b
 .simp only[LS.aS,upd,af e];exact b⟩
theorem gd.mark{V:Ev0}{L:LS}{X:Int}{m k t:Nat}(h:gd V L X m)(d:(L.gt k).st≠1):gd V (L.mark t k) X m:=⟨h.g,λu j c hj f=>by
 have b:=h.q u j c hj f
 by_cases e:u=t
 .by_cases e2:j=k
  .subst e2;simp only[LS.mark,upd,ah e,if_true];exact⟨by omega,λz=>absurd z d⟩
  .simp only[LS.mark,upd,ah e,af e2];rw[<-e];exact b
 .simp only[LS.mark,upd,af e];exact b⟩
structure Lc(V:Ev0)(m:Nat)(L:LS)(t k:Nat)(ob:Option Bk):Prop where
 kl:k<=V.nl
 a:∀j,j<k->KY V L t j
 b:∀b,ob=some b->Zc m b
def UQ(V:Ev0)(m:Nat)(L:LS)(X:Int)(A:cm)(e:rj):Prop:=
 (0<=e.a/\e.a<=X)/\∃t:Nat,e.t=t/\t<V.nc/\((e.c=0/\lp V (L.tk t).a 0 none<A t)\/
   (e.c=1/\∃w:Nat,e.w=w/\w<L.wl/\(L.wt w).t=t/\(L.wt w).x=false/\(L.wt w).e=false/\
     (((L.wt w).l=V.nl/\∃y ch,(L.wt w).b.ch=y::ch/\Lc V m L t V.nl (some ⟨(L.wt w).b.k,(L.wt w).b.n,ch⟩)/\lp V (L.tk t).a V.nl (some ⟨(L.wt w).b.k,(L.wt w).b.n,ch⟩)<A t)\/
      (∃k:Nat,k<V.nl/\(V.ly k).k=1/\(L.wt w).l=k/\Lc V m L t (k+1) none/\lp V (L.tk t).a (k+1) none<A t))))
structure CO(V:Ev0)(m:Nat)(L:LS)(X:Int)(A:cm)(cur:vm):Prop where
 tl:L.tl=V.nc
 el:L.el+3*m<1000000
 wl:L.wl+m<1000000
 al:L.al+m<1000000
 now:0<=L.now/\L.now<=X
 x:X+10000*m<1000000000000
 tk:∀t:Nat,t<V.nc->(L.tk t).c=t/\(L.tk t).f=-1/\(L.tk t).o=-1/\(L.tk t).x=false
 us:∀t:Nat,t<V.nc->0<=L.us t/\L.us t+m<1000000
 pd:∀i,i<L.al->(L.ag i).o=false->UQ V m L X A (L.ag i)/\∀t:Nat,cur=some t->(L.ag i).t≠t
 ds:∀i,i<L.al->∀j,j<L.al->(L.ag i).o=false->(L.ag j).o=false->i≠j->(L.ag i).t≠(L.ag j).t
 sm:Fi A V.nc<=m
 gt:gd V L X m
structure CP(V:Ev0)(t:Nat)(L L':LS):Prop where
 tl:L'.tl=L.tl
 el:L'.el<=L.el+3
 wl:L.wl<=L'.wl/\L'.wl<=L.wl+1
 tk:∀j,j≠t->L'.tk j=L.tk j
 tt:(L'.tk t).c=(L.tk t).c/\(L'.tk t).f=(L.tk t).f/\(L'.tk t).o=(L.tk t).o/\(L'.tk t).x=(L.tk t).x
 us:∀j,j≠t->L'.us j=L.us j
 ut:L.us t<=L'.us t/\L'.us t<=L.us t+1
 wt:∀w,w<L.wl->(L.wt w).t≠t->L'.wt w=L.wt w
 gt:∀(X:Int)(m:Nat),(0<=L.now/\L.now<=X)->gd V L X (m+1)->gd V L' X m
theorem Lc.mv{V:Ev0}{d:Nat}{L L':LS}{c:Option Bk}(h:Lc V m L t k c)(g:d<=m)(f:L'.tk t=L.tk t):Lc V d L' t k c:=
 ⟨h.kl,λj hj=>by have:=h.a j hj;unfold KY at*;rw[f];exact this,λb e=>⟨by have:=(h.b b e).1;omega,(h.b b e).2⟩⟩
theorem UQ.mv{V:Ev0}{m q:Nat}{L L':LS}{X z:Int}{A f:cm}{e:rj}{t:Nat}(h:UQ V m L X A e)(O:CP V t L L')(C:e.t≠t)(r:q<=m)(H:X<=z)(l:∀j,j≠t->f j=A j):UQ V q L' z f e:=by
 obtain⟨G,u,x,F,g⟩:=h;have i:u≠t:=by rintro rfl;exact C x
 refine⟨⟨G.1,by omega⟩,u,x,F,?_⟩;rw[O.tk u i,l u i];rcases g with g|⟨g,w,E,D,s,o⟩
 .exact .inl g
 .have B:(L.wt w).t≠t:=by rw[s];omega
  refine .inr ⟨g,w,E,by have:=O.wl;omega,?_⟩;rw[O.wt w D B];refine⟨s,o.1,o.2.1,?_⟩;rcases o.2.2 with ⟨n,y,ch,d,c,b⟩|⟨k,n,d,c,b,p⟩
  .exact .inl ⟨n,y,ch,d,c.mv r (O.tk u i),b⟩
  .exact .inr ⟨k,n,d,c,b.mv r (O.tk u i),p⟩
theorem CO.mv{V:Ev0}{m:Nat}{L L':LS}{X:Int}{A:cm}{t v:Nat}{cur:vm}(h:CO V (m+1) L X A (some t))(n:t<V.nc)(O:CP V t L L')(b:L'.now=L.now)(c:L'.al=L.al)(d:L'.ag=L.ag)(o:v<A t)(hc:∀u,cur=some u->u=t):CO V m L' X (upd A t v) cur where
 tl:=by rw[O.tl,h.tl]
 el:=by have:=O.el;have:=h.el;omega
 wl:=by have:=O.wl;have:=h.wl;omega
 al:=by have:=h.al;omega
 now:=by rw[b];exact h.now
 x:=by have:=h.x;omega
 tk:=λj hj=>by
  by_cases e:j=t
  .subst e;rw[O.tt.1,O.tt.2.1,O.tt.2.2.1,O.tt.2.2.2];exact h.tk j hj
  .rw[O.tk j e];exact h.tk j hj
 us:=λj hj=>by
  have:=h.us j hj
  by_cases e:j=t
  .subst e;have:=O.ut;omega
  .rw[O.us j e];omega
 pd:=λi g ho=>by
  rw[d]at ho ⊢;rw[c]at g;have f:=h.pd i g ho;exact⟨f.1.mv O (f.2 t rfl) (by omega) (by omega) (λj hj=>af hj),λu l=>by rw[hc u l];exact f.2 t rfl⟩
 ds:=by rw[d,c];exact h.ds
 sm:=by have f:=qH A t v V.nc;have p:=h.sm;simp only[n,if_true]at f;omega
 gt:=O.gt X m h.now h.gt
theorem CO.pk{V:Ev0}{L L':LS}{e:rj}(h:CO V (m+1) L X A (some t))(s:t<V.nc)(O:CP V t L L')(f:L'.now=L.now)(g:L'.al=L.al+1)(l:L'.ag=upd L.ag L.al e)(q:e.t=t)(w:UQ V m L' (X+10000) (upd A t v) e)(y:v<A t):CO V m L' (X+10000) (upd A t v) none where
 tl:=by rw[O.tl,h.tl]
 el:=by have:=O.el;have:=h.el;omega
 wl:=by have:=O.wl;have:=h.wl;omega
 al:=by have:=h.al;omega
 now:=by rw[f];have:=h.now;omega
 x:=by have:=h.x;omega
 tk:=λj hj=>by
  by_cases e:j=t
  .subst e;rw[O.tt.1,O.tt.2.1,O.tt.2.2.1,O.tt.2.2.2];exact h.tk j hj
  .rw[O.tk j e];exact h.tk j hj
 us:=λj hj=>by
  have:=h.us j hj
  by_cases e:j=t
  .subst e;have:=O.ut;omega
  .rw[O.us j e];omega
 pd:=λi p ho=>by
  rw[l]at ho ⊢;rw[g]at p
  by_cases b:i=L.al
  .subst b;simp only[upd,if_true]at ho ⊢;exact⟨w,λ_ h=>by cases h⟩
  .simp only[upd,af b]at ho ⊢
   have n:=h.pd i (by omega) ho;exact⟨n.1.mv O (n.2 t rfl) (by omega) (by omega) (λj hj=>af hj),λu r=>by cases r⟩
 ds:=by
  rw[l,g];intro i p j hj ho d o
  by_cases b:i=L.al
  .have c:j≠L.al:=by omega
   simp only[upd,ah b,af c]at ho d ⊢;have:=(h.pd j (by omega) d).2 t rfl;rw[q];exact λh=>this h.symm
  .by_cases c:j=L.al
   .simp only[upd,af b,ah c]at ho d ⊢
    have:=(h.pd i (by omega) ho).2 t rfl;rw[q];exact this
   .simp only[upd,af b,af c]at ho d ⊢
    exact h.ds i (by omega) j (by omega) ho d o
 sm:=by have n:=qH A t v V.nc;have z:=h.sm;simp only[s,if_true]at n;omega
 gt:=(O.gt X m h.now h.gt).x (by omega)
theorem CO.pop{V:Ev0}{L L':LS}{i:Nat}(h:CO V (m+1) L X A none)(z:i<L.al)(ho:(L.ag i).o=false)(r:(L.ag i).t=t)(C:t<V.nc)(O:CP V t L L')(f:L'.now=(L.ag i).a)(l:L'.al=L.al)(n:L'.ag=upd L.ag i {L.ag i with o:=true})(F:v<A t):CO V m L' X (upd A t v) (some t) where
 tl:=by rw[O.tl,h.tl]
 el:=by have:=O.el;have:=h.el;omega
 wl:=by have:=O.wl;have:=h.wl;omega
 al:=by have:=h.al;omega
 now:=by rw[f];exact(h.pd i z ho).1.1
 x:=by have:=h.x;omega
 tk:=λj hj=>by
  by_cases e:j=t
  .subst e;rw[O.tt.1,O.tt.2.1,O.tt.2.2.1,O.tt.2.2.2];exact h.tk j hj
  .rw[O.tk j e];exact h.tk j hj
 us:=λj hj=>by
  have:=h.us j hj
  by_cases e:j=t
  .subst e;have:=O.ut;omega
  .rw[O.us j e];omega
 pd:=λj hj c=>by
  rw[n]at c ⊢;rw[l]at hj
  by_cases d:j=i
  .subst d;simp[upd]at c
  .simp only[upd,af d]at c ⊢
   have y:=h.pd j hj c;have w:(L.ag j).t≠t:=by rw[<-r];exact h.ds j hj i z c ho d
   exact⟨y.1.mv O w (by omega) (by omega) (λj hj=>af hj),λu B=>by cases B;exact w⟩
 ds:=by
  rw[n,l];intro a E b D c q s
  by_cases p:a=i
  .subst p;simp[upd]at c
  .by_cases g:b=i
   .subst g;simp[upd]at q
   .simp only[upd,af p,af g]at c q ⊢
    exact h.ds a E b D c q s
 sm:=by have y:=qH A t v V.nc;have w:=h.sm;simp only[C,if_true]at y;omega
 gt:=O.gt X m h.now h.gt
theorem CP.cA{V:Ev0}{L:LS}:CP V t L L:=⟨rfl,by omega,by omega,λ_ _=>rfl,⟨rfl,rfl,rfl,rfl⟩,λ_ _=>rfl,by omega,λ_ _ _=>rfl,λ_ _ _ h=>h.less⟩
theorem CO.U1{V:Ev0}{L:LS}{cur:vm}(h:CO V m L X A cur)(b:t<V.nc):xg V t L where
 tl:=h.tl
 tn:=b
 el:=by have:=h.el;omega
 wl:=by have:=h.wl;omega
 al:=by have:=h.al;omega
 now:=by have:=h.now;have:=h.x;omega
 tc:=(h.tk t b).1
 tf:=(h.tk t b).2.1
 to:=(h.tk t b).2.2.1
 tx:=(h.tk t b).2.2.2
 us:=by have:=h.us t b;omega
 gt:=λk hk d=>((h.gt.g k hk d).x (by have:=h.x;omega)).less (by omega)
 q:=λk hk c e=>by have:=(h.gt.q t k b hk c).2 e;omega
theorem Q3(x:Mw)(m:Nat)(b:m<900000):Zc m (cN x):=by
 unfold cN eB Zc
 split
 .simp;omega
 split
 .simp;omega
 split<;>simp<;>omega
theorem BO(y:ko)(n:Int)(b:0<=y.d/\y.d<=10000):aH y n<=10000:=by
 unfold aH;dsimp only;split<;>omega
theorem Le{V:Ev0}(b:vf V){c:Nat}(hc:c<V.nc)(n:Nat):0<=(aU V c n).t/\(aU V c n).t<=1000:=by
 unfold aU;split
 .exact(b.tr c hc n (by assumption)).2
 .simp
structure Gl(V:Ev0)(L L':LS):Prop where
 tl:L'.tl=L.tl
 el:L'.el<=L.el+1
 wl:L'.wl=L.wl
 tk:L'.tk=L.tk
 us:L'.us=L.us
 wt:L'.wt=L.wt
 now:L'.now=L.now
 al:L'.al=L.al
 ag:L'.ag=L.ag
 gt:∀(X:Int)(m:Nat),(0<=L.now/\L.now<=X)->gd V L X (m+1)->gd V L' X m
theorem Ji{y:ko}{g:Gt}{now:Int}(c:(1<=y.a/\y.a<=1000)/\(1<=y.b/\y.b<=20))(d:0<=now/\now<=X)(n:0<=g.nx/\g.nx<=X+20000)(l:g.sm=false->g.nx=0)(hc:¬(g.sm=true/\g.nx-now>(y.b-1)*y.a)):0<=(if g.sm=false\/g.nx<now then now else g.nx)+y.a/\(if g.sm=false\/g.nx<now then now else g.nx)+y.a<=X+20000:=by
 by_cases e:g.sm=false\/g.nx<now
 .rw[ah e];omega
 .rw[af e]
  have b:g.sm=true:=by cases h:g.sm<;>simp_all
  have i:¬g.nx-now>(y.b-1)*y.a:=λz=>hc ⟨b,z⟩
  have f:(y.b-1)*y.a<=19*y.a:=Zg (by omega) (by omega);omega
theorem G6{V:Ev0}{L:LS}(t:Nat)(hk:k<V.nl)(e:1<=(V.ly k).e/\(V.ly k).e<=9):Gl V L (L.aM t k):=by
 unfold LS.aM
 split
 .refine⟨rfl,by simp[LS.say,LS.aS],rfl,rfl,rfl,rfl,rfl,rfl,rfl,λX m c h=>?_⟩
  refine(gd.set (k:=k) (g:=(L.gt k).turn L.now 2) h (λd=>?_) (.inl (by simp only[Gt.turn];omega)));have b:=h.g k hk d;exact⟨b.nx,b.sm,.inr (.inr ⟨rfl,by simp[Gt.turn];omega⟩),by have:=b.pd;simp only[Gt.turn];omega,c,by have:=b.pd;simp only[Gt.turn];omega⟩
 .exact⟨rfl,by omega,rfl,rfl,rfl,rfl,rfl,rfl,rfl,λX m c h=>h.less⟩
theorem FR{V:Ev0}{L:LS}(t:Nat)(hk:k<V.nl)(p:1<=(V.ly k).e/\(V.ly k).e<=9)(b:Gl V L (L.aM t k)):Gl V L ((L.aM t k).cz k):=by
 unfold LS.cz
 split
 .rename_i o
  refine⟨b.tl,b.el,b.wl,b.tk,b.us,b.wt,b.now,b.al,b.ag,λX m f h=>?_⟩;have g:=b.gt X m f h;refine⟨λj hj i=>?_,λu j l hj n=>?_⟩
  .by_cases e:j=k
   .subst e
    simp only[LS.aS,upd,if_true];have c:=h.g j hj i;unfold LS.aM at o ⊢
    split
    .refine⟨?_,?_,?_,?_,?_,?_⟩<;>simp only[LS.say,LS.aS,upd,if_true,Gt.turn]
     .exact c.nx
     .exact c.sm
     .exact .inr (.inr ⟨trivial,by simp;omega⟩)
     .have:=c.pd;omega
     .exact f
     .have:=c.pd;omega
    .exact⟨c.nx,c.sm,c.st,by have:=c.pd;dsimp only;omega,c.si,by have:=c.pr;dsimp only;omega⟩
   .simp only[LS.aS,upd,af e];exact g.g j hj i
  .have d:=g.q u j l hj n
   by_cases e:j=k
   .subst e;simp only[LS.aS,upd,if_true];exact d
   .simp only[LS.aS,upd,af e];exact d
 .exact b
theorem G5{L:LS}:(((L.aM t k).cz k).gt k).st≠1:=by
 have h:((L.aM t k).gt k).st≠1:=by
  unfold LS.aM
  split
  .simp[LS.say,LS.aS,upd,Gt.turn]
  .assumption
 unfold LS.cz
 split
 .simp only[LS.aS,upd,if_true];exact h
 .exact h
theorem Gq(y:ko)(g:Gt)(x:Bool):(g.st=0->(g.la.length:Int)<=y.a->1<=y.a->((g.keep y x).length:Int)<=y.a)/\(g.st≠0->(g.keep y x).length=g.la.length+1):=by
 unfold Gt.keep;refine⟨λb d c=>?_,λb=>?_⟩
 .split
  .simp;omega
  .rename_i z
   have:¬((g.la.length:Int)+1>y.a):=λq=>z ⟨b,q⟩
   simp;omega
 .rw[af (λz=>b z.1)];simp
theorem HN{V:Ev0}{L:LS}(b:Bk)(hj:j<V.nl)(l:(L.gt j).st=1->(L.tk t).q j≠(L.gt j).pd)(o:(1<=(V.ly j).a/\(V.ly j).a<=20)/\(1<=(V.ly j).b/\(V.ly j).b<=(V.ly j).a)/\(1<=(V.ly j).c/\(V.ly j).c<=100)/\(0<=(V.ly j).d/\(V.ly j).d<=1000)/\(1<=(V.ly j).e/\(V.ly j).e<=9)):Gl V L (L.count (V.ly j) t j b):=by
 have set:∀g:Gt,(∀(X:Int)(m:Nat),(0<=L.now/\L.now<=X)->sW (V.ly j) (L.gt j) X (m+1)->sW (V.ly j) g X m)->((L.gt j).pd<g.pd\/(g.pd=(L.gt j).pd/\g.st=(L.gt j).st))->Gl V L (L.aS j g):=λg r p=>
  ⟨rfl,by simp[LS.aS],rfl,rfl,rfl,rfl,rfl,rfl,rfl,λX m c h=>h.set (λn=>r X m c (h.g j hj n)) p⟩
 have say:∀(L':LS)(q:Int),L'.el=L.el->Gl V L L'->Gl V L (L'.say t j q 0):=λL' q u h=>⟨h.tl,by simp[LS.say];omega,h.wl,h.tk,h.us,h.wt,h.now,h.al,h.ag,h.gt⟩
 unfold LS.count
 split
 .exact⟨rfl,by omega,rfl,rfl,rfl,rfl,rfl,rfl,rfl,λX m c h=>h.less⟩
 .rename_i i
  split
  .refine set _ (λX m c h=>⟨h.nx,h.sm,h.st,by have:=h.pd;dsimp only;omega,h.si,?_⟩) (.inr ⟨rfl,rfl⟩)
   have:=h.pr;dsimp only;split<;>omega
  .have e:=Gq (V.ly j) (L.gt j) (decide (b.k≠1))
   dsimp only
   split
   .refine say _ 9 rfl (set _ (λX m c h=>⟨h.nx,h.sm,.inr (.inl ⟨rfl,rfl⟩),by have:=h.pd;simp only[Gt.turn];omega,c,by have:=h.pd;simp only[Gt.turn];omega⟩) (.inl (by simp only[Gt.turn];omega)))
   .split
    .refine say _ 11 rfl (set _ (λX m c h=>⟨h.nx,h.sm,.inl ⟨rfl,by simp[Gt.turn];omega⟩,by have:=h.pd;simp only[Gt.turn];omega,c,by have:=h.pd;simp only[Gt.turn];omega⟩) (.inl (by simp only[Gt.turn];omega)))
    .rename_i x s
     refine set _ (λX m c h=>⟨h.nx,h.sm,?_,by have:=h.pd;dsimp only;omega,h.si,by have:=h.pr;dsimp only;omega⟩) (.inr ⟨rfl,rfl⟩);rcases h.st with ⟨d,f⟩|⟨d,f⟩|⟨d,f⟩
     .exact .inl ⟨d,e.1 d f o.1.1⟩
     .exact absurd (MP λz=>i z) (l d)
     .refine .inr (.inr ⟨d,?_⟩)
      have n:=e.2 (by omega);have w:¬(((L.gt j).keep (V.ly j) (decide (b.k≠1))).length:Int)=(V.ly j).e:=λq=>s ⟨d,q⟩
      dsimp only;omega
theorem Km{x:iF}{l:List iF}(h:∀y∈l.dropLast,y.k=7)(hl:l≠[])(c:x.k=7:=by rfl):∀y∈(x::l).dropLast,y.k=7:=by
 obtain⟨z,d,rfl⟩:=List.exists_cons_of_ne_nil hl;intro y b;simp only[List.dropLast_cons_cons,ak]at b;rcases b with rfl|b
 .exact c
 .exact h y b
theorem O6{V:Ev0}(Y:vf V):∀(m:Nat)(cur:Option (Nat×Nat×Option Bk))(L:LS)(X:Int)(A:cm),CO V m L X A (cur.map (·.1))->(∀t k r,cur=some (t,k,r)->t<V.nc/\Lc V m L t k r/\lp V (L.tk t).a k r<=A t)->∃Lf,Fin V Lf (m+1) cur L:=by
 intro m
 induction m with
 |zero=>
  intro cur L X A I C
  match cur with
  |none=>
   refine⟨L,by have:=I.al;omega,?_⟩;rcases sv L.ag L.al with h|⟨k,d,h2⟩
   .rw[ah (by omega)]
   .exfalso
    obtain⟨h3,u,N,o,H⟩:=(I.pd k d (qP _ _ _ h2).2).1;have h7:=zO A u V.nc o;have h8:=I.sm;rcases H with H|⟨_,w,_,_,_,_,_,H⟩
    .omega
    .rcases H with ⟨_,_,_,_,_,H⟩|⟨_,_,_,_,_,H⟩<;>omega
  |some (t,k,r)=>
   exfalso
   obtain⟨d,h2,h3⟩:=C t k r rfl;have h7:=zO A t V.nc d;have h8:=I.sm;have:0<lp V (L.tk t).a k r:=by have:=F7 (V:=V) (a:=(L.tk t).a) k;unfold lp;omega
   omega
 |succ m ih=>
  intro cur L X A I C
  match cur with
  |none=>
   have S:L.al<1000000:=by have:=I.al;omega
   rcases sv L.ag L.al with h|⟨i,d,h2⟩
   .exact⟨L,S,by rw[ah (by omega)]⟩
   .have ho:=(qP _ _ _ h2).2
    obtain⟨h3,t,N,o,H⟩:=(I.pd i d ho).1;have E:¬cj L.ag L.al<0:=by omega
    have ei:(cj L.ag L.al).toNat=i:=by omega
    have Op:CP V t L (L.pop i):=⟨rfl,by simp[LS.pop],by simp[LS.pop],λ_ _=>rfl,⟨rfl,rfl,rfl,rfl⟩,λ_ _=>rfl,by simp[LS.pop];omega,λ_ _ _=>rfl,λ_ _ _ h=>h.less⟩;rcases H with ⟨H,h7⟩|⟨H,w,h7,h8,h9,Cg,Ez,TH⟩
    .have Q:=I.pop (v:=lp V (L.tk t).a 0 none) d ho N o Op rfl rfl rfl h7
     obtain⟨Lf,F⟩:=ih (some (t,0,none)) (L.pop i) X _ Q (by
      rintro _ _ _ ⟨⟩
      exact⟨o,⟨iN _,λj hj=>by omega,λb f=>by cases f⟩,by simp[upd,LS.pop]⟩)
     refine⟨Lf,S,?_⟩;rw[af E];dsimp only;rw[ei];exact⟨t,N,Q.U1 o,.inl ⟨H,F⟩⟩
    .have U:CP V t L ((L.pop i).iD t w):=⟨rfl,by simp[LS.pop,LS.iD],by simp[LS.pop,LS.iD],λj hj=>af hj,by simp[LS.pop,LS.iD,upd],λ_ _=>rfl,by simp[LS.pop,LS.iD];omega,λx hx hxt=>by
      have:x≠w:=by rintro rfl;exact hxt h9
      exact af this,λ_ _ _ h=>h.uP rfl λu=>by simp only[LS.pop,LS.iD,upd];split<;>simp_all⟩
     rcases TH with ⟨OS,y,ch,TG,J,T⟩|⟨k,OS,TG,J,T,h17⟩
     .have Os:CP V t L (((L.pop i).iD t w).say t (-1) 2 y.n):=⟨U.tl,by simp[LS.pop,LS.iD,LS.say],U.wl,U.tk,U.tt,U.us,U.ut,U.wt,U.gt⟩
      have Q:=I.pop (v:=lp V (L.tk t).a V.nl (some ⟨(L.wt w).b.k,(L.wt w).b.n,ch⟩)) d ho N o Os rfl rfl rfl T
      obtain⟨Lf,F⟩:=ih (some (t,V.nl,some ⟨(L.wt w).b.k,(L.wt w).b.n,ch⟩)) _ X _ Q (by
       rintro _ _ _ ⟨⟩
       refine⟨o,⟨J.kl,λj hj=>?_,λb f=>⟨by have:=(J.b b f).1;omega,(J.b b f).2⟩⟩,by simp[upd,LS.pop,LS.iD,LS.say]⟩;have:=J.a j hj
       simpa [KY,LS.pop,LS.iD,LS.say,upd]using this)
      refine⟨Lf,S,?_⟩;rw[af E];dsimp only;rw[ei];refine⟨t,N,?_,.inr ⟨H,w,h7,h8,h9,Cg,Ez,.inl ⟨OS,y,ch,TG,F⟩⟩⟩;have s:=Q.U1 o;have hE:=I.el
      exact⟨s.tl,o,by have:(L.pop i).el=L.el:=rfl
                      omega,s.wl,s.al,s.now,(I.tk t o).1,(I.tk t o).2.1,(I.tk t o).2.2.1,(I.tk t o).2.2.2,s.us,s.gt,λk hk N d=>by have:=(I.gt.q t k o hk N).2 d;simp only[LS.pop];omega⟩
     .have Q:=I.pop (v:=lp V (L.tk t).a (k+1) none) d ho N o U rfl rfl rfl h17
      obtain⟨Lf,F⟩:=ih (some (t,k+1,none)) _ X _ Q (by
       rintro _ _ _ ⟨⟩
       refine⟨o,⟨T.kl,λj hj=>?_,λb f=>by cases f⟩,by simp[upd,LS.pop,LS.iD]⟩;have:=T.a j hj
       simpa [KY,LS.pop,LS.iD,upd]using this)
      refine⟨Lf,S,?_⟩;rw[af E];dsimp only;rw[ei];refine⟨t,N,?_,.inr ⟨H,w,h7,h8,h9,Cg,Ez,.inr ⟨k,OS,TG,J,F⟩⟩⟩;have s:=Q.U1 o;exact⟨s.tl,o,s.el,s.wl,s.al,s.now,(I.tk t o).1,(I.tk t o).2.1,(I.tk t o).2.2.1,(I.tk t o).2.2.2,s.us,s.gt,λk hk N d=>by have:=(I.gt.q t k o hk N).2 d;simp only[LS.pop];omega⟩
  |some (t,k,r)=>
   obtain⟨P,hl,Vb⟩:=C t k r rfl;have I:CO V (m+1) L X A (some t):=I;have hs:=I.U1 P;have hc:(L.tk t).c.toNat=t:=by rw[hs.tc];omega
   have go:∀(L':LS)(k':Nat)(B:Option Bk),L.step V t k r=(L',some (k',B))->CP V t L L'->L'.now=L.now->L'.al=L.al->L'.ag=L.ag->Lc V m L' t k' B->lp V (L'.tk t).a k' B<lp V (L.tk t).a k r->∃Lf,Fin V Lf (m+1+1) (some (t,k,r)) L:=by
    intro L' k' B e O n1 n2 n3 l c
    obtain⟨Lf,F⟩:=ih (some (t,k',B)) L' X _ (I.mv (v:=lp V (L'.tk t).a k' B) (cur:=some t) P O n1 n2 n3 (by omega) (λu h=>by cases h;rfl)) (by
     rintro _ _ _ ⟨⟩
     exact⟨P,l,by simp[upd]⟩)
    refine⟨Lf,hs,hl.kl,λb f=>⟨⟨by have:=(hl.b b f).1;omega,(hl.b b f).2⟩,λh0=>hl.a (k-1) (by omega)⟩,?_⟩;rw[e];exact F
   have stop:∀(L':LS)(Z:cm)(X':Int),L.step V t k r=(L',none)->CO V m L' X' Z none->∃Lf,Fin V Lf (m+1+1) (some (t,k,r)) L:=by
    intro L' Z X' e Q;obtain⟨Lf,F⟩:=ih none L' X' Z Q (by rintro _ _ _ ⟨⟩);refine⟨Lf,hs,hl.kl,λb f=>⟨⟨by have:=(hl.b b f).1;omega,(hl.b b f).2⟩,λh0=>hl.a (k-1) (by omega)⟩,?_⟩;rw[e];exact F
   have hm:m<900000:=by have:=I.el;omega
   have ZP:=I.us t P
   match r with
   |none=>
    by_cases hk:k=V.nl
    .subst hk
     have hx:=Le Y P (L.us t).toNat;have f:=Q3 (aU V t (L.us t).toNat) m hm;have Vp:∀b:Bk,lp V (L.tk t).a V.nl (some b)+1<lp V (L.tk t).a V.nl none:=λb=>by simp[lp,cI]
     by_cases h0:(aU V t (L.us t).toNat).t=0
     .refine go (((({L with us:=upd L.us t (L.us t+1)}:LS).say t (-1) 1 (L.us t))).say t (-1) 2 (L.us t)) V.nl (some (cN (aU V t (L.us t).toNat))) ?_ ⟨rfl,?_,?_,λ_ _=>rfl,⟨rfl,rfl,rfl,rfl⟩,λj hj=>af hj,?_,λ_ _ _=>rfl,λ_ _ _ h=>h.less⟩ rfl rfl rfl ⟨az _,λj hj=>hl.a j hj,λb e=>by cases e;exact f⟩ ?_
      .simp only[LS.step,hc,if_true,h0]
      .simp[LS.say]
      .simp[LS.say]
      .simp[LS.say,upd];omega
      .have:=Vp (cN (aU V t (L.us t).toNat));simp only[LS.say];omega
     .have JH:¬(aU V t (L.us t).toNat).t=0:=h0
      have aat:=Vp (cN (aU V t (L.us t).toNat));refine stop {(({L with us:=upd L.us t (L.us t+1)}:LS).say t (-1) 1 (L.us t)).wait t V.nl (aU V t (L.us t).toNat).t with wt:=upd ((({L with us:=upd L.us t (L.us t+1)}:LS).say t (-1) 1 (L.us t)).wait t V.nl (aU V t (L.us t).toNat).t).wt L.wl {((({L with us:=upd L.us t (L.us t+1)}:LS).say t (-1) 1 (L.us t)).wait t V.nl (aU V t (L.us t).toNat).t).wt L.wl with b:=⟨(cN (aU V t (L.us t).toNat)).k,(cN (aU V t (L.us t).toNat)).n,⟨0,0,L.us t⟩::(cN (aU V t (L.us t).toNat)).ch⟩}} (upd A t (lp V (L.tk t).a V.nl (some (cN (aU V t (L.us t).toNat)))+1)) (X+10000) (by simp only[LS.step,hc,if_true,af JH];rfl) (I.pk (e:=⟨L.now+(aU V t (L.us t).toNat).t,t,L.wl,1,false⟩) P ⟨rfl,?_,?_,?_,?_,λj hj=>af hj,?_,?_,λ_ _ _ h=>h.uP rfl λu=>by simp only[LS.say,LS.wait,LS.cY,LS.put,upd];split<;>simp_all⟩ rfl rfl rfl rfl ⟨⟨?_,?_⟩,t,rfl,P,.inr ⟨rfl,L.wl,rfl,?_,?_,?_,?_,.inl ⟨?_,⟨0,0,L.us t⟩,(cN (aU V t (L.us t).toNat)).ch,?_,⟨az _,λj hj=>?_,λb e=>?_⟩,?_⟩⟩⟩ ?_)
      .simp[LS.say,LS.wait,LS.cY,LS.put]
      .simp[LS.say,LS.wait,LS.cY,LS.put]
      .exact λj hj=>af hj
      .simp[LS.say,LS.wait,LS.cY,LS.put,upd]
      .simp[LS.say,LS.wait,LS.cY,LS.put,upd];omega
      .intro w hw LI
       have:w≠L.wl:=by omega
       simp[LS.say,LS.wait,LS.cY,LS.put,upd,this]
      .have:=I.now;dsimp only;omega
      .have:=I.now;dsimp only;omega
      .simp[LS.say,LS.wait,LS.cY,LS.put]
      .simp[LS.say,LS.wait,LS.cY,LS.put,upd]
      .simp[LS.say,LS.wait,LS.cY,LS.put,upd]
      .simp[LS.say,LS.wait,LS.cY,LS.put,upd]
      .simp[LS.say,LS.wait,LS.cY,LS.put,upd]
      .simp[LS.say,LS.wait,LS.cY,LS.put,upd]
      .have:=hl.a j hj
       simpa [KY,LS.say,LS.wait,LS.cY,LS.put,upd]using this
      .cases e;simpa [LS.say,LS.wait,LS.cY,LS.put,upd]using f
      .simp[LS.say,LS.wait,LS.cY,LS.put,upd]
      .omega
    .have n:k<V.nl:=by have:=hl.kl;omega
     have Xi:¬(V.ly k).k=1->∀(L':LS),(L'.tk t).a=(L.tk t).a->Lc V m L' t (k+1) none:=λd L' e=>⟨by omega,λj hj h=>by
      rw[e]
      by_cases z:j=k
      .subst z;omega
      .exact hl.a j (by omega) h,λb e=>by cases e⟩
     have K:∀(L':LS),(L'.tk t).a=(L.tk t).a->Lc V m L' t k (some (eB 3 k 0)):=λL' e=>⟨hl.kl,λj hj h=>by rw[e];exact hl.a j hj h,λb z=>by cases z;exact⟨by simp[eB];omega,by simp[eB],.inr (.inl ⟨rfl,rfl,by simp[eB]⟩)⟩⟩
     rcases Y.kd k n with d|d|d|d
     .have hr:=Y.rt k n d
      refine go {L with tk:=upd L.tk t {L.tk t with a:=upd (L.tk t).a k 1}} (k+1) none (by simp only[LS.step,af hk,ah d]) ⟨rfl,by dsimp only;omega,by dsimp only;omega,λj hj=>af hj,by simp[upd],λ_ _=>rfl,by dsimp only;omega,λ_ _ _=>rfl,λ_ _ _ h=>h.uP rfl λu=>by simp only[upd];split<;>simp_all⟩ rfl rfl rfl ⟨by omega,λj hj=>?_,λb e=>by cases e⟩ (by
       have e:(({L with tk:=upd L.tk t {L.tk t with a:=upd (L.tk t).a k 1}}:LS).tk t).a=upd (L.tk t).a k 1:=by simp[upd]
       rw[e];exact Uf n d hr.1)
      by_cases e:j=k
      .subst e;intro _;simp[upd];exact hr.1.1
      .have:=hl.a j (by omega)
       simpa [KY,upd,e]using this
     .exact go L (k+1) none (by simp only[LS.step,af hk,d];rfl) CP.cA rfl rfl rfl (Xi (by omega) L rfl) (HM n (by omega))
     .have D:L.step V t k none=L.jc (V.ly k) t k:=by simp only[LS.step,af hk,d];rfl
      by_cases hc:(L.gt k).sm=true/\(L.gt k).nx-L.now>((V.ly k).b-1)*(V.ly k).a
      .exact go (L.say t k 7 0) k (some (eB 3 k 0)) (by rw[D,LS.jc,ah hc];rfl) ⟨rfl,by simp[LS.say],by simp[LS.say],λ_ _=>rfl,⟨rfl,rfl,rfl,rfl⟩,λ_ _=>rfl,by simp[LS.say];omega,λ_ _ _=>rfl,λ_ _ _ h=>h.less⟩ rfl rfl rfl (K _ rfl) wF
      .refine go ((L.aS k {L.gt k with sm:=true,nx:=(if(L.gt k).sm=false\/(L.gt k).nx<L.now then L.now else(L.gt k).nx)+(V.ly k).a}).say t k 6 0) (k+1) none (by rw[D,LS.jc,af hc]) ⟨rfl,by simp[LS.say,LS.aS],by simp[LS.say,LS.aS],λ_ _=>rfl,⟨rfl,rfl,rfl,rfl⟩,λ_ _=>rfl,by simp[LS.say,LS.aS];omega,λ_ _ _=>rfl,λX m E h=>?_⟩ rfl rfl rfl (Xi (by omega) _ rfl) (HM n (by omega))
       refine(gd.set (k:=k) (g:={L.gt k with sm:=true,nx:=(if(L.gt k).sm=false\/(L.gt k).nx<L.now then L.now else(L.gt k).nx)+(V.ly k).a}) h (λh3=>?_) (.inr ⟨rfl,rfl⟩):gd V (L.aS k _) X m);have hg:=h.g k n (by omega);have hy:=Y.ra k n d;exact⟨Ji hy E hg.nx hg.sm hc,(λz=>by cases z),hg.st,by have:=hg.pd;simp only;omega,hg.si,by have:=hg.pr;simp only;omega⟩
     .have D:L.step V t k none=L.pass (V.ly k) t k:=by simp only[LS.step,af hk,d];rfl
      have hy:=Y.br k n d
      by_cases hc:(L.gt k).st=1/\L.now-(L.gt k).si<(V.ly k).d
      .exact go (L.say t k 7 0) k (some (eB 3 k 0)) (by rw[D,LS.pass,ah hc];rfl) ⟨rfl,by simp[LS.say],by simp[LS.say],λ_ _=>rfl,⟨rfl,rfl,rfl,rfl⟩,λ_ _=>rfl,by simp[LS.say];omega,λ_ _ _=>rfl,λ_ _ _ h=>h.less⟩ rfl rfl rfl (K _ rfl) wF
      .have q:=G6 (V:=V) (L:=L) t n hy.2.2.2.2
       by_cases L4:((L.aM t k).gt k).st=2/\((L.aM t k).gt k).pr=(V.ly k).e
       .refine go ((L.aM t k).say t k 7 0) k (some (eB 3 k 0)) (by rw[D,LS.pass,af hc,ah L4];rfl) ⟨q.tl,by have:=q.el;simp only[LS.say];omega,by have:=q.wl;simp only[LS.say];omega,λj _=>by simp only[LS.say];rw[q.tk],by simp only[LS.say];rw[q.tk];exact⟨rfl,rfl,rfl,rfl⟩,λj _=>by simp only[LS.say];rw[q.us],by simp only[LS.say];rw[q.us];omega,λw _ _=>by simp only[LS.say];rw[q.wt],λX m E h=>q.gt X m E h⟩ q.now q.al q.ag (K _ (by simp only[LS.say];rw[q.tk])) ?_
        simp only[LS.say];rw[q.tk];exact wF
       .have p:=FR (V:=V) (L:=L) t n hy.2.2.2.2 q
        refine go ((((L.aM t k).cz k).mark t k).say t k 8 0) (k+1) none (by rw[D,LS.pass,af hc,af L4]) ⟨p.tl,by have:=p.el;simp only[LS.say,LS.mark];omega,by have:=p.wl;simp only[LS.say,LS.mark];omega,λj hj=>by simp only[LS.say,LS.mark,upd,af hj];rw[p.tk],by simp only[LS.say,LS.mark,upd,if_true];rw[p.tk];exact⟨rfl,rfl,rfl,rfl⟩,λj _=>by simp only[LS.say,LS.mark];rw[p.us],by simp only[LS.say,LS.mark];rw[p.us];omega,λw _ _=>by simp only[LS.say,LS.mark];rw[p.wt],λX m E h=>gd.mark (t:=t) (p.gt X m E h) G5⟩ p.now p.al p.ag (Xi (by omega) _ (by simp only[LS.say,LS.mark,upd,if_true];rw[p.tk])) ?_;have e:((((((L.aM t k).cz k).mark t k).say t k 8 0).tk t).a)=(L.tk t).a:=by simp only[LS.say,LS.mark,upd,if_true];rw[p.tk]
        rw[e];exact HM n (by omega)
   |some b=>
    have f:=hl.b b rfl;have hcp:0<lp V (L.tk t).a k (some b):=by have:=F7 (V:=V) (a:=(L.tk t).a) k;unfold lp;omega
    by_cases hk:k=0
    .subst hk
     refine stop (L.end_ t b) (upd A t 0) X (by simp only[LS.step,if_true]) (I.mv (v:=0) P ⟨rfl,by simp[LS.end_],by simp[LS.end_],λj hj=>af hj,by simp[LS.end_,upd],λ_ _=>rfl,by simp[LS.end_];omega,λ_ _ _=>rfl,λ_ _ _ h=>h.uP rfl λu=>by simp only[LS.end_,upd];split<;>simp_all⟩ rfl rfl rfl (c7 hcp Vb) (λu h=>by cases h))
    .obtain⟨j,rfl⟩:∃j,k=j+1:=⟨k-1,by omega⟩
     have G:j<V.nl:=by have:=hl.kl;omega
     rcases Y.kd j G with d|d|d|d
     .have hr:=Y.rt j G d
      by_cases hq:b.k≠2\/cC b 2=true\/cC b 5=true
      .exact go L j (some b) (by simp only[LS.step,mZ,iR,and_false,if_false,fY,ah d,ah hq]) CP.cA rfl rfl rfl ⟨by omega,λi M=>hl.a i (by omega),λb' e=>by cases e;exact⟨by have:=f.1;omega,f.2⟩⟩ jW
      .have uf:b.k=2:=MP λh=>hq (.inl h)
       have R:b.n=0/\b.ch≠[]:=by
        rcases f.2.2 with h|h|h
        .omega
        .exact h.2
        .omega
       by_cases E:(L.tk t).a j=(V.ly j).a
       .exact go (L.say t j 4 0) j (some ⟨2,0,⟨7,j,0⟩::b.ch⟩) (by simp only[LS.step,mZ,iR,and_false,if_false,fY,ah d,af hq,ah E]) ⟨rfl,by simp[LS.say],by simp[LS.say],λ_ _=>rfl,⟨rfl,rfl,rfl,rfl⟩,λ_ _=>rfl,by simp[LS.say];omega,λ_ _ _=>rfl,λ_ _ _ h=>h.less⟩ rfl rfl rfl ⟨by omega,λi M=>hl.a i (by omega),λb' e=>by cases e;exact⟨by have:=f.1;simp only[eG];omega,Km f.2.1 R.2,.inr (.inl ⟨rfl,rfl,by simp⟩)⟩⟩ jW
       .have ha:=hl.a j (by omega) d
        have p:=BO (V.ly j) ((L.tk t).a j) hr.2.2.2;have Ew:=Ug (V:=V) (a:=(L.tk t).a) (j:=j) (b:=b) d (by omega)
        have J1:∀(L':LS),(L'.tk t).a=upd (L.tk t).a j ((L.tk t).a j+1)->∀i,i<j+1->KY V L' t i:=λL' e i M h=>by
         rw[e]
         by_cases e:i=j
         .subst e;simp[upd];omega
         .have:=hl.a i M h;simpa [upd,e]using this
        by_cases Ol:aH (V.ly j) ((L.tk t).a j)>0
        .refine stop (LS.wait {L.say t j 3 (aH (V.ly j) ((L.tk t).a j))with tk:=upd L.tk t {L.tk t with a:=upd (L.tk t).a j ((L.tk t).a j+1)}} t j (aH (V.ly j) ((L.tk t).a j))) (upd A t (lp V (upd (L.tk t).a j ((L.tk t).a j+1)) (j+1) none+1)) (X+10000) (by simp only[LS.step,mZ,iR,and_false,if_false,fY,ah d,af hq,af E,ah Ol];rfl) (I.pk (e:=⟨L.now+aH (V.ly j) ((L.tk t).a j),t,L.wl,1,false⟩) P ⟨rfl,?_,?_,?_,?_,λ_ _=>rfl,?_,?_,λ_ _ _ h=>h.uP rfl λu=>by simp only[LS.say,LS.wait,LS.cY,LS.put,upd];split<;>simp_all⟩ rfl rfl rfl rfl ⟨⟨?_,?_⟩,t,rfl,P,.inr ⟨rfl,L.wl,rfl,?_,?_,?_,?_,.inr ⟨j,G,d,?_,⟨by omega,J1 _ ?_,λb e=>by cases e⟩,?_⟩⟩⟩ ?_)
         .simp[LS.say,LS.wait,LS.cY,LS.put]
         .simp[LS.say,LS.wait,LS.cY,LS.put]
         .intro i M;simp[LS.say,LS.wait,LS.cY,LS.put,upd,M]
         .simp[LS.say,LS.wait,LS.cY,LS.put,upd]
         .simp[LS.say,LS.wait,LS.cY,LS.put,upd];omega
         .intro w hw LI
          have:w≠L.wl:=by omega
          simp[LS.say,LS.wait,LS.cY,LS.put,upd,this]
         .have:=I.now;dsimp only;omega
         .have:=I.now;dsimp only;omega
         .simp[LS.say,LS.wait,LS.cY,LS.put]
         .simp[LS.say,LS.wait,LS.cY,LS.put,upd]
         .simp[LS.say,LS.wait,LS.cY,LS.put,upd]
         .simp[LS.say,LS.wait,LS.cY,LS.put,upd]
         .simp[LS.say,LS.wait,LS.cY,LS.put,upd]
         .simp[LS.say,LS.wait,LS.cY,LS.put,upd]
         .simp[LS.say,LS.wait,LS.cY,LS.put,upd]
         .omega
        .refine go {L.say t j 3 (aH (V.ly j) ((L.tk t).a j))with tk:=upd L.tk t {L.tk t with a:=upd (L.tk t).a j ((L.tk t).a j+1)}} (j+1) none (by simp only[LS.step,mZ,iR,and_false,if_false,fY,ah d,af hq,af E,af Ol];rfl) ⟨rfl,by simp[LS.say],by simp[LS.say],λi M=>af M,by simp[LS.say,upd],λ_ _=>rfl,by simp[LS.say];omega,λ_ _ _=>rfl,λ_ _ _ h=>h.uP rfl λu=>by simp only[LS.say,upd];split<;>simp_all⟩ rfl rfl rfl ⟨by omega,J1 _ (by simp[LS.say,upd]),λb' e=>by cases e⟩ (by
          have e:(({L.say t j 3 (aH (V.ly j) ((L.tk t).a j))with tk:=upd L.tk t {L.tk t with a:=upd (L.tk t).a j ((L.tk t).a j+1)}}:LS).tk t).a=upd (L.tk t).a j ((L.tk t).a j+1):=by simp[LS.say,upd]
          rw[e];omega)
     .have W:L.step V t (j+1) (some b)=if b.k=3 then(L.say t j 5 b.n,some (j,some (eB 6 j b.n)))else(L,some (j,some b)):=by
       simp only[LS.step,mZ,iR,and_false,if_false,fY,d];simp
      by_cases R:b.k=3
      .exact go (L.say t j 5 b.n) j (some (eB 6 j b.n)) (by rw[W,ah R]) ⟨rfl,by simp[LS.say],by simp[LS.say],λ_ _=>rfl,⟨rfl,rfl,rfl,rfl⟩,λ_ _=>rfl,by simp[LS.say];omega,λ_ _ _=>rfl,λ_ _ _ h=>h.less⟩ rfl rfl rfl ⟨by omega,λi M=>hl.a i (by omega),λb' e=>by cases e;exact⟨by simp[eB];omega,by simp[eB],.inr (.inl ⟨rfl,rfl,by simp[eB]⟩)⟩⟩ jW
      .exact go L j (some b) (by rw[W,af R]) CP.cA rfl rfl rfl ⟨by omega,λi M=>hl.a i (by omega),λb' e=>by cases e;exact⟨by have:=f.1;omega,f.2⟩⟩ jW
     .exact go L j (some b) (by simp only[LS.step,mZ,iR,and_false,if_false,fY,d];simp) CP.cA rfl rfl rfl ⟨by omega,λi M=>hl.a i (by omega),λb' e=>by cases e;exact⟨by have:=f.1;omega,f.2⟩⟩ jW
     .have hk:=HN (V:=V) (L:=L) (t:=t) b G (λz=>hs.q j G d z) (Y.br j G d)
      refine go (L.count (V.ly j) t j b) j (some b) (by simp only[LS.step,mZ,iR,and_false,if_false,fY,d];simp) ⟨hk.tl,by have:=hk.el;omega,by have:=hk.wl;omega,λi _=>by rw[hk.tk],by rw[hk.tk];exact⟨rfl,rfl,rfl,rfl⟩,λi _=>by rw[hk.us],by rw[hk.us];omega,λw _ _=>by rw[hk.wt],hk.gt⟩ hk.now hk.al hk.ag ⟨by omega,λi M h=>by rw[hk.tk];exact hl.a i (by omega) h,λb' e=>by cases e;exact⟨by have:=f.1;omega,f.2⟩⟩ ?_;rw[hk.tk];exact jW
theorem Li(f:cm)(c:Nat):∀n,(∀t,t<n->f t<=c)->Fi f n<=n*c
 |0,_=>by simp[Fi]
 |n+1,h=>by
  have e:=Li f c n λt b=>h t (by omega)
  have d:=h n (by omega);have:(n+1)*c=n*c+c:=Nat.succ_mul n c;simp only[Fi];omega
theorem TV{V:Ev0}(c:vf V){L:LS}(now:L.now=0)(al:L.al=V.nc)(ag:∀i,i<V.nc->(L.ag i).a=V.st i/\(L.ag i).t=(i:Int)/\(L.ag i).c=0/\(L.ag i).o=false)(us:∀i,L.us i=0)(el:L.el=0)(wl:L.wl=0)(tl:L.tl=V.nc)(tk:∀t:Nat,t<V.nc->(L.tk t).c=t/\(L.tk t).f=-1/\(L.tk t).o=-1/\(L.tk t).x=false)(gt:∀k,L.gt k=⟨false,0,0,0,0,[],0⟩)(tq:∀t k,(L.tk t).q k=0):∃m Lf,Fin V Lf m none L:=by
 have e:=c.nc
 have hc:cI V V.nl<=3000:=by
  obtain⟨r,b,_,_,d⟩:=Mq (V:=V) V.nl (az _);have:=c.nl;have:=c.r2;have:=d (by omega);omega
 obtain⟨Lf,F⟩:=O6 c 30000 none L 1000 (λt=>lp V (L.tk t).a 0 none+1)
  {tl:=tl,el:=by omega,wl:=by omega,al:=by omega,now:=by omega,x:=by omega,tk:=tk,
   us:=λt _=>by rw[us];omega,
   pd:=λi g ho=>by
    have b:=ag i (by omega);have d:=c.st i (by omega);refine⟨⟨by omega,i,b.2.1,by omega,.inl ⟨b.2.2.1,by dsimp only;omega⟩⟩,λt h=>by cases h⟩
   ds:=λi g j hj _ _ f=>by
    rw[(ag i (by omega)).2.1,(ag j (by omega)).2.1];omega
   sm:=by
    have:=Li (λt=>lp V (L.tk t).a 0 none+1) 3002 V.nc (λt l=>by
     simp only[lp,oC,A8];omega)
    have:V.nc*3002<=9*3002:=CZ _ e;omega
   gt:=⟨λk hk n=>by
    rw[gt];refine⟨by dsimp only;omega,λ_=>rfl,.inl ⟨rfl,?_⟩,by dsimp only;omega,by dsimp only;omega,by dsimp only;omega⟩;rcases c.kd k hk with b|b|b|b
    .omega
    .omega
    .have:=c.ra k hk b;simp;omega
    .have:=c.br k hk b;simp;omega,λt k _ _ _=>by rw[gt,tq];exact⟨by simp,λz=>by simp at z⟩⟩} (by rintro _ _ _ ⟨⟩)
 exact⟨_,Lf,F⟩
def IX(V:Ev0)(t:Nat)(L:LS):Bool:=decide (L.tl=V.nc)&&decide (t<V.nc)&&decide (L.el<1000000)&&decide (L.wl<1000000)&&decide (L.al<1000000)&&decide (0<=L.now)&&decide (L.now<1000000000000)&&decide ((L.tk t).c=t)&&decide ((L.tk t).f=-1)&&decide ((L.tk t).o=-1)&&!(L.tk t).x&&decide (0<=L.us t)&&decide (L.us t<1000000)&&(List.range V.nl).all λk=>decide ((V.ly k).k<3)
theorem Bz{V:Ev0}{L:LS}(h:IX V t L=true):xg V t L:=by
 simp only[IX,cq,decide_eq_true_eq,mF]at h;obtain⟨⟨⟨⟨⟨⟨⟨⟨⟨⟨⟨⟨⟨u,s⟩,r⟩,q⟩,p⟩,o⟩,n⟩,l⟩,i⟩,g⟩,f⟩,e⟩,d⟩,c⟩:=h;have b:∀k,k<V.nl->(V.ly k).k<3:=λk hk=>by simpa using eP.1 c k (bp.2 hk)
 exact⟨u,s,r,q,p,⟨o,n⟩,l,i,g,f,⟨e,d⟩,λk hk h=>by have:=b k hk;omega,λk hk h=>by have:=b k hk;omega⟩
def Pr(b:Bk):Bool:=decide (b.ch.length<1000000)&&b.ch.dropLast.all (λx=>decide (x.k=7))&&((decide (b.k=1)&&b.ch.isEmpty)||(decide (b.k=2)&&decide (b.n=0)&&!b.ch.isEmpty)||(decide (b.k=3)&&b.ch.isEmpty))
theorem Ky{b:Bk}(h:Pr b=true):Is b:=by
 simp only[Pr,cq,Bf,decide_eq_true_eq,mF,List.isEmpty_iff]at h;refine⟨h.1.1,λx c=>by simpa using eP.1 h.1.2 x c,?_⟩;rcases h.2 with (z|z)|z
 .exact .inl z
 .exact .inr (.inl ⟨z.1.1,z.1.2,λe=>by rw[e]at z;cases z.2⟩)
 .exact .inr (.inr z)
def PA(V:Ev0)(L:LS)(t k:Nat):Bool:=!decide ((V.ly k).k=1)||(decide (1<=(L.tk t).a k)&&decide ((L.tk t).a k<=(V.ly k).a))
theorem KI{V:Ev0}{L:LS}(h:PA V L t k=true):KY V L t k:=λhk=>by
 simp only[PA,Bf,cq,mF,decide_eq_true_eq,decide_eq_false_iff_not]at h;rcases h with z|z
 .exact absurd hk z
 .exact z
def oF(V:Ev0):Nat->Option (Nat×Nat×Option Bk)->LS->Option LS
 |0,_,_=>none
 |m+1,some (t,k,ob),L=>if IX V t L=true/\k<=V.nl/\(∀b,ob=some b->Pr b=true/\(0<k->PA V L t (k-1)=true))then(match L.step V t k ob with
  |(L',none)=>oF V m none L'
  |(L',some (k',Ry))=>oF V m (some (t,k',Ry)) L')else none
 |m+1,none,L=>if L.al<1000000 then(if cj L.ag L.al<0 then some L else
  let i:=(cj L.ag L.al).toNat
  let e:=L.ag i
  let t:=e.t.toNat
  if e.t=t/\IX V t (L.pop i)=true then
   (if e.c=0 then oF V m (some (t,0,none)) (L.pop i)
    else if e.c=1 then
     let w:=e.w.toNat
     if e.w=w/\w<L.wl/\(L.wt w).t=t/\(L.wt w).x=false/\(L.wt w).e=false then
      (if(L.wt w).l=V.nl then(match (L.wt w).b.ch with
        |[]=>none
        |y::ch=>oF V m (some (t,V.nl,some ⟨(L.wt w).b.k,(L.wt w).b.n,ch⟩)) (((L.pop i).iD t w).say t (-1) 2 y.n))
       else
        let k:=(L.wt w).l.toNat
        if k<V.nl/\(V.ly k).k=1/\(L.wt w).l=k then oF V m (some (t,k+1,none)) ((L.pop i).iD t w)else none)
     else none
    else none)
  else none)else none
theorem kL{V:Ev0}{Lf:LS}:∀(m:Nat)(cur:Option (Nat×Nat×Option Bk))(L:LS),oF V m cur L=some Lf->Fin V Lf m cur L
 |0,_,_,h=>by cases h
 |m+1,some (t,k,l),L,h=>by
  unfold oF at h
  split at h
  .rename_i hc
   refine⟨Bz hc.1,hc.2.1,λb i=>⟨Ky (hc.2.2 b i).1,λg=>KI ((hc.2.2 b i).2 g)⟩,?_⟩;cases n:L.step V t k l with
   |mk L' o=>
    rw[n]at h;cases o with
    |none=>exact kL m none L' h
    |some p=>exact kL m (some (t,p.1,p.2)) L' h
  .cases h
 |m+1,none,L,h=>by
  unfold oF at h
  split at h
  .rename_i f
   refine⟨f,?_⟩
   split at h
   .rename_i e
    rw[ah e];exact Option.some.inj h
   .rename_i e
    rw[af e]
    simp only at h ⊢
    split at h
    .rename_i hc
     refine⟨_,hc.1,Bz hc.2,?_⟩
     split at h
     .rename_i g
      exact .inl ⟨g,kL m _ _ h⟩
     .split at h
      .rename_i q
       split at h
       .rename_i c
        refine .inr ⟨q,_,c.1,c.2.1,c.2.2.1,c.2.2.2.1,c.2.2.2.2,?_⟩
        split at h
        .rename_i hl
         cases d:(L.wt (L.ag (cj L.ag L.al).toNat).w.toNat).b.ch with
         |nil=>rw[d]at h;cases h
         |cons y ch=>rw[d]at h;exact .inl ⟨hl,y,ch,rfl,kL m _ _ h⟩
        .split at h
         .rename_i hk
          exact .inr ⟨_,hk.1,hk.2.1,hk.2.2,kL m _ _ h⟩
         .cases h
       .cases h
      .cases h
    .cases h
  .cases h
end Go.Proofs.YtobagnjnbmgidaaGreatDoor
