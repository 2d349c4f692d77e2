import Derived.Test.YtobagnjnbmgidaaGreatDoorE25
set_option linter.all false
namespace Go.Proofs.YtobagnjnbmgidaaGreatDoor
structure iO where
 k:Int
 l:Int
 n:Int
structure Bk where
 k:Int
 n:Int
 ch:List iO
structure rB where
 a:Int
 t:Int
 w:Int
 c:Int
 o:Bool
structure Pe where
 c:Int
 f:Int
 p:Int
 o:Int
 x:Bool
 e:Bool
 w:Int
 a:Nat→Int
 q:Nat→Int
structure Ii where
 t:Int
 l:Int
 x:Bool
 e:Bool
 b:Bk
structure Qj where
 a:Int
 b:Bk
structure Pd where
 a:Int
 c:Int
 l:Int
 w:Int
 n:Int
structure Ff where
 k:Int
 a:Int
 b:Int
 c:Int
 d:Int
 e:Int
structure Mu where
 k:Int
 n:Int
 t:Int
structure Ev0 where
 nl:Nat
 ly:Nat→Ff
 nc:Nat
 st:Nat→Int
 nt:Nat→Nat
 tr:Nat→Nat→Mu
structure LS where
 now:Int
 al:Nat
 ag:Nat→rB
 tl:Nat
 tk:Nat→Pe
 wl:Nat
 wt:Nat→Ii
 us:Nat→Int
 ou:Nat→Qj
 el:Nat
 ev:Nat→Pd
def LS.say(L:LS)(t:Nat)(l q n:Int):LS:={L with el:=L.el+1,ev:=upd L.ev L.el ⟨L.now,(L.tk t).c,l,q,n⟩}
def LS.put(L:LS)(e:rB):LS:={L with al:=L.al+1,ag:=upd L.ag L.al e}
def LS.c8(L:LS)(t:Nat)(l:Int):LS:={L with wl:=L.wl+1,wt:=upd L.wt L.wl ⟨t,l,false,false,⟨0,0,[]⟩⟩,tk:=upd L.tk t {L.tk t with w:=L.wl}}
def LS.wait(L:LS)(t:Nat)(l d:Int):LS:=(L.c8 t l).put ⟨L.now+d,t,L.wl,1,false⟩
def LS.end_(L:LS)(t:Nat)(b:Bk):LS:={L with tk:=upd L.tk t {L.tk t with e:=true},ou:=upd L.ou (L.tk t).c.toNat ⟨L.now,b⟩}
def mE(k l n:Int):Bk:=⟨2,0,[⟨k,l,n⟩]⟩
def cH(b:Bk)(k:Int):Bool:=b.ch.any fun x=>x.k==k
def dg(x:Mu):Bk:=if x.k=2 then mE 1 (-1) x.n else if x.k=3 then mE 2 (-1) x.n else if x.k=4 then⟨3,x.n,[]⟩ else⟨1,x.n,[]⟩
def aY(V:Ev0)(c:Nat)(n:Nat):Mu:=if n<V.nt c then V.tr c n else⟨1,0,0⟩
def dZ(c d:Int):Nat→Int→Int
 |0,p=>p
 |m+1,p=>if p≤d then dZ c d m (p*c) else p
def aH(y:Ff)(n:Int):Int:=let p:=dZ y.c y.d (n-1).toNat y.b;if p>y.d then y.d else p
def LS.step(V:Ev0)(t k:Nat)(ob:Option Bk)(L:LS):LS×Option (Nat×Option Bk):=match ob with
 |none=>
  if k=V.nl then
   let c:=(L.tk t).c.toNat
   let n:=L.us c
   let L1:LS:={L with us:=upd L.us c (n+1)}
   let L2:=L1.say t (-1) 1 n
   let x:=aY V c n.toNat
   if x.t=0 then(L2.say t (-1) 2 n,some (V.nl,some (dg x)))
   else
    let L3:=L2.wait t V.nl x.t
    ({L3 with wt:=upd L3.wt L2.wl {L3.wt L2.wl with b:=⟨(dg x).k,(dg x).n,⟨0,0,n⟩::(dg x).ch⟩}},none)
  else if(V.ly k).k=1 then({L with tk:=upd L.tk t {L.tk t with a:=upd (L.tk t).a k 1}},some (k+1,none))
  else(L,some (k+1,none))
 |some b=>
  if k=0 then(L.end_ t b,none)
  else
   let j:=k-1
   let y:=V.ly j
   if y.k=1 then
    if b.k≠2∨cH b 2=true∨cH b 5=true then(L,some (j,some b))
    else
     let n:=(L.tk t).a j
     if n=y.a then(L.say t j 4 0,some (j,some ⟨2,0,⟨7,j,0⟩::b.ch⟩))
     else
      let p:=aH y n
      let L1:=L.say t j 3 p
      let L2:LS:={L1 with tk:=upd L1.tk t {L1.tk t with a:=upd (L1.tk t).a j (n+1)}}
      if p>0 then(L2.wait t j p,none) else(L2,some (j+1,none))
   else if b.k=3 then(L.say t j 5 b.n,some (j,some (mE 6 j b.n)))
   else(L,some (j,some b))
def cv(ag:Nat→rB):Nat→Int
 |0=>-1
 |i+1=>if(ag i).o=false∧(cv ag i<0∨(ag i).a<(ag (cv ag i).toNat).a) then(i:Int) else cv ag i
theorem tE(ag:Nat→rB):∀i,cv ag i=-1∨∃k:Nat,k<i∧cv ag i=k
 |0=>.inl rfl
 |i+1=>by
  unfold cv
  split
  ·exact .inr ⟨i,by omega,rfl⟩
  ·rcases tE ag i with h|⟨k,h1,h2⟩
   ·exact .inl h
   ·exact .inr ⟨k,by omega,h2⟩
structure vU(V:Ev0):Prop where
 nl:V.nl≤6
 nc:V.nc≤9
 kd:∀k,k<V.nl→(V.ly k).k=1∨(V.ly k).k=2
 rt:∀k,k<V.nl→(V.ly k).k=1→(1≤(V.ly k).a∧(V.ly k).a≤9)∧(0≤(V.ly k).b∧(V.ly k).b≤1000)∧(1≤(V.ly k).c∧(V.ly k).c≤9)∧(0≤(V.ly k).d∧(V.ly k).d≤10000)
 st:∀c,c<V.nc→0≤V.st c∧V.st c≤1000
 nt:∀c,c<V.nc→V.nt c≤12
 tr:∀c,c<V.nc→∀j,j<V.nt c→(1≤(V.tr c j).k∧(V.tr c j).k≤4)∧(0≤(V.tr c j).t∧(V.tr c j).t≤1000)
structure Fc(V:Ev0)(t:Nat)(L:LS):Prop where
 tl:L.tl=V.nc
 tn:t<V.nc
 el:L.el<1000000
 wl:L.wl<1000000
 al:L.al<1000000
 now:0≤L.now∧L.now<1000000000000
 tc:(L.tk t).c=t
 tf:(L.tk t).f=-1
 to:(L.tk t).o=-1
 tx:(L.tk t).x=false
 us:0≤L.us t∧L.us t<1000000
def Ud(b:Bk):Prop:=b.ch.length<1000000∧((b.k=1∧b.ch=[])∨(b.k=2∧b.n=0∧b.ch≠[])∨(b.k=3∧b.ch=[]))
def K3(V:Ev0)(L:LS)(t k:Nat):Prop:=(V.ly k).k=1→1≤(L.tk t).a k∧(L.tk t).a k≤(V.ly k).a
def LS.pop(L:LS)(i:Nat):LS:={L with ag:=upd L.ag i {L.ag i with o:=true},now:=(L.ag i).a}
def LS.iZ(L:LS)(t w:Nat):LS:={L with wt:=upd L.wt w {L.wt w with e:=true},tk:=upd L.tk t {L.tk t with w:=-1}}
def Fin(V:Ev0)(Lf:LS):Nat→Option (Nat×Nat×Option Bk)→LS→Prop
 |0,_,_=>False
 |m+1,some (t,k,ob),L=>Fc V t L∧k≤V.nl∧(∀b,ob=some b→Ud b∧(0<k→K3 V L t (k-1)))∧match L.step V t k ob with
  |(L',none)=>Fin V Lf m none L'
  |(L',some (k',Iq))=>Fin V Lf m (some (t,k',Iq)) L'
 |m+1,none,L=>L.al<1000000∧if cv L.ag L.al<0 then L=Lf else
  let i:=(cv L.ag L.al).toNat
  let e:=L.ag i
  ∃t:Nat,e.t=t∧Fc V t (L.pop i)∧((e.c=0∧Fin V Lf m (some (t,0,none)) (L.pop i))∨
   (e.c=1∧∃w:Nat,e.w=w∧w<L.wl∧(L.wt w).t=t∧(L.wt w).x=false∧(L.wt w).e=false∧
     (((L.wt w).l=V.nl∧(∃y ch,(L.wt w).b.ch=y::ch∧Fin V Lf m (some (t,V.nl,some ⟨(L.wt w).b.k,(L.wt w).b.n,ch⟩)) (((L.pop i).iZ t w).say t (-1) 2 y.n)))∨
      (∃k:Nat,k<V.nl∧(V.ly k).k=1∧(L.wt w).l=k∧Fin V Lf m (some (t,k+1,none)) ((L.pop i).iZ t w)))))
section
open Go.Conc Go.RowKit
def EA(e:rB):List Value:=[i6 e.a,i6 e.t,i6 e.w,i6 e.c,.bool e.o]
def FM(t:Pe):List Value:=[i6 t.c,i6 t.f,i6 t.p,i6 t.o,.bool t.x,.bool t.e,i6 t.w,i6 (t.a 0),i6 (t.a 1),i6 (t.a 2),i6 (t.a 3),i6 (t.a 4),i6 (t.a 5),i6 (t.q 0),i6 (t.q 1),i6 (t.q 2),i6 (t.q 3),i6 (t.q 4),i6 (t.q 5)]
def sI(p:Ii×Value):List Value:=[i6 p.1.t,i6 p.1.l,.bool p.1.x,.bool p.1.e,i6 p.1.b.k,i6 p.1.b.n,p.2]
def zF(p:Qj×Value):List Value:=[i6 p.1.a,i6 p.1.b.k,i6 p.1.b.n,p.2]
def zo(t:Pd):List Value:=[i6 t.a,i6 t.c,i6 t.l,i6 t.w,i6 t.n]
def BU(t:Ff):List Value:=[i6 t.k,i6 t.a,i6 t.b,i6 t.c,i6 t.d,i6 t.e]
theorem BO(e:Pd):∀u∈zo e,u.oneCell'=true:=by intro u hu;simp[zo] at hu;rcases hu with rfl|rfl|rfl|rfl|rfl<;>rfl
def pX(x:iO):List Value:=[i6 x.k,i6 x.l,i6 x.n]
abbrev iL(ca:Addr)(L:List iO):ah:=fR ca 3 (fun j=>pX (L.getD j ⟨0,0,0⟩)) L.length false
def gQ(C:List ah)(h:Value)(L:List iO):Prop:=(h=.slice none 0 0∧L=[])∨∃ca cap i,h=.slice (some ca) L.length cap∧nth C i=some (iL ca L)
abbrev p9(b:Bk)(h:Value):Value:=.agg #[i6 b.k,i6 b.n,h]
end
end Go.Proofs.YtobagnjnbmgidaaGreatDoor
