import Derived.Test.YtobagnjnbmgidaaGreatDoorA6
set_option linter.all false
set_option maxHeartbeats 0
set_option maxRecDepth 100000
namespace Go.Proofs.YtobagnjnbmgidaaGreatDoor
open Go.Conc Go.RowKit Tryz
variable{a l r:Int}{B2 o:Nat}{C:aW}{U cf:aC}{os:p9}{Z:cO}{E:eP}
variable{V:Ev0}{L':LS}{t k c w i el j n m B:Nat}{b:Bk}{vv:Nat->OZ}{e:OZ}{Y:Option Bk}{y:ju}{cur:Option (Nat×Nat×Option Bk)}{f u v:Nat->Int}{x d:Int}{main:Bool}{Q:dh}{W:gi}{Post:qz}{wI:aj}{X sa:eP}
abbrev Gate(q:Int)(e:OZ):Prop:=e.l=0/\(e.w=q\/e.w=7)
def zG(q:Int)(c:Nat)(vv:Nat->OZ):Nat->Nat
 |0=>0
 |i+1=>zG q c vv i+if Gate q (vv i)/\(vv i).c=c then 1 else 0
def Ms(q:Int)(vv:Nat->OZ)(el c:Nat):Prop:=zG q c vv el=0/\∀i,i<el->(vv i).c=c->(vv i).w≠1
def zD(q:Int)(vv:Nat->OZ)(el c:Nat):Prop:=zG q c vv el=1/\∀i,i<el->Gate q (vv i)->(vv i).c=c->(vv i).w=q
def Fj(q:Int)(vv:Nat->OZ)(el c:Nat)(a:Int):Prop:=zG q c vv el=1/\∀i,i<el->(vv i).c=c->(vv i).w≠1/\(Gate q (vv i)->(vv i).w=7/\(vv i).a=a)
def LO(q:Int)(vv:Nat->OZ)(el:Nat):Prop:=∃i,i<el/\(vv i).l=0/\(vv i).w=q
def Fst(q:Int)(vv:Nat->OZ)(el:Nat):Prop:=∀i,i<el->(vv i).l=0->(vv i).w=7->∃j,j<i/\(vv j).l=0/\(vv j).w=q
def NB(b:Bk):Prop:=∀x∈b.ch,x.k=3->x.l≠0
def yE(q:Int)(vv:Nat->OZ)(el c:Nat)(a:Int)(b:Bk):Prop:=(zD q vv el c/\NB b)\/(Fj q vv el c a/\b=c9 3 0 0)
structure v7(V:Ev0)(q:Int)(L:LS)(t:Nat):Prop where
 tl:t<L.tl
 ph:∃c:Nat,(L.tk t).c=c/\zD q L.ev L.el c
 ow:t<V.nc->(L.tk t).w<0/\(L.ag t).o=true/\zD q L.ev L.el t
structure Ah(V:Ev0)(q:Int)(L:LS)(t:Nat):Prop where
 tl:t<V.nc
 w:(L.tk t).w<0
 o:(L.ag t).o=true
 ph:Ms q L.ev L.el t
section
variable{q:Int}{L:LS}
def It{m:Nat}:∀n,n<=m->zG q c (upd vv m e) n=zG q c vv n
 |0,_=>rfl
 |n+1,h=>by
  have a:n≠m:=ω
  simp only[zG,It n (by omega:n<=m),upd,af a]
def zi:zG q c (upd vv el e) (el+1)=zG q c vv el+if Gate q e/\e.c=c then 1 else 0:=by
 simp only[zG,It el (az _),upd,if_true]
def E4:∀n,zG q c vv n≠0->∃i,i<n/\Gate q (vv i)/\(vv i).c=c
 |0,h=>absurd rfl h
 |n+1,h=>by
  have:=E4 n;grind [zG]
def Fi:∀n,zG q c vv n=0->∀i,i<n->Gate q (vv i)->(vv i).c≠c
 |0,h=>λ_ z=>ω
 |n+1,h=>by
  have:=Fi n;grind [zG]
def Ms.say(h:Ms q vv el c)(a:¬Gate q e/\e.w≠1\/e.c≠c):Ms q (upd vv el e) (el+1) c:=by
 unfold Ms at*;rw[zi];grind [upd]
def zD.say(h:zD q vv el c)(a:¬Gate q e\/e.c≠c):zD q (upd vv el e) (el+1) c:=by
 unfold zD at*;rw[zi];grind [upd]
def Fj.say(h:Fj q vv el c a)(b:¬Gate q e/\e.w≠1\/e.c≠c):Fj q (upd vv el e) (el+1) c a:=by
 unfold Fj at*;rw[zi];grind [upd]
def LO.say(h:LO q vv el):LO q (upd vv el e) (el+1):=by
 let⟨i,_,a⟩:=h;have:upd vv el e i=vv i:=by grind [upd]
 exact⟨i,ω,by rwa[this]⟩
def Fst.say(h:Fst q vv el)(a:e.l=0->e.w=7->LO q vv el):Fst q (upd vv el e) (el+1):=λi b=>by
 have u:∀j,j<el->upd vv el e j=vv j:=by grind [upd]
 have b:upd vv el e el=e:=by grind [upd]
 have:=h i;unfold LO at a;intro b b;have:∃j,j<i/\j<el/\(vv j).l=0/\(vv j).w=q:=χ
 let⟨j,y⟩:=this;exact⟨j,y.1,by rw[u j y.2.1];exact y.2.2⟩
def Ms.n1(h:Ms q vv el c)(a:zD q vv el c):False:=by rw[Ms,a.1]at h;cases h.1
def Ms.n2(h:Ms q vv el c)(b:Fj q vv el c a):False:=by rw[Ms,b.1]at h;cases h.1
def zD.Hg(h:zD q vv el c):LO q vv el:=by
 have:=E4 (q:=q) (c:=c) (vv:=vv) el;unfold LO;grind [zD]
def zD.n2(h:zD q vv el c)(b:q≠7)(b:Fj q vv el c a):False:=by
 have:=E4 (q:=q) (c:=c) (vv:=vv) el;grind [zD,Fj]
def NB.nil{y:Int}:NB ⟨x,y,[]⟩:=nofun
def NB.err{n:Int}(h:x=3->l≠0):NB (c9 x l n):=by
 unfold NB c9;grind
def v7.Hg(h:v7 V q L t):LO q L.ev L.el:=by
 let⟨c,_,a⟩:=h.ph;exact a.Hg
end
def Cu(V:Ev0)(q:Int)(L:LS)(t k:Nat)(Y:Option Bk):Prop:=t<L.tl/\(∀b,Y=some b->0<k->NB b)/\(t<V.nc->(L.tk t).w<0/\(L.ag t).o=true/\(0<k->zD q L.ev L.el t)/\(k=0->(Y=none->Ms q L.ev L.el t)/\∀b,Y=some b->yE q L.ev L.el t L.now b))
section
variable{q:Int}{L:LS}
def aal(x:Lm):NB (cN x):=by
 unfold cN NB c9;grind
def Xb.and{J l:Option (Nat×Nat×Option Bk)->LS->Prop}{p:Prop}(h:Xb V J)(j:p->Xb V l):Xb V λc L=>J c L/\(p->l c L) where
 step:=λt k Y L a b c d e=>⟨h.step t k Y L a.1 b c d e,λz=>(j z).step t k Y L (a.2 z) b c d e⟩
 start:=λi t L a b c d e=>⟨h.start i t L a.1 b c d e,λz=>(j z).start i t L (a.2 z) b c d e⟩
 late:=λi w L a b c d e=>⟨h.late i w L a.1 b c d e,λz=>(j z).late i w L (a.2 z) b c d e⟩
 JB:=λi t w L k Y L' a b c d e f g p o n m l=>⟨h.JB i t w L k Y L' a.1 b c d e f g p o n m l,λz=>(j z).JB i t w L k Y L' (a.2 z) b c d e f g p o n m l⟩
end
structure JD(V:Ev0)(L:LS):Prop where
 nc:V.nc<=L.tl/\V.nc<=L.al
 tk:∀t:Nat,t<L.tl->(t<V.nc->(L.tk t).c=t/\(L.tk t).p=0/\(L.tk t).x=false)/\((L.tk t).p=0->t<V.nc)/\(V.nc<=t->∀c:Nat,(L.tk t).c=c->zD 13 L.ev L.el c)
 o:∀t:Nat,t<L.tl->∀w:Nat,(L.tk t).o=w->w<L.wl/\(L.wt w).t=t
 ag:∀i,i<L.al->(L.ag i).c=0->∀t:Nat,(L.ag i).t=t->t<V.nc->i=t
 fr:∀c,c<V.nc->(L.ag c).o=false->Ms 13 L.ev L.el c/\(L.tk c).w<0
 wt:∀w,w<L.wl->NB (L.wt w).b/\∀u:Nat,(L.wt w).t=u->(L.wt w).e=false->(V.nc<=u->(L.wt w).l≠0)/\(u<V.nc->(L.tk u).w=w/\((L.wt w).l≠0/\zD 13 L.ev L.el u\/(L.wt w).l=0/\Ms 13 L.ev L.el u/\LO 13 L.ev L.el/\((L.wt w).x=true->(L.wt w).z=2)))
 en:∀c,c<V.nc->(L.tk c).e=true->yE 13 L.ev L.el c (L.ou c).a (L.ou c).b
 fs:Fst 13 L.ev L.el
abbrev DI(V:Ev0)(L:LS)(t:Nat):Prop:=JD V L/\v7 V 13 L t
section
variable{L:LS}
def JD.sy{n:Int}(h:JD V L)(g:¬(l=0/\(r=13\/r=7)))(j:r=1->∃c:Nat,(L.tk t).c=c/\zD 13 L.ev L.el c):JD V (L.say t l r n)/\(∀d,Ms 13 L.ev L.el d->Ms 13 (L.say t l r n).ev (L.say t l r n).el d)/\∀d,zD 13 L.ev L.el d->zD 13 (L.say t l r n).ev (L.say t l r n).el d:=by
 have f:¬Gate 13 ⟨L.now,(L.tk t).c,l,r,n⟩:=g;have m:∀d,Ms 13 L.ev L.el d->Ms 13 (upd L.ev L.el ⟨L.now,(L.tk t).c,l,r,n⟩) (L.el+1) d:=λd z=>z.say (by
  by_cases e:r=1
  .let⟨c,o,g⟩:=j e;exact .inr λy=>z.n1 ((show c=d by have:(L.tk t).c=d:=y;omega)▸g)
  .exact .inl ⟨f,e⟩)
 have i:∀d,zD 13 L.ev L.el d->zD 13 (upd L.ev L.el ⟨L.now,(L.tk t).c,l,r,n⟩) (L.el+1) d:=λd z=>z.say (.inl f);have k:∀d a,Fj 13 L.ev L.el d a->Fj 13 (upd L.ev L.el ⟨L.now,(L.tk t).c,l,r,n⟩) (L.el+1) d a:=λd a z=>z.say (by
  by_cases e:r=1
  .let⟨c,o,g⟩:=j e;exact .inr λy=>zD.n2 ((show c=d by have:(L.tk t).c=d:=y;omega)▸g) δ z
  .exact .inl ⟨f,e⟩)
 have c:∀d a b,yE 13 L.ev L.el d a b->yE 13 (upd L.ev L.el ⟨L.now,(L.tk t).c,l,r,n⟩) (L.el+1) d a b:=λd a b z=>z.imp (λy=>⟨i _ y.1,y.2⟩) λy=>⟨k _ _ y.1,y.2⟩
 have a:=LO.say (q:=13) (vv:=L.ev) (el:=L.el) (e:=⟨L.now,(L.tk t).c,l,r,n⟩);refine⟨?_,m,i⟩;let⟨_,_,a,_,_,c,_,b⟩:=h;refine⟨‹_›,by simp only[LS.say];grind,a,‹_›,by simp only[LS.say];grind,λw a=>?_,by simp only[LS.say];grind,b.say χ⟩;have:=c w a;simp only[LS.say];grind
def DI.s{n:Int}(h:DI V L t)(g:¬(l=0/\(r=13\/r=7))):DI V (L.say t l r n) t:=by
 let⟨i,f,⟨c,a,d⟩,b⟩:=h;let⟨h,_,e⟩:=JD.sy (t:=t) (n:=n) i g λ_=>⟨c,a,d⟩
 exact⟨h,f,⟨c,a,e c d⟩,λz=>⟨(b z).1,(b z).2.1,e t (b z).2.2⟩⟩
def JD.aO{g:Gt}(h:JD V L):JD V (L.aO k g):=⟨h.nc,h.tk,h.o,h.ag,h.fr,h.wt,h.en,h.fs⟩
def DI.aO{g:Gt}(h:DI V L t):DI V (L.aO k g) t:=⟨h.1.aO,h.2.tl,h.2.ph,h.2.ow⟩
def JD.ZY{x:Ot}{a:Nat}(h:JD V L)(b:x.c=(L.tk a).c/\x.p=(L.tk a).p/\x.e=(L.tk a).e/\x.w=(L.tk a).w/\x.o=(L.tk a).o)(b:x.x=(L.tk a).x\/V.nc<=a):JD V {L with tk:=upd L.tk a x}:=by
 cases h;constructor<;>simp only[upd]<;>grind
def DI.ZY{x:Ot}{a:Nat}(h:DI V L t)(b:x.c=(L.tk a).c/\x.p=(L.tk a).p/\x.e=(L.tk a).e/\x.w=(L.tk a).w/\x.o=(L.tk a).o)(d:x.x=(L.tk a).x\/V.nc<=a):DI V {L with tk:=upd L.tk a x} t:=by
 let⟨h,e,⟨c,_,a⟩,_⟩:=h;exact⟨h.ZY b d,e,⟨c,by simp only[upd];grind,a⟩,by simp only[upd];grind⟩
def JD.pop(h:JD V L):JD V (L.pop i):=by
 cases h;constructor<;>simp only[LS.pop,upd]<;>grind
def JD.fix{z:Int}(h:JD V L)(a:z=2\/z=3/\∀u:Nat,(L.wt w).t=u->V.nc<=u)(a:NB b):JD V (L.fix w z b):=by
 cases h;constructor<;>simp only[LS.fix,LS.put,upd]<;>grind
def JD.qA{z:Int}(h:JD V L)(a:z=2)(c:NB b):JD V (L.qA w z b):=by
 unfold LS.qA;split
 .exact h.fix (.inl a) c
 .exact h
def DI.fix{z:Int}(h:DI V L t)(a:z=2\/z=3/\∀u:Nat,(L.wt w).t=u->V.nc<=u)(c:NB b):DI V (L.fix w z b) t:=⟨h.1.fix a c,h.2.tl,h.2.ph,λy=>by
 have:=h.1.nc;have:=h.2.ow y;simp only[LS.fix,LS.put,upd];grind⟩
def DI.AG:∀(a:aN)(L:LS),(∀j∈a,j<L.tl/\V.nc<=j)->DI V L t->DI V (a.foldl LS.jv L) t
 |[],L,_,h=>h
 |j::a,L,b,h=>by
  have c:=h.1.o j;have d:=b j (bI ..);have:DI V (L.jv j) t/\(L.jv j).tl=L.tl:=by
   unfold LS.jv LS.qA;split
   .exact⟨h,rfl⟩
   .split
    .refine⟨h.fix (.inr ⟨rfl,λu e=>?_⟩) NB.nil,rfl⟩;have:=(c d.1 (L.tk j).o.toNat ω).2;omega
    .exact⟨h,rfl⟩
  exact DI.AG a (L.jv j) (λi a=>by rw[this.2];exact b i (aP _ a)) this.1
def DI.Aj:∀(a:aN)(L:LS),(∀j∈a,j<L.tl/\V.nc<=j)->DI V L t->DI V (a.foldl LS.iC L) t/\(a.foldl LS.iC L).tl=L.tl
 |[],L,_,h=>⟨h,rfl⟩
 |j::a,L,b,h=>by
  have:DI V (L.iC j) t/\(L.iC j).tl=L.tl:=by
   unfold LS.iC;split
   .exact⟨h,rfl⟩
   .exact⟨h.ZY τ (.inr (b j (bI ..)).2),rfl⟩
  have c:=DI.Aj a (L.iC j) (λi a=>by rw[this.2];exact b i (aP _ a)) this.1;exact⟨c.1,c.2.trans this.2⟩
def JD.wait{l d:Int}{a:Bool}(h:JD V L)(b:t<L.tl)(b:V.nc<=t->l≠0)(b:t<V.nc->(L.tk t).w<0/\(L.ag t).o=true/\(l≠0/\zD 13 L.ev L.el t\/l=0/\Ms 13 L.ev L.el t/\LO 13 L.ev L.el)):JD V (L.wait t l d a):=by
 have:=NB.nil (x:=0) (y:=0);let⟨_,_,c,_,_,_,a,b⟩:=h;refine⟨by simp only[LS.wait,LS.cB,LS.put];omega,by simp only[LS.wait,LS.cB,LS.put,upd];grind,λu a=>?_,by simp only[LS.wait,LS.cB,LS.put,upd];grind,by simp only[LS.wait,LS.cB,LS.put,upd];grind,λx d=>?_,by simp only[LS.wait,LS.cB,LS.put,upd];grind,b⟩
 .have:=c u a;simp only[LS.wait,LS.cB,LS.put,upd];grind
 .simp only[LS.wait,LS.cB,LS.put,upd]at*;by_cases e:x=L.wl<;>simp_all<;>grind
def JD.nH(h:JD V L)(a:(L.tk t).c=c)(a:zD 13 L.ev L.el c):JD V (L.begin t w k):=by
 cases h;constructor<;>simp only[LS.begin,LS.put,upd]<;>grind [Int.natCast_inj]
def JD.bV(h:JD V L)(b:w<L.wl)(a:(L.wt w).t=t)(a:(L.wt w).e=false):JD V (L.bV t w)/\(V.nc<=t->(L.wt w).l≠0)/\(t<V.nc->(L.ag t).o=true/\((L.wt w).l≠0/\zD 13 L.ev L.el t\/(L.wt w).l=0/\Ms 13 L.ev L.el t/\LO 13 L.ev L.el/\((L.wt w).x=true->(L.wt w).z=2))):=by
 refine⟨?_,?_⟩
 .cases h;constructor<;>simp only[LS.bV,upd]<;>grind
 .have:=h.fr t;have:=h.wt w b;grind
def JD.tH(h:JD V L)(a:NB b):JD V {L with wt:=upd L.wt w {L.wt w with b:=b}}:=by
 cases h;constructor<;>simp only[upd]<;>grind
def JD.out(h:JD V L)(a:yE 13 L.ev L.el t L.now b):JD V (LS.done {L with ou:=upd L.ou t ⟨L.now,b⟩} t):=by
 cases h;constructor<;>simp only[LS.done,upd]<;>grind
def JD.done(h:JD V L)(a:¬t<V.nc):JD V (L.done t):=by
 cases h;constructor<;>simp only[LS.done,upd]<;>grind
def Ms.aaT(h:Ms 13 vv el c)(a:e.l=0)(a:e.c=c)(a:e.w=13):zD 13 (upd vv el e) (el+1) c:=by
 have no:=Fi (q:=13) (c:=c) (vv:=vv) el h.1;unfold zD;rw[zi,h.1];grind [upd]
def Ms.aaO(h:Ms 13 vv el c)(a:e.l=0)(a:e.c=c)(a:e.w=7):Fj 13 (upd vv el e) (el+1) c e.a:=by
 have no:=Fi (q:=13) (c:=c) (vv:=vv) el h.1;have a:=h.2;unfold Fj;rw[zi,h.1];grind [upd]
def JD.gate(h:JD V L)(A:Ah V 13 L t)(c:r=13\/r=7/\LO 13 L.ev L.el):JD V (L.say t 0 r 0)/\(r=13->zD 13 (L.say t 0 r 0).ev (L.say t 0 r 0).el t)/\(r=7->Fj 13 (L.say t 0 r 0).ev (L.say t 0 r 0).el t L.now):=by
 let⟨g,_,c,f⟩:=A;let⟨_,c,m,_,_,l,_,k⟩:=h;have d:=(c t ω).1 g;have j:∀c,c≠t->Ms 13 L.ev L.el c->Ms 13 (upd L.ev L.el ⟨L.now,(L.tk t).c,0,r,0⟩) (L.el+1) c:=λc g z=>z.say (.inr (by simp only;omega));have i:∀c,c≠t->zD 13 L.ev L.el c->zD 13 (upd L.ev L.el ⟨L.now,(L.tk t).c,0,r,0⟩) (L.el+1) c:=λc g z=>z.say (.inr (by simp only;omega));have h:∀c a,c≠t->Fj 13 L.ev L.el c a->Fj 13 (upd L.ev L.el ⟨L.now,(L.tk t).c,0,r,0⟩) (L.el+1) c a:=λc a g z=>z.say (.inr (by simp only;omega));have g:=LO.say (q:=13) (vv:=L.ev) (el:=L.el) (e:=⟨L.now,(L.tk t).c,0,r,0⟩);have g:=f.n1;have g:=λa=>f.n2 (a:=a);have g:∀c a b,yE 13 L.ev L.el c a b->yE 13 (upd L.ev L.el ⟨L.now,(L.tk t).c,0,r,0⟩) (L.el+1) c a b:=λc a b z=>by
  have:=i c;have:=h c a;unfold yE at*;by_cases e:c=t
  .subst e;grind
  .grind
 refine⟨?_,λz=>?_,λz=>?_⟩
 .refine⟨‹_›,by simp only[LS.say];grind,m,‹_›,by simp only[LS.say];grind,λw a=>?_,by simp only[LS.say];grind,k.say χ⟩;have:=l w a;refine⟨this.1,λu a b=>⟨(this.2 u a b).1,λg=>?_⟩⟩;have c:=(this.2 u a b).2 g;have e:u≠t:=λe=>by subst e;omega
  have:=j u e;have:=i u e;simp only[LS.say];grind
 .exact f.aaT rfl d.1 z
 .exact f.aaO (e:=⟨L.now,(L.tk t).c,0,r,0⟩) rfl d.1 z
end
def JM(V:Ev0)(cur:Option (Nat×Nat×Option Bk))(L:LS):Prop:=JD V L/\(0<(L.gt 0).tn->LO 13 L.ev L.el)/\∀t k Y,cur=some (t,k,Y)->Cu V 13 L t k Y
section
variable{L:LS}
def Cu.inD(h:JD V L)(C:Cu V 13 L t k Y)(f:mC V L t)(e:0<k):DI V L t:=by
 let⟨a,_,g⟩:=C;let⟨c,b,_⟩:=f.c;have d:=h.tk t a;refine⟨h,a,⟨c,b,?_⟩,χ⟩;by_cases z:t<V.nc
 .have:c=t:=ω
  subst this;exact(g z).2.2.1 e
 .exact d.2.2 ω c b
def JM.go(h:DI V L t)(a:∀b,Y=some b->NB b)(c:k=0->Y≠none):JM V (some (t,k,Y)) L:=by
 refine⟨h.1,λ_=>h.2.Hg,λ_ _ _ e=>?_⟩;cases e;have:=h.2.ow;exact⟨h.2.tl,λb z _=>a b z,by unfold yE;grind⟩
def JM.ou(h:DI V L t)(a:NB b):JM V (some (t,k,some b)) L:=JM.go h (λ_ e=>by cases e;exact a) nofun
def JM.err{x:Int}(h:DI V L t)(a:0<k):JM V (some (t,k,some (c9 x k 0))) L:=JM.ou h (NB.err λ_=>ω)
def JM.E3(h:DI V L t):JM V (some (t,k+1,none)) L:=JM.go h nofun (λz=>ω)
def JM.non(h:JD V L)(g:LO 13 L.ev L.el):JM V none L:=⟨h,λ_=>g,nofun⟩
def JM.aaA(h:JD V L)(A:Ah V 13 L t):JM V (some (t,0+1,none)) (L.say t 0 13 0):=by
 let⟨c,a,_⟩:=h.gate A (r:=13) (.inl rfl);refine⟨c,λ_=>(a rfl).Hg,λ_ _ _ e=>?_⟩;cases e;exact⟨ga A.tl c.nc.1,nofun,λ_=>⟨A.w,A.o,λ_=>a rfl,nofun⟩⟩
def JM.ref(h:JD V L)(A:Ah V 13 L t)(a:LO 13 L.ev L.el):JM V (some (t,0,some (c9 3 0 0))) (L.say t 0 7 0):=by
 let⟨c,_,d⟩:=h.gate A (r:=7) (.inr ⟨rfl,a⟩);refine⟨c,λ_=>a.say,λ_ _ _ e=>?_⟩;cases e;exact⟨ga A.tl c.nc.1,λb _ z=>ω,λ_=>⟨A.w,A.o,λz=>ω,λ_=>⟨nofun,λb e=>by cases e;exact .inr ⟨d rfl,rfl⟩⟩⟩⟩
def JU(V:Ev0)(t:Nat)(r:LS×Option (Nat×Option Bk)):Prop:=JM V (r.2.map λq=>(t,q.1,q.2)) r.1
def DI.aM(h:DI V L t):DI V (L.aM t k) t:=by
 unfold LS.aM;split
 .exact h.aO.s ω
 .exact h
def DI.cz(h:DI V L t):DI V (L.cz k) t:=by
 unfold LS.cz;split
 .exact h.aO
 .exact h
def DI.mark(h:DI V L t):DI V (L.mark t k) t:=h.ZY τ (.inl rfl)
def DI.count(h:DI V L t):DI V (L.count y t j b) t:=by
 unfold LS.count;dsimp only
 repeat' split
 all_goals first|exact h|exact h.aO|exact h.aO.s ω
def DI.wait{l d:Int}{b:Bool}(h:DI V L t)(a:l≠0):JM V none (L.wait t l d b):=JM.non (h.1.wait h.2.tl (λ_=>a) λz=>⟨(h.2.ow z).1,(h.2.ow z).2.1,.inl ⟨a,(h.2.ow z).2.2⟩⟩) h.2.Hg
def aac(h:DI V L t)(a:0<k):JU V t (L.pass y t k):=by
 unfold LS.pass;split
 .exact JM.err (h.s ω) a
 .split
  .exact JM.err (h.aM.s ω) a
  .exact JM.E3 (h.aM.cz.mark.s ω)
def PM(h:DI V L t)(a:0<k):JU V t (L.jg y t k):=by
 unfold LS.jg;split
 .exact JM.err (h.s ω) a
 .exact JM.E3 (h.aO.s ω)
def aaa(h:DI V L t)(b:0<k):JU V t (L.take y t k):=by
 have a:DI V (L.say t k 12 0) t:=h.s ω;unfold LS.take;split
 .exact JM.E3 (h.aO.s ω)
 .split
  .exact JM.err (h.s ω) b
  .split
   .exact JM.err (a.s ω) b
   .exact a.wait ω
def Pn(h:JM V cur L)(A:Ah V 13 L t)(e:1<=y.a):JU V t (L.take y t 0):=by
 have b:=h.1.tk t (ga A.tl h.1.nc.1);unfold LS.take;split
 .exact JM.aaA h.1.aO ⟨A.tl,A.w,A.o,A.ph⟩
 .have a:=h.2.1 ω;split
  .exact JM.ref h.1 A a
  .split
   .rename_i z;rw[(b.1 A.tl).2.2]at z;cases z
   .let⟨d,c,_⟩:=JD.sy (t:=t) (l:=((0:Nat):Int)) (r:=12) (n:=0) h.1 ω ω;exact JM.non (d.wait (ga A.tl h.1.nc.1) (λz=>absurd A.tl ω) λ_=>⟨A.w,A.o,.inr ⟨rfl,c t A.ph,a.say⟩⟩) a.say
def Pz(h:DI V L t)(a:0<k):JU V t (L.uX y t k):=by
 unfold LS.uX;split
 .exact JM.err (h.s ω) a
 .let⟨c,b,a⟩:=h.2.ph;exact JM.non (JD.nH (h.wait ω).1 (c:=c) (by simp[LS.wait,LS.cB,LS.put,upd,b]) a) a.Hg
def aae(h:DI V L t)(b:0<V.nl):JU V t (L.step V t V.nl none):=by
 unfold LS.step;simp only[if_true];have G:∀u n,DI V (LS.say {L with us:=u} t (-1) 1 n) t:=λu n=>DI.s (L:={L with us:=u}) ⟨⟨h.1.nc,h.1.tk,h.1.o,h.1.ag,h.1.fr,h.1.wt,h.1.en,h.1.fs⟩,h.2.tl,h.2.ph,h.2.ow⟩ ω;split
 .exact JM.ou ((G _ _).s ω) (aal _)
 .refine JM.non (JD.tH ((G _ _).wait ω).1 λx b a=>?_) (G (upd L.us (L.tk t).c.toNat (L.us (L.tk t).c.toNat+1)) (L.us (L.tk t).c.toNat)).2.Hg;rcases ak.1 b with z|z
  .subst z;cases a
  .exact aal _ x z a
def aaq(h:JM V cur L)(C:Cu V 13 L t (L.tk t).p (some b)):JM V none (L.end_ t b):=by
 let⟨i,g,f⟩:=C;let⟨d,j,k⟩:=h.1.tk t i;unfold LS.end_;split
 .rename_i a;have c:=j a;rw[(d c).1,mY];exact⟨h.1.out (((f c).2.2.2 a).2 b rfl),h.2.1,nofun⟩
 .rename_i a;refine⟨JD.done (h.1.qA rfl (g b rfl ω)) λz=>a (d z).2.1,?_,nofun⟩;unfold LS.qA;split<;>exact h.2.1
def aad(h:DI V L t)(a:NB b):JU V t (L.fC t j,some (j,some b)):=by
 have G:DI V (L.say t j 14 0) t:=h.s ω;unfold LS.fC;split
 .exact JM.ou (G.fix (.inl rfl) NB.nil) a
 .exact JM.ou G.aO a
def aab(m:wM V)(H:0<V.nl/\(V.ly 0).k=5)(h:JM V (some (t,k,Y)) L)(n:∀u,u<L.tl->mC V L u)(s:k<=V.nl)(r:(L.tk t).p<=k):JU V t (L.step V t k Y):=by
 have C:=h.2.2 t k Y rfl;let⟨g,d⟩:=H;have c:=Cu.inD h.1 C (n t C.1);cases Y with
 |none=>
  by_cases e:k=V.nl
  .subst e;exact aae (c g) g
  .by_cases o:k=0
   .subst o;have i:=(h.1.tk t C.1).2.1 ω;let⟨q,p,_,c3⟩:=C.2.2 i;unfold LS.step;simp only[af e];rw[af ω,af ω,af ω,sJ d];exact Pn h ⟨i,q,p,(c3 rfl).1 rfl⟩ (m.ro 0 g d).1.1
   .have a:0<k:=ω
    have I:=c a;unfold LS.step;simp only[af e]
    repeat' split
    .exact JM.E3 (I.ZY τ (.inl rfl))
    .exact PM I a
    .exact aac I a
    .exact aaa I a
    .exact Pz I a
    .exact JM.E3 I
 |some b=>
  unfold LS.step;dsimp only;split
  .rename_i e;subst e;exact aaq h C
  .obtain⟨j,rfl⟩:∃j,k=j+1:=⟨k-1,ω⟩
   have I:=c (Nat.succ_pos _);have f:=C.2.1 b rfl (Nat.succ_pos _);rw[eM];split
   .have l:0<j:=Nat.pos_of_ne_zero λe=>by subst e;omega
    split
    .exact JM.ou I f
    .split
     .exact JM.ou (I.s ω) (by unfold NB at*;grind)
     .have G:DI V {L.say t j 3 (aI (V.ly j) ((L.tk t).a j))with tk:=upd (L.say t j 3 (aI (V.ly j) ((L.tk t).a j))).tk t {(L.say t j 3 (aI (V.ly j) ((L.tk t).a j))).tk t with a:=upd ((L.say t j 3 (aI (V.ly j) ((L.tk t).a j))).tk t).a j ((L.tk t).a j+1)}} t:=(I.s ω).ZY ⟨rfl,rfl,rfl,rfl,rfl⟩ (.inl rfl);split
      .exact JM.err (G.s ω) l
      .split
       .exact G.wait ω
       .exact JM.E3 G
   .repeat' split
    .exact JM.ou I.count f
    .exact aad I f
    .exact JM.ou (I.s ω) (NB.err nofun)
    .exact JM.ou I f
def aaC(N:wM V)(H:0<V.nl/\(V.ly 0).k=5):Xb V (JM V) where
 step:=λt k Y L h _ B K E=>aab N H h B K E
 start:=λi t L h l F j A=>by
  refine⟨h.1.pop,h.2.1,λ_ _ _ e=>?_⟩;cases e;let⟨E,H⟩:=qI _ _ _ F;have:=h.1.ag i E A t j;have:=h.1.fr i;have:=h.1.tk i;refine⟨l,nofun,?_⟩;simp only[LS.pop,upd];grind
 late:=λi w L h _ _ _ _=>⟨h.1.pop,h.2.1,nofun⟩
 JB:=λi t w L k Y L' h B l E A F j b j F S O=>by
  let⟨n,b,own⟩:=JD.bV (L:=L.pop i) (t:=t) (w:=w) h.1.pop E j F;have m:=(n.wt w E).1;let⟨c,h,_⟩:=(B t l).c;have G:(((L.pop i).bV t w).tk t).c=c:=by simp[LS.bV,LS.pop,upd,h]
  have C:=n.tk t l;have h:(((L.pop i).bV t w).wt w).l=(L.wt w).l:=by simp[LS.bV,LS.pop,upd]
  have h:(((L.pop i).bV t w).tk t).w<0:=by simp[LS.bV,upd]
  have d:V.nc<=t->(L.wt w).l≠0:=b;have a:t<V.nc->(L.wt w).l=0->Ah V 13 ((L.pop i).bV t w) t/\LO 13 ((L.pop i).bV t w).ev ((L.pop i).bV t w).el/\(L.ag i).c≠3:=λz f=>by
   let⟨g,r⟩:=own z;have b:(L.wt w).l≠0/\zD 13 L.ev L.el t\/(L.wt w).l=0/\Ms 13 L.ev L.el t/\LO 13 L.ev L.el/\((L.wt w).x=true->(L.wt w).z=2):=r;rcases b with y|y
   .exact absurd f y.1
   .exact⟨⟨z,h,g,y.2.1⟩,y.2.2.1,λj=>by rcases A with j|⟨_,j,A⟩;omega;have:=y.2.2.2 j;omega⟩
  have I:(t<V.nc->(L.wt w).l≠0)->DI V ((L.pop i).bV t w) t:=λf=>by
   have D:t<V.nc->(((L.pop i).bV t w).tk t).w<0/\(((L.pop i).bV t w).ag t).o=true/\zD 13 L.ev L.el t:=λz=>by
    let⟨g,r⟩:=own z;have b:(L.wt w).l≠0/\zD 13 L.ev L.el t\/(L.wt w).l=0/\Ms 13 L.ev L.el t/\LO 13 L.ev L.el/\((L.wt w).x=true->(L.wt w).z=2):=r;rcases b with y|y
    .exact⟨h,g,y.2⟩
    .exact absurd y.1 (f z)
   exact⟨n,l,⟨c,G,by
    by_cases z:t<V.nc
    .have:c=t:=ω
     subst this;exact(D z).2.2
    .exact C.2.2 ω c G⟩,D⟩
  have b:((L.pop i).bV t w).tl=L.tl:=rfl;have kd:∀k:Nat,(V.ly k).k=1\/(V.ly k).k=6->0<k:=λk z=>Nat.pos_of_ne_zero λe=>by subst e;omega
  generalize (L.pop i).bV t w=M at*;rcases O with ⟨_,r,y,ch,J,rfl,rfl,rfl⟩|⟨v,ok,ol,⟨q,b,rfl,rfl,rfl⟩|⟨_,g,rfl,rfl,rfl⟩|⟨b,q,rfl,rfl,rfl⟩|⟨b,q,rfl,rfl,rfl⟩|⟨u,_,rfl,rfl,p,of,rfl⟩|⟨u,q,rfl,rfl,rfl⟩⟩
  .exact JM.ou ((I λ_=>ω).s ω) λx b=>m x (by rw[J];exact aP _ b)
  .refine JM.ou ((I λz f=>(a z f).2.2 q).s ω) (NB.err nofun)
  .have:=kd v (.inl g);exact JM.E3 (I λ_=>ω)
  .by_cases z:t<V.nc/\k=0
   .obtain⟨z,rfl⟩:=z;let⟨o,s,_⟩:=a z ω;exact JM.ref n o s
   .have:0<k:=by have:=d;omega
    exact JM.err ((I λy=>ω).s ω) this
  .by_cases z:t<V.nc/\v=0
   .obtain⟨z,rfl⟩:=z;let⟨o,s,_⟩:=a z ω;exact JM.aaA n o
   .have:0<v:=by have:=d;omega
    exact JM.E3 ((I λy=>ω).s ω)
  .have:=kd k (.inr u);let⟨o,s⟩:=DI.Aj p (M.say t k 15 0) of ((I λ_=>ω).s ω);exact JM.err (DI.AG p _ (by rw[s];exact of) o) this
  .have:=kd k (.inr u);exact JM.ou (I λ_=>ω) m
def aaV(V:Ev0):JM V none (ko V):=by
 refine⟨?_,nofun,nofun⟩;constructor<;>simp only[ko,Ms,Fst]<;>grind [zG]
end
def kR(f:Nat->Int):Nat->Int
 |0=>0
 |n+1=>kR f n+f n
def Eu(k:Int)(e:OZ):Int:=if e.l=k then(if e.w=13 then 1 else if e.w=14 then -1 else 0)else 0
def Fv(k:Int)(vv:Nat->OZ):Nat->Int
 |0=>0
 |i+1=>Fv k vv i+Eu k (vv i)
def Bu(L:LS)(k w:Nat):Int:=if(L.wt w).e=false/\(L.tk (L.wt w).t.toNat).p<=k/\(k:Int)<(L.wt w).l then 1 else 0
def tv(L:LS)(k w:Nat):Int:=if(L.wt w).e=false/\(L.wt w).l=k/\(L.wt w).x=true/\(L.wt w).z=2 then 1 else 0
def Cf(L:LS)(t k' k:Nat):Int:=if(L.tk t).p<=k/\k<k' then 1 else 0
def RmK(V:Ev0)(L:LS)(k:Nat)(c:Int):Prop:=Fv k L.ev L.el=kR (Bu L k) L.wl+c/\(L.gt k).tn=Fv k L.ev L.el+kR (tv L k) L.wl/\(L.gt k).tn<=(V.ly k).a/\∀i,i<=L.el->0<=Fv k L.ev i/\Fv k L.ev i<=(V.ly k).a
def Rm(V:Ev0)(L:LS)(c:Nat->Int):Prop:=∀k,k<V.nl->(V.ly k).k=5->RmK V L k (c k)
structure Sk(L:LS):Prop where
 wt:∀w,w<L.wl->0<=(L.wt w).t/\(L.wt w).t<L.tl/\∀u:Nat,(L.wt w).t=u->(L.wt w).e=false->(L.tk u).w=w/\(L.tk u).e=false
 ag:∀i,i<L.al->(L.ag i).c=0->0<=(L.ag i).t/\(L.ag i).t<L.tl/\∀u:Nat,(L.ag i).t=u->(L.ag i).o=false->(L.tk u).w<0/\(L.tk u).e=false
 un:∀i j,i<L.al->j<L.al->(L.ag i).c=0->(L.ag j).c=0->(L.ag i).t=(L.ag j).t->i=j
def Spl(L:LS):Prop:=∀w,w<L.wl->∀u:Nat,(L.wt w).t=u->(L.wt w).e=false->((L.tk u).p:Int)<=(L.wt w).l
structure Sc(L:LS)(t:Nat):Prop where
 tl:t<L.tl
 w:(L.tk t).w<0
 e:(L.tk t).e=false
 ag:∀i,i<L.al->(L.ag i).c=0->(L.ag i).t=t->(L.ag i).o=true
section
variable{L:LS}{g:Nat->Int}
def uw:∀n,(∀w,w<n->f w=g w)->kR f n=kR g n
 |0,_=>rfl
 |n+1,h=>by simp only[kR,uw n λw a=>h w ω,h n ω]
def GQ:∀n,w<n->(∀j,j<n->j≠w->f j=g j)->kR f n=kR g n-g w+f w
 |0,h,_=>ω
 |n+1,h,a=>by
  simp only[kR];by_cases e:w=n
  .subst e;rw[uw w λj b=>a j ω ω];omega
  .rw[GQ n ω λj b=>a j ω,a n ω ω];omega
def JI:∀n,(∀w,w<n->0<=f w)->0<=kR f n
 |0,_=>Int.le_refl _
 |n+1,h=>by have:=JI n λw a=>h w ω;have:=h n ω;simp only[kR];omega
def Iv:∀n,n<=el->Fv x (upd vv el e) n=Fv x vv n
 |0,_=>rfl
 |n+1,h=>by
  have a:n≠el:=ω
  simp only[Fv,Iv n (by omega:n<=el),upd,af a]
def aaD:0<=kR (Bu L k) n:=JI n λw _=>by unfold Bu;split<;>decide
def aaG:0<=kR (tv L k) n:=JI n λw _=>by unfold tv;split<;>decide
def RmK.say(h:RmK V L k x)(a:L'.ev=upd L.ev L.el e/\L'.el=L.el+1)(b:kR (Bu L' k) L'.wl+d=kR (Bu L k) L.wl+x+Eu k e)(b:(L'.gt k).tn-kR (tv L' k) L'.wl=(L.gt k).tn-kR (tv L k) L.wl+Eu k e)(b:(L'.gt k).tn<=(V.ly k).a)(f:0<=d):RmK V L' k d:=by
 let⟨_,_,d,c⟩:=h;have d:=aaD (L:=L') (k:=k) (n:=L'.wl);have d:=aaG (L:=L') (k:=k) (n:=L'.wl);have d:Fv k L'.ev L'.el=Fv k L.ev L.el+Eu k e:=by
  rw[a.1,a.2];simp only[Fv,Iv L.el (az _),upd,if_true]
 refine⟨ω,ω,b,λi b=>?_⟩;by_cases e:i=L'.el
 .subst e;omega
 .rw[a.1,Iv i ω];exact c i ω
def RmK.mv(h:RmK V L k x)(a:L'.ev=L.ev/\L'.el=L.el/\(L'.gt k).tn=(L.gt k).tn)(b:kR (Bu L' k) L'.wl+d=kR (Bu L k) L.wl+x)(b:kR (tv L' k) L'.wl=kR (tv L k) L.wl):RmK V L' k d:=by
 let⟨d,c,b⟩:=a;unfold RmK at*;rw[d,c,b];exact⟨ω,ω,h.2.2.1,h.2.2.2⟩
def Fw(V:Ev0)(L L':LS):Prop:=L'.wl=L.wl/\(∀w,w<L.wl->(L'.wt w).e=(L.wt w).e/\(L'.wt w).l=(L.wt w).l/\(L'.wt w).t=(L.wt w).t/\((L.wt w).e=false->∀k:Nat,(L.wt w).l=k->(V.ly k).k=5->((L'.wt w).x=true/\(L'.wt w).z=2↔(L.wt w).x=true/\(L.wt w).z=2)))/\∀w,w<L.wl->(L'.tk (L.wt w).t.toNat).p=(L.tk (L.wt w).t.toNat).p
def Fw.sum(F:Fw V L L')(a:(V.ly k).k=5):kR (Bu L' k) L'.wl=kR (Bu L k) L.wl/\kR (tv L' k) L'.wl=kR (tv L k) L.wl:=by
 let⟨f1,f2,f3⟩:=F;rw[f1];refine⟨uw _ λw a=>?_,uw _ λw a=>?_⟩
 .have:=f2 w a;have:=f3 w a;unfold Bu;grind
 .have:=f2 w a;unfold tv;grind
def Spl.fw(h:Spl L)(F:Fw V L L'):Spl L':=λw a u b c=>by
 let⟨f1,f2,f3⟩:=F;rw[f1]at a;let⟨f,e,d,_⟩:=f2 w a;rw[d]at b;rw[f]at c;have:=f3 w a;rw[b,mY]at this;rw[this,e];exact h w a u b c
def Rm.fw(h:Rm V L u)(F:Fw V L L')(e:L'.ev=L.ev/\L'.el=L.el/\L'.gt=L.gt)(c:∀k,k<V.nl->(V.ly k).k=5->v k=u k):Rm V L' v:=λk b a=>(h k b a).mv ⟨e.1,e.2.1,by rw[e.2.2]⟩ (by have:=F.sum a;have:=c k b a;omega) (F.sum a).2
def Rm.say{l r n:Int}(h:Rm V L u)(a:r=13\/r=14->∀k:Nat,l=k->(V.ly k).k≠5)(d:∀k,k<V.nl->(V.ly k).k=5->v k=u k/\0<=v k):Rm V (L.say t l r n) v:=λk a c=>by
 have b:Eu k ⟨L.now,(L.tk t).c,l,r,n⟩=0:=by unfold Eu;grind
 have:=d k a c;have d:=h k a c;exact d.say τ (by rw[b,this.1];simp only[LS.say];show kR (Bu L k) L.wl+u k=_;omega) (by rw[b];show(L.gt k).tn-kR (tv L k) L.wl=_;omega) d.2.2.1 this.2
def Rm.aO{q:Nat}{g:Gt}(h:Rm V L u)(a:(V.ly q).k=5->g.tn=(L.gt q).tn):Rm V (L.aO q g) u:=λk a b=>(h k a b).mv ⟨rfl,rfl,by simp only[LS.aO,upd];grind⟩ rfl rfl
def Rm.wait{l:Int}{a:Bool}{q:Nat}(h:Rm V L (Cf L t q))(S:Sk L)(i:∀k,k<V.nl->(V.ly k).k=5->((k:Int)<l↔k<q)):Rm V (L.wait t l d a) (λ_=>0):=λk f g=>by
 have c:∀u,((L.wait t l d a).tk u).p=(L.tk u).p:=λu=>by simp only[LS.wait,LS.cB,LS.put,upd];grind
 have b:∀w,w<L.wl->(L.wait t l d a).wt w=L.wt w:=λw b=>by simp only[LS.wait,LS.cB,LS.put,upd];grind
 have e:=vg (t:=t) L l d a;have:=i k f g;refine(h k f g).mv τ ?_ ?_
 .show kR (Bu (L.wait t l d a) k) L.wl+Bu (L.wait t l d a) k L.wl+0=_;rw[uw (g:=Bu L k) L.wl λw z=>by unfold Bu;rw[b w z,c]];unfold Bu Cf;rw[e,c];simp only[mY];grind
 .show kR (tv (L.wait t l d a) k) L.wl+tv (L.wait t l d a) k L.wl=_;rw[uw (g:=tv L k) L.wl λw z=>by unfold tv;rw[b w z]];unfold tv;rw[e];simp
def I4(a:w<L.wl)(b:(L.wt w).t=t)(b:(L.wt w).e=false):kR (Bu (L.bV t w) k) L.wl=kR (Bu L k) L.wl-Bu L k w/\kR (tv (L.bV t w) k) L.wl=kR (tv L k) L.wl-tv L k w:=by
 have d:∀u,((L.bV t w).tk u).p=(L.tk u).p:=λu=>by simp only[LS.bV,upd];grind
 have c:∀j,j≠w->(L.bV t w).wt j=L.wt j:=λj e=>by simp[LS.bV,upd,e]
 have b:((L.bV t w).wt w).e=true:=by simp[LS.bV,upd]
 have f:=GQ (f:=Bu (L.bV t w) k) (g:=Bu L k) L.wl a λj _ e=>by unfold Bu;rw[c j e,d]
 have d:=GQ (f:=tv (L.bV t w) k) (g:=tv L k) L.wl a λj _ e=>by unfold tv;rw[c j e]
 have a:Bu (L.bV t w) k w=0:=by unfold Bu;rw[b];simp
 have a:tv (L.bV t w) k w=0:=by unfold tv;rw[b];simp
 omega
structure RR(V:Ev0)(L:LS)(t q:Nat):Prop where
 sk:Sk L
 sp:Spl L
 sc:Sc L t
 rm:Rm V L (Cf L t q)
def JG{q:Nat}:0<=Cf L t q k:=by unfold Cf;split<;>decide
def RR.sh{q a:Nat}(h:RR V L t q)(d:∀k,k<V.nl->(V.ly k).k=5->(k<q↔k<a)):RR V L t a:=⟨h.sk,h.sp,h.sc,λk b c=>by
 have:=h.rm k b c;have e:Cf L t q k=Cf L t a k:=by have:=d k b c;unfold Cf;grind
 rwa[<-e]⟩
def RR.s{q:Nat}{n:Int}(h:RR V L t q)(a:r=13\/r=14->∀k:Nat,l=k->(V.ly k).k≠5):RR V (L.say t l r n) t q:=⟨⟨h.sk.1,h.sk.2,h.sk.3⟩,h.sp,⟨h.sc.1,h.sc.2,h.sc.3,h.sc.4⟩,h.rm.say a λk _ _=>⟨rfl,JG⟩⟩
def RR.aO{q j:Nat}{g:Gt}(h:RR V L t q)(a:(V.ly j).k=5->g.tn=(L.gt j).tn):RR V (L.aO j g) t q:=⟨⟨h.sk.1,h.sk.2,h.sk.3⟩,h.sp,⟨h.sc.1,h.sc.2,h.sc.3,h.sc.4⟩,h.rm.aO a⟩
def RR.ZY{q:Nat}{y:Ot}(h:RR V L t q)(a:y.p=(L.tk j).p/\y.e=(L.tk j).e/\y.w=(L.tk j).w):RR V {L with tk:=upd L.tk j y} t q:=by
 have a:∀u,(upd L.tk j y u).p=(L.tk u).p/\(upd L.tk j y u).e=(L.tk u).e/\(upd L.tk j y u).w=(L.tk u).w:=λu=>by simp only[upd];grind
 let⟨⟨l,g,m⟩,sp,⟨e,_,b,c⟩,h⟩:=h;have F:Fw V L {L with tk:=upd L.tk j y}:=⟨rfl,λw b=>⟨rfl,rfl,rfl,λ_ _ _ _=>Iff.rfl⟩,λw b=>(a _).1⟩;refine⟨⟨λw b=>?_,λi d f=>?_,m⟩,sp.fw F,⟨e,?_,?_,c⟩,h.fw F τ λk _ _=>?_⟩
 .exact⟨(l w b).1,(l w b).2.1,λu c e=>by rw[(a u).2.2,(a u).2.1];exact(l w b).2.2 u c e⟩
 .exact⟨(g i d f).1,(g i d f).2.1,λu c e=>by rw[(a u).2.2,(a u).2.1];exact(g i d f).2.2 u c e⟩
 .have:=a t;grind
 .have:=a t;grind
 .unfold Cf;have:=a t;grind
def RR.fix{q:Nat}{z:Int}(h:RR V L t q)(a:(L.wt w).x=false)(a:z=3\/z=2/\∀k:Nat,(L.wt w).l=k->(V.ly k).k≠5):RR V (L.fix w z b) t q:=by
 let⟨⟨m,l,k⟩,sp,⟨g,f,e,d⟩,h⟩:=h;have F:Fw V L (L.fix w z b):=⟨rfl,λj a=>by simp only[LS.fix,LS.put,upd];grind,λ_ _=>rfl⟩;refine⟨⟨λj a=>?_,λi b c=>?_,λi j b a=>?_⟩,sp.fw F,⟨g,f,e,λi b c=>?_⟩,h.fw F τ λ_ _ _=>rfl⟩
 .have:=m j a;simp only[LS.fix,LS.put,upd]at*;grind
 .have:=l i;simp only[LS.fix,LS.put,upd]at*;grind
 .have:=k i j;simp only[LS.fix,LS.put,upd]at*;grind
 .have:=d i;simp only[LS.fix,LS.put,upd]at*;grind
def Rm.ended{q:Nat}(h:Rm V L (Cf L t q))(a:q<=(L.tk t).p):Rm V L (λ_=>0):=λk a b=>by
 have:=h k a b;rwa[show Cf L t q k=0 by unfold Cf;grind]at this
def JQ(V:Ev0)(cur:Option (Nat×Nat×Option Bk))(L:LS):Prop:=match cur with
 |none=>Sk L/\Rm V L (λ_=>0)/\Spl L
 |some (t,k,_)=>RR V L t k
def RR.wait{l:Int}{c:Bool}{q:Nat}(h:RR V L t q)(g:((L.tk t).p:Int)<=l)(b:∀k,k<V.nl->(V.ly k).k=5->((k:Int)<l↔k<q)):JQ V none (L.wait t l d c):=by
 let⟨s,sp,⟨_,_,k,f⟩,h⟩:=h;refine⟨?_,h.wait s b,λw m u a n=>?_⟩
 rotate_left
 .have k:((L.wait t l d c).tk u).p=(L.tk u).p:=by simp only[LS.wait,LS.cB,LS.put,upd];grind
  rw[k];have o:=vg (t:=t) L l d c;by_cases e:w=L.wl
  .subst e;rw[o]at a ⊢;have:t=u:=by have:(t:Int)=u:=a;omega
   subst this;exact g
  .have g:(L.wait t l d c).wt w=L.wt w:=by simp[LS.wait,LS.cB,LS.put,upd,e]
   have c:w<L.wl+1:=m;rw[g]at a n ⊢;exact sp w ω u a n
 let⟨g,d,c⟩:=s;refine⟨λw m=>?_,λi k l=>?_,λi j k k=>?_⟩
 .have:=g w;clear h d c f b;simp only[LS.wait,LS.cB,LS.put,upd]at*;by_cases e:w=L.wl<;>simp_all<;>grind
 .have:=d i;have:=f i;clear h g d c f b;simp only[LS.wait,LS.cB,LS.put,upd]at*;grind
 .have:=c i j;clear h g d c f b;simp only[LS.wait,LS.cB,LS.put,upd]at*;grind
def aas(h:JQ V none L)(a:w<L.wl):JQ V none (L.begin t w k):=by
 let⟨⟨b,a,d⟩,h,sp⟩:=h;have F:Fw V L (L.begin t w k):=⟨rfl,λj c=>by simp only[LS.begin,LS.put,upd];grind,λj c=>by have:=b j c;simp only[LS.begin,LS.put,upd];grind⟩;refine⟨⟨λj c=>?_,λi e f=>?_,λi j e c=>?_⟩,h.fw F τ (λ_ _ _=>rfl),sp.fw F⟩
 .have:=b j;clear h b a d;simp only[LS.begin,LS.put,upd]at*;grind [Int.natCast_inj]
 .have:=a i;clear h b a d;simp only[LS.begin,LS.put,upd]at*;grind [Int.natCast_inj]
 .have:=a i;have:=a j;have:=d i j;clear h b a d;simp only[LS.begin,LS.put,upd]at*;grind
def KM(h:Sk L)(sp:Spl L)(a:Sc L t)(d:Rm V L (λ_=>0)):JQ V none (L.done t):=by
 let⟨k,g,f⟩:=h;let⟨_,_,b,e⟩:=a;have F:Fw V L (L.done t):=⟨rfl,λj a=>⟨rfl,rfl,rfl,λ_ _ _ _=>Iff.rfl⟩,λj a=>by simp only[LS.done,upd];grind⟩;refine⟨⟨λj a=>?_,λi b c=>?_,f⟩,d.fw F τ (λ_ _ _=>rfl),sp.fw F⟩
 .have:=k j a;simp only[LS.done,upd];grind
 .have:=g i b c;have:=e i b c;simp only[LS.done,upd];grind
end
section
variable{L:LS}{q:Nat}
def FH{c n:Int}(h:j≠k):Eu k ⟨a,c,j,r,n⟩=0:=by unfold Eu;simp;omega
def RR.take(h:RR V L t k)(b:(V.ly k).k=5)(b:(L.tk t).p<=k)(b:(L.gt k).tn<(V.ly k).a):RR V ((L.aO k {L.gt k with tn:=(L.gt k).tn+1}).say t k 13 0) t (k+1):=by
 refine⟨⟨h.sk.1,h.sk.2,h.sk.3⟩,h.sp,⟨h.sc.1,h.sc.2,h.sc.3,h.sc.4⟩,λj c b=>?_⟩;have a:=h.rm j c b;refine a.say (e:=⟨L.now,(L.tk t).c,k,13,0⟩) τ ?_ ?_ ?_ JG
 .show kR (Bu L j) L.wl+Cf L t (k+1) j=_;by_cases e:j=k
  .subst e;unfold Cf Eu;grind
  .rw[FH ω];unfold Cf;grind
 .show(upd L.gt k _ j).tn-kR (tv L j) L.wl=_;by_cases e:j=k
  .subst e;unfold Eu;simp[upd];omega
  .rw[FH ω];simp[upd,e]
 .show(upd L.gt k _ j).tn<=_;have:=a.2.2.1;by_cases e:j=k
  .subst e;simp[upd];omega
  .simpa [upd,e]using this
def RR.fC(h:RR V L t (j+1))(I:(V.ly j).k=5)(G:(L.tk t).p<=j):RR V (L.fC t j) t j:=by
 unfold LS.fC;split
 .rename_i w p;let⟨o,E,D,C⟩:=Kz p;let⟨⟨d,c,b⟩,sp,⟨B,A,z,a⟩,h⟩:=h;refine⟨⟨λx g=>?_,λi n q=>?_,λi x n g=>?_⟩,λx g u F H=>?_,⟨B,A,z,λi n q=>?_⟩,λk m l=>?_⟩
  .have:=d x g;clear h d c b a;simp only[LS.say,LS.fix,LS.put,upd]at*;grind
  .have:=c i;clear h d c b a;simp only[LS.say,LS.fix,LS.put,upd]at*;grind
  .have:=b i x;clear h d c b a;simp only[LS.say,LS.fix,LS.put,upd]at*;grind
  .have:=sp x g u;clear h d c b a;simp only[LS.say,LS.fix,LS.put,upd]at*;grind
  .have:=a i;clear h d c b a;simp only[LS.say,LS.fix,LS.put,upd]at*;grind
  .have f:=h k m l;have y:∀x,Bu ((L.say t j 14 0).dg w) k x=Bu L k x:=λx=>by unfold Bu;simp only[LS.say,LS.fix,LS.put,upd];grind
   have v:=GQ (f:=tv ((L.say t j 14 0).dg w) k) (g:=tv L k) L.wl o λx _ e=>by unfold tv;simp only[LS.say,LS.fix,LS.put,upd];grind
   have s:tv L k w=0:=by unfold tv;grind
   have r:tv ((L.say t j 14 0).dg w) k w=if(j:Int)=k then 1 else 0:=by unfold tv;simp only[LS.say,LS.fix,LS.put,upd];grind
   refine f.say (e:=⟨L.now,(L.tk t).c,j,14,0⟩) τ ?_ ?_ f.2.2.1 JG
   .show kR (Bu ((L.say t j 14 0).dg w) k) L.wl+Cf L t j k=_;rw[uw L.wl λx _=>y x];by_cases e:j=k
    .subst e;unfold Cf Eu;grind
    .rw[FH e];unfold Cf;grind
   .show(L.gt k).tn-kR (tv ((L.say t j 14 0).dg w) k) L.wl=_;rw[v,s,r];by_cases e:j=k
    .subst e;unfold Eu;simp;omega
    .rw[FH e,af ω];omega
 .refine⟨⟨h.sk.1,h.sk.2,h.sk.3⟩,h.sp,⟨h.sc.1,h.sc.2,h.sc.3,h.sc.4⟩,λk m l=>?_⟩;have f:=h.rm k m l;refine f.say (e:=⟨L.now,(L.tk t).c,j,14,0⟩) τ ?_ ?_ ?_ JG
  .show kR (Bu L k) L.wl+Cf L t j k=_;by_cases e:j=k
   .subst e;unfold Cf Eu;grind
   .rw[FH e];unfold Cf;grind
  .show(upd L.gt j _ k).tn-kR (tv L k) L.wl=_;by_cases e:j=k
   .subst e;unfold Eu;simp[upd];omega
   .rw[FH e];simp[upd,Ne.symm e]
  .show(upd L.gt j _ k).tn<=_;have:=f.2.2.1;by_cases e:j=k
   .subst e;simp[upd];omega
   .simpa [upd,Ne.symm e]using this
def Sk.bV(h:Sk L)(b:w<L.wl)(a:(L.wt w).t=t)(e:(L.wt w).e=false):Sk (L.bV t w)/\Sc (L.bV t w) t:=by
 let⟨g,f,j⟩:=h;have d:=g w b;refine⟨⟨λx h=>?_,λi b c=>?_,j⟩,⟨by show t<L.tl;omega,by simp[LS.bV,upd],by simp[LS.bV,upd];exact(d.2.2 t a e).2,λi b c j=>?_⟩⟩
 .have:=g x h;simp only[LS.bV,upd];grind
 .have:=f i b c;simp only[LS.bV,upd];grind
 .have:=f i b c;have:=d.2.2 t a e;have a:(L.ag i).t=t:=j;cases k:(L.ag i).o with
  |true=>exact k
  |false=>grind
def Spl.bV(h:Spl L):Spl (L.bV t w):=λx a u b b=>by
 have:=h x a u;have a:((L.bV t w).tk u).p=(L.tk u).p:=by simp only[LS.bV,upd];grind
 rw[a];simp only[LS.bV,upd]at*;grind
def aaf(h:JQ V none L)(c:w<L.wl)(a:(L.wt w).t=t)(e:(L.wt w).e=false)(j:∀k:Nat,(L.wt w).l=k->(V.ly k).k=5->¬((L.wt w).x=true/\(L.wt w).z=2))(i:∀k,k<V.nl->(V.ly k).k=5->((k:Int)<(L.wt w).l↔k<q)):RR V (L.bV t w) t q:=by
 let⟨d,b⟩:=h.1.bV c a e;refine⟨d,h.2.2.bV,b,λk d b=>?_⟩;let⟨g,f⟩:=I4 (k:=k) c a e;have c:((L.bV t w).tk t).p=(L.tk t).p:=by simp[LS.bV,upd]
 refine(h.2.1 k d b).mv τ ?_ ?_
 .show kR (Bu (L.bV t w) k) L.wl+_=_;have:=i k d b;rw[g];unfold Bu Cf;rw[c,a,mY];grind
 .show kR (tv (L.bV t w) k) L.wl=_;have:=j k;rw[f,show tv L k w=0 by unfold tv;grind];omega
def RO(h:JQ V none L)(c:w<L.wl)(a:(L.wt w).t=t)(d:(L.wt w).e=false)(b:(L.wt w).l=k)(b:(V.ly k).k=5)(b:(L.wt w).x=true/\(L.wt w).z=2):RR V ((L.bV t w).say t k 13 0) t (k+1):=by
 let⟨e,b⟩:=h.1.bV c a d;have f:=h.2.2 w c t a d;refine⟨⟨e.1,e.2,e.3⟩,h.2.2.bV,⟨b.1,b.2,b.3,b.4⟩,λj i g=>?_⟩;let⟨f,e⟩:=I4 (k:=j) c a d;have c:((L.bV t w).tk t).p=(L.tk t).p:=by simp[LS.bV,upd]
 have b:=h.2.1 j i g;refine b.say (e:=⟨L.now,((L.bV t w).tk t).c,k,13,0⟩) τ ?_ ?_ b.2.2.1 JG
 .show kR (Bu (L.bV t w) j) L.wl+Cf (L.bV t w) t (k+1) j=_;rw[f];unfold Bu Cf Eu;rw[c,a,mY];grind
 .show(L.gt j).tn-kR (tv (L.bV t w) j) L.wl=_;rw[e];unfold tv Eu;grind
def JW(V:Ev0)(t:Nat)(r:LS×Option (Nat×Option Bk)):Prop:=JQ V (r.2.map λq=>(t,q.1,q.2)) r.1
def RR.aM(h:RR V L t q)(a:(V.ly k).k=4):RR V (L.aM t k) t q:=by
 unfold LS.aM;split
 .exact(h.aO λz=>ω).s ω
 .exact h
def RR.cz(h:RR V L t q)(a:(V.ly k).k=4):RR V (L.cz k) t q:=by
 unfold LS.cz;split
 .exact h.aO λz=>ω
 .exact h
def RR.count(h:RR V L t q)(a:(V.ly j).k=4):RR V (L.count y t j b) t q:=by
 have g:∀g,RR V (L.aO j g) t q:=λg=>h.aO λz=>ω
 have a:∀g r,r≠13/\r≠14->RR V ((L.aO j g).say t j r 0) t q:=λb r z=>(g b).s ω;unfold LS.count;dsimp only
 repeat' split
 all_goals first|exact h|exact g _|exact a _ _ δ
def RR.Aj:∀(a:aN)(L:LS),RR V L t q->RR V (a.foldl LS.iC L) t q
 |[],L,h=>h
 |j::a,L,h=>RR.Aj a (L.iC j) (by
  unfold LS.iC;split
  .exact h
  .exact h.ZY τ)
def RR.AG:∀(a:aN)(L:LS),RR V L t q->RR V (a.foldl LS.jv L) t q
 |[],L,h=>h
 |j::a,L,h=>RR.AG a (L.jv j) (by
  unfold LS.jv LS.qA;split
  .exact h
  .split
   .rename_i z;exact h.fix z.1 (.inl rfl)
   .exact h)
def RR.E3(h:RR V L t k)(b:(V.ly k).k≠5):RR V L t (k+1):=h.sh λi _ a=>by
 have:i≠k:=λe=>by subst e;exact b a
 omega
def RR.ouw(h:RR V L t (j+1))(b:(V.ly j).k≠5):RR V L t j:=h.sh λi _ a=>by
 have:i≠j:=λe=>by subst e;exact b a
 omega
def aap(h:RR V L t (L.tk t).p)(j:mC V L t):JQ V none (L.end_ t b):=by
 unfold LS.end_;split
 .exact KM (L:={L with ou:=_}) ⟨h.sk.1,h.sk.2,h.sk.3⟩ h.sp ⟨h.sc.1,h.sc.2,h.sc.3,h.sc.4⟩ (h.rm.ended (az _))
 .rename_i f;have a:RR V (L.qA (L.tk t).f.toNat 2 b) t (L.tk t).p:=by
   unfold LS.qA;split
   .rename_i z;rcases j.p with ⟨y,_⟩|⟨w,k,d,_,c,_,l,_⟩
    .exact absurd y f
    .refine h.fix z.1 (.inr ⟨rfl,λi g=>?_⟩);rw[d,mY,c]at g;have:i=k:=ω
     subst this;omega
   .exact h
  have e:((L.qA (L.tk t).f.toNat 2 b).tk t).p=(L.tk t).p:=by
   unfold LS.qA;split<;>rfl
  exact KM a.sk a.sp a.sc (a.rm.ended (by rw[e];exact az _))
def ZA(h:RR V L t k)(q:mC V L t)(v:k<=V.nl)(o:(L.tk t).p<=k):JW V t (L.step V t k Y):=by
 cases Y with
 |none=>
  unfold LS.step;dsimp only;split
  .rename_i e;subst e;have G:∀u n,RR V (LS.say {L with us:=u} t (-1) 1 n) t V.nl:=λu n=>RR.s (L:={L with us:=u}) ⟨⟨h.sk.1,h.sk.2,h.sk.3⟩,h.sp,⟨h.sc.1,h.sc.2,h.sc.3,h.sc.4⟩,h.rm⟩ ω;split
   .exact(G _ _).s ω
   .have c:JQ V none ((LS.say {L with us:=upd L.us (L.tk t).c.toNat (L.us (L.tk t).c.toNat+1)} t (-1) 1 (L.us (L.tk t).c.toNat)).wait t V.nl (aU V (L.tk t).c.toNat (L.us (L.tk t).c.toNat).toNat).t false):=(G _ _).wait (by show((L.tk t).p:Int)<=_;omega) λi g _=>ω
    generalize (LS.say {L with us:=upd L.us (L.tk t).c.toNat (L.us (L.tk t).c.toNat+1)} t (-1) 1 (L.us (L.tk t).c.toNat)).wait t V.nl (aU V (L.tk t).c.toNat (L.us (L.tk t).c.toNat).toNat).t false=M at*;have F:∀w b,Fw V M {M with wt:=upd M.wt w {M.wt w with b:=b}}:=λw b=>⟨rfl,λj l=>by simp only[upd];grind,λ_ _=>rfl⟩
    refine⟨⟨λj l=>?_,c.1.2,c.1.3⟩,c.2.1.fw (F _ _) τ (λ_ _ _=>rfl),c.2.2.fw (F _ _)⟩;have:=c.1.1 j l;simp only[upd];grind
  .have r:k<V.nl:=ω
   split
   .exact RR.E3 (k:=k) (h.ZY τ) ω
   .split
    .unfold LS.jg;split
     .exact h.s ω
     .exact RR.E3 ((h.aO λz=>ω).s ω) ω
    .split
     .rename_i f;unfold LS.pass;split
      .exact h.s ω
      .split
       .exact(h.aM f).s ω
       .exact RR.E3 (RR.s (L:=((L.aM t k).cz k).mark t k) (((h.aM f).cz f).ZY τ) ω) ω
     .split
      .rename_i m;unfold LS.take;split
       .rename_i p;exact h.take m o p
       .split
        .exact h.s ω
        .have d:RR V (L.say t k 12 0) t k:=h.s ω;split
         .exact d.s ω
         .exact d.wait (by show((L.tk t).p:Int)<=_;omega) λi g _=>ω
      .split
       .unfold LS.uX;split
        .exact h.s ω
        .exact aas (h.wait ω λi g _=>ω) (by show L.wl<L.wl+1;omega)
       .exact h.E3 (by assumption)
 |some b=>
  unfold LS.step;dsimp only;split
  .rename_i e;subst e;exact aap h q
  .obtain⟨j,rfl⟩:∃j,k=j+1:=⟨k-1,ω⟩
   rw[eM];split
   .rename_i s;have a:=h.ouw ω;split
    .exact a
    .split
     .exact a.s ω
     .have G:RR V {L.say t j 3 (aI (V.ly j) ((L.tk t).a j))with tk:=upd (L.say t j 3 (aI (V.ly j) ((L.tk t).a j))).tk t {(L.say t j 3 (aI (V.ly j) ((L.tk t).a j))).tk t with a:=upd ((L.say t j 3 (aI (V.ly j) ((L.tk t).a j))).tk t).a j ((L.tk t).a j+1)}} t j:=(a.s ω).ZY ⟨rfl,rfl,rfl⟩;split
      .exact G.s ω
      .split
       .exact G.wait (by simp[LS.say,upd];omega) λi g _=>ω
       .exact G.E3 ω
   .split
    .exact(h.ouw ω).count (by assumption)
    .split
     .exact h.fC (by assumption) ω
     .have a:=h.ouw (by assumption);split
      .exact a.s ω
      .exact a
def aaB:Xb V (JQ V) where
 step:=λt k Y L h S J u c=>ZA h (J t S.tn) u c
 start:=λi t L h H I f l=>by
  let⟨G,c⟩:=qI _ _ _ I;let⟨⟨p,d,x⟩,n,m⟩:=h;have b:=(d i G l).2.2 t f c;refine⟨⟨p,λj c v=>?_,?_⟩,m,⟨H,b.1,b.2,λj c v b=>?_⟩,λk u b=>?_⟩
  .have:=d j c;simp only[LS.pop,upd]at*;grind
  .simp only[LS.pop,upd];grind
  .have:=x i j G c l;simp only[LS.pop,upd]at*;grind
  .have:=n k u b;rw[show Cf (L.pop i) t (L.tk t).p k=0 by unfold Cf;simp only[LS.pop];grind];exact this
 late:=λi w L h _ _ _ _=>by
  let⟨⟨p,d,x⟩,n,m⟩:=h;refine⟨⟨p,λj c v=>?_,?_⟩,n,m⟩
  .have:=d j c;simp only[LS.pop,upd]at*;grind
  .simp only[LS.pop,upd];grind
 JB:=λi t w L k Y L' h J H l g I f b b f S O=>by
  have K:JQ V none (L.pop i):=by
   let⟨⟨p,d,x⟩,n,m⟩:=h;refine⟨⟨p,λj c v=>?_,?_⟩,n,m⟩
   .have:=d j c;simp only[LS.pop,upd]at*;grind
   .simp only[LS.pop,upd];grind
  have e:w<(L.pop i).wl:=l;have s:((L.pop i).wt w).x=(L.wt w).x/\((L.pop i).wt w).z=(L.wt w).z/\((L.pop i).wt w).t=t/\((L.pop i).wt w).e=false:=⟨rfl,rfl,b,f⟩;have b:(((L.pop i).bV t w).wt w).l=((L.pop i).wt w).l:=by simp[LS.bV,upd]
  generalize L.pop i=M at*;let⟨E,b,D,C⟩:=s;have A:∀(a q:Nat),(M.wt w).l=a->((L.ag i).c=2->(V.ly a).k≠5)->(∀k,k<V.nl->(V.ly k).k=5->((k:Int)<a↔k<q))->RR V (M.bV t w) t q:=λa q r B N=>aaf K e D C (λk b P y=>by
   have:k=a:=ω
   subst this;exact B (by
    rcases g with ⟨_,z⟩|⟨_,_,z⟩
    .rw[E,z]at y;cases y.1
    .omega) P) (by rw[r];exact N)
  rcases O with ⟨b,c,y,ch,c,rfl,rfl,rfl⟩|⟨a,ok,ol,⟨b,c,rfl,rfl,rfl⟩|⟨b,c,rfl,rfl,rfl⟩|⟨F,b,rfl,rfl,rfl⟩|⟨F,b,rfl,rfl,rfl⟩|⟨c,b,rfl,rfl,o,of,rfl⟩|⟨c,b,rfl,rfl,rfl⟩⟩
  .exact(A V.nl V.nl ω ω ω).s ω
  .exact(A k k ω ω ω).s ω
  .exact RR.E3 (A a a ω ω ω) ω
  .exact(A k k ω ω ω).s ω
  .exact RO K e D C ω F (by
    rcases g with ⟨z,_⟩|⟨_,r,B⟩
    .omega
    .exact⟨E.trans r,ω⟩)
  .exact RR.AG o _ (RR.Aj o _ ((A k k ω ω ω).s ω))
  .exact A k k ω ω ω
def aaU(e:wM V):JQ V none (ko V):=⟨⟨λw a=>absurd a (uk _),λi b _=>⟨by show 0<=(i:Int);omega,by show(i:Int)<V.nc;have:i<V.nc:=b;omega,λu f _=>⟨by show(-1:Int)<0;decide,rfl⟩⟩,λi j _ _ _ _ z=>by have:(i:Int)=j:=z;omega⟩,λk d c=>⟨rfl,rfl,by have:=e.ro k d c;show(0:Int)<=_;omega,λi b=>by
 have:i=0:=by have:i<=0:=b;omega
 subst this;have:=e.ro k d c;show 0<=(0:Int)/\(0:Int)<=_;omega⟩,λw a=>absurd a (uk _)⟩
def aar(h:JQ V none L)(e:∀t,t<L.tl->(L.tk t).e=true)(d:k<V.nl)(f:(V.ly k).k=5):Fv k L.ev L.el=0:=by
 let⟨⟨b,_,_⟩,g,_⟩:=h;have h:=(g k d f).1;rw[h,uw (g:=λ_=>0) L.wl λw a=>?_]
 .have:∀n,kR (λ_=>0) n=0:=λn=>by induction n with|zero=>rfl|succ n c=>simp[kR,c]
  rw[this];rfl
 .have:=b w a;have:=e (L.wt w).t.toNat ω;have:=(b w a).2.2 (L.wt w).t.toNat ω;unfold Bu;grind
end
def Tg{q:Int}{c:Nat}{vv:Nat->OZ}:∀n,zG q c vv n<=n
 |0=>az _
 |n+1=>by
  have:=Tg (q:=q) (c:=c) (vv:=vv) n;grind [zG]
def Lt(q:Int)(c:Nat)(vv:Nat->OZ)(i:Nat)(f g r:Bool)(n:Nat)(a:Int):Prop:=(f=true->∀j,j<i->¬Gate q (vv j))/\n=zG q c vv i/\(g=true->∃j,j<i/\(vv j).c=c/\(vv j).w=1)/\(n≠0->∃j,j<i/\Gate q (vv j)/\(vv j).c=c/\a=(vv j).a/\r=((vv j).w==7))
def Lt.next{q:Int}{f g r k j b:Bool}{d:Nat}{e:Int}(h:Lt q c vv i f g r n a){y:Bool}(h:y=true↔Gate q (vv i))(h:k=true->f=true/\y=false)(f:j=true->g=true\/(vv i).c=c/\(vv i).w=1)(f:(y=true/\(vv i).c=c/\d=n+1/\e=(vv i).a/\b=((vv i).w==7))\/(¬(y=true/\(vv i).c=c)/\d=n/\e=a/\b=r)):Lt q c vv (i+1) k j b d e:=by
 unfold Lt at*;simp only[zG];grind
def aax(F:aB prog main (DX Q) W)(J:HB B Q){U:aC}(o:U.kind=.normal)(qh:U.fn=23){cf:aC}{Z:cO}{R:aW}{E:eP}{v:ay}{Y el u c:Nat}{q:Int}{vv:Nat->OZ}(Ty:el<1000000)(hea:0<el->∃a,E=some a):
 ∀(k i:Nat)(f g r:Bool)(n:Nat)(a:Int)(x:Act)(w:aj)(B2:Nat),i+k=el->Lt q c vv i f g r n a->x.defers=[]->B<=B2->w.heap.size=B2->
   St Q B2 131 [(11,i6 i),(10,i6 a),(9,.bool r),(8,.bool g),(7,i6 n),(6,i6 c),(5,.bool f),(2,ptr u),(1,i6 q)] (bR u [v,.slice E el Y]::sK E vv el::R) 0 x w->
   (∀N,w.heap.size<=N.heap.size->Sat Q N (sK E vv el::R)->(∃i,i<el/\Gate q (vv i)/\(vv i).w≠q/\∀j,j<i->¬Gate q (vv j))->W (G (cf.finish (.bool false)) Z) N)->
   (∀f g r n a L N,w.heap.size<=N.heap.size->Lt q c vv el f g r n a->L.defers=[]->aR [(10,i6 a),(9,.bool r),(8,.bool g),(7,i6 ((n:Nat):Int)),(6,i6 c),(5,.bool f),(2,ptr u),(1,i6 q)] 131 L->Sat Q N (bR u [v,.slice E el Y]::sK E vv el::R)->W (G (U.at L (pc prog 23 62 [true,false] [])) (cf::Z)) N)->
   W (G (U.at x (pc prog 23 52 [true] [])) (cf::Z)) w
 |0,i,f,g,r,n,a,x,w,B2,hi,hL,e,hle,T,H,KF,K=>by
  have j:decide ((i:Int)<(el:Int))=false:=θ
  refine TP F J o e H 10 [0,0,1,1] 4 [] [(10,i6 a),(9,.bool r),(8,.bool g),(7,i6 n),(6,i6 c),(5,.bool f),(2,ptr u),(1,i6 q)] 62 5 [] [] [(decide ((↑i:Int)<(↑el:Int)),false)] [] [] λp d l b m s t=>K f g r n a p d ω (by rw[show el=i by omega];exact hL) b (l.dB _ rfl).env l.sat
 |k+1,i,f,g,r,n,a,x,w,B2,hi,hL,e,hle,T,H,KF,K=>by
  obtain⟨V,rfl⟩:=hea ω;have X:wp i=((i+1:Nat):Int):=j6;have j:=Tg (q:=q) (c:=c) (vv:=vv) i;have j:=hL.2.1;have hwn:wp n=((n+1:Nat):Int):=j6;have D:∀(y I P:Bool)(S:Nat)(L:Int)(x:Act)(d:aj),(y=true↔Gate q (vv i))->(I=true->f=true/\y=false)->((y=true/\(vv i).c=c/\S=n+1/\L=(vv i).a/\P=((vv i).w==7))\/(¬(y=true/\(vv i).c=c)/\S=n/\L=a/\P=r))->x.defers=[]->d.heap.size=B2+1->St Q B2 131 [(12,ptr B2),(11,i6 i),(10,i6 L),(9,.bool P),(8,.bool g),(7,i6 ((S:Nat):Int)),(6,i6 c),(5,.bool I),(2,ptr u),(1,i6 q)] (bR B2 [i6 (vv i).a,i6 (vv i).c,i6 (vv i).l,i6 (vv i).w,i6 (vv i).n]::bR u [v,.slice (some V) el Y]::sK (some V) vv el::R) 1 x d->W (G (U.at x (pc prog 23 131 [true,true,false,false] [])) (cf::Z)) d:=by
   intro y I P S L x w0 O hf B e T H;have nx:∀(w:Bool)(p:Act)(j:aj),(w=true->g=true\/(vv i).c=c/\(vv i).w=1)->p.defers=[]->j.heap.size=B2+1->St Q B2 131 [(11,i6 ((i+1:Nat):Int)),(10,i6 L),(9,.bool P),(8,.bool w),(7,i6 ((S:Nat):Int)),(6,i6 c),(5,.bool I),(2,ptr u),(1,i6 q)] (bR B2 [i6 (vv i).a,i6 (vv i).c,i6 (vv i).l,i6 (vv i).w,i6 (vv i).n]::bR u [v,.slice (some V) el Y]::sK (some V) vv el::R) 1 p j->W (G (U.at p (pc prog 23 52 [true] [])) (cf::Z)) j:=λw p j hg b m l=>
    aax F J o qh Ty hea k (i+1) I w P S L p j (B2+1) ω (hL.next O hf hg B) b ω m ⟨l.env,l.sat.tail,l.sz⟩ (λN z=>KF N ω) λf g r n a L N z=>K f g r n a L N ω
   cases g with
   |true=>
    refine aq (λM=>M) 1 F J o e H 22 [] 8191 [] [(11,i6 (wp i)),(8,.bool true),(10,i6 L),(9,.bool P),(7,i6 S),(6,i6 c),(5,.bool I),(2,ptr u),(1,i6 q)] 153 19 [] λp d l b m s t=>?_;rw[X]at l;rw[show pc prog 23 153 (Bo 19) []=pc prog 23 52 [true] [] by kernel_rfl];exact nx true p d (λ_=>.inl rfl) b ω (l.dB _ rfl)
   |false=>
    by_cases h:(vv i).c=c
    .have h':((vv i).c==(c:Int))=true:=by simpa using h
     refine aX (λM=>M) 1 F J o e H 22 [0,0,1,1,0,0,3,1] 391509 [] [(11,i6 (wp i)),(8,.bool ((vv i).w==1)),(10,i6 L),(9,.bool P),(7,i6 S),(6,i6 c),(5,.bool I),(2,ptr u),(1,i6 q)] 153 19 [] [] [((vv i).c==(↑c:Int),true)] [] [] λp d l b m s t=>?_;rw[X]at l;rw[show pc prog 23 153 (Bo 19) []=pc prog 23 52 [true] [] by kernel_rfl];exact nx ((vv i).w==1) p d (λz=>.inr ⟨h,by simpa using z⟩) b ω (l.dB _ rfl)
    .have h':((vv i).c==(c:Int))=false:=by simpa using h
     refine aX (λM=>M) 1 F J o e H 22 [0,0,1,1] 348501 [] [(11,i6 (wp i)),(8,.bool false),(10,i6 L),(9,.bool P),(7,i6 S),(6,i6 c),(5,.bool I),(2,ptr u),(1,i6 q)] 153 19 [] [] [((vv i).c==(↑c:Int),false)] [] [] λp d l b m s t=>?_;rw[X]at l;rw[show pc prog 23 153 (Bo 19) []=pc prog 23 52 [true] [] by kernel_rfl];exact nx false p d nofun b ω (l.dB _ rfl)
  have C:∀(y I:Bool)(x:Act)(d:aj),(y=true↔Gate q (vv i))->(I=true->f=true/\y=false)->x.defers=[]->d.heap.size=B2+1->St Q B2 131 [(13,.bool y),(12,ptr B2),(11,i6 i),(10,i6 a),(9,.bool r),(8,.bool g),(7,i6 n),(6,i6 c),(5,.bool I),(2,ptr u),(1,i6 q)] (bR B2 [i6 (vv i).a,i6 (vv i).c,i6 (vv i).l,i6 (vv i).w,i6 (vv i).n]::bR u [v,.slice (some V) el Y]::sK (some V) vv el::R) 1 x d->W (G (U.at x (pc prog 23 118 [true,true,false] [])) (cf::Z)) d:=by
   intro y I x w0 O hf e T H;by_cases h:(vv i).c=c
   .have h':((vv i).c==(c:Int))=true:=by simpa using h
    cases y with
    |true=>
     refine aX (λM=>M) 1 F J o e H 30 [0,0,1,1,0,0,0,1,0,0,3,1] 30 [] [(9,.bool ((vv i).w==7)),(10,i6 (vv i).a),(7,i6 (wp n)),(12,ptr B2),(11,i6 i),(8,.bool g),(6,i6 c),(5,.bool I),(2,ptr u),(1,i6 q)] 148 27 [] [] [((vv i).c==(↑c:Int),true)] [] [] λp d l b m s t=>?_;rw[hwn]at l;rw[show pc prog 23 148 (Bo 27) []=pc prog 23 131 [true,true,false,false] [] by kernel_rfl];exact D true I ((vv i).w==7) (n+1) (vv i).a p d O hf (.inl ⟨rfl,h,rfl,rfl,rfl⟩) b ω (l.dB _ rfl)
    |false=>
     refine aX (λM=>M) 1 F J o e H 13 [0,0,1,1] 22 [] [(12,ptr B2),(11,i6 i),(10,i6 a),(9,.bool r),(8,.bool g),(7,i6 n),(6,i6 c),(5,.bool I),(2,ptr u),(1,i6 q)] 131 19 [] [] [((vv i).c==(↑c:Int),true)] [] [] λp d l b m s t=>D false I r n a p d O hf (.inr ⟨λz=>(by cases z.1),rfl,rfl,rfl⟩) b ω (l.dB _ rfl)
   .have h':((vv i).c==(c:Int))=false:=by simpa using h
    refine aX (λM=>M) 1 F J o e H 13 [0,0,1,1] 20 [] [(12,ptr B2),(11,i6 i),(10,i6 a),(9,.bool r),(8,.bool g),(7,i6 n),(6,i6 c),(5,.bool I),(2,ptr u),(1,i6 q)] 131 19 [] [] [((vv i).c==(↑c:Int),false)] [] [] λp d l b m s t=>D y I r n a p d O hf (.inr ⟨λz=>h z.2,rfl,rfl,rfl⟩) b ω (l.dB _ rfl)
  have A:∀(y:Bool)(x:Act)(d:aj),(y=true↔Gate q (vv i))->x.defers=[]->d.heap.size=B2+1->St Q B2 131 [(13,.bool y),(12,ptr B2),(11,i6 i),(10,i6 a),(9,.bool r),(8,.bool g),(7,i6 n),(6,i6 c),(5,.bool f),(2,ptr u),(1,i6 q)] (bR B2 [i6 (vv i).a,i6 (vv i).c,i6 (vv i).l,i6 (vv i).w,i6 (vv i).n]::bR u [v,.slice (some V) el Y]::sK (some V) vv el::R) 1 x d->W (G (U.at x (pc prog 23 93 [true,true] [])) (cf::Z)) d:=by
   intro y x w0 O e T H;cases f with
   |false=>
    cases y with
    |false=>
     refine aq (λM=>M) 1 F J o e H 25 [] 87381 [] [(5,.bool false),(13,.bool false),(12,ptr B2),(11,i6 i),(10,i6 a),(9,.bool r),(8,.bool g),(7,i6 n),(6,i6 c),(2,ptr u),(1,i6 q)] 118 11 [] λp d l b m s t=>C false false p d O nofun b ω (l.dB _ rfl)
    |true=>
     refine aq (λM=>M) 1 F J o e H 25 [] 87383 [] [(5,.bool false),(13,.bool true),(12,ptr B2),(11,i6 i),(10,i6 a),(9,.bool r),(8,.bool g),(7,i6 n),(6,i6 c),(2,ptr u),(1,i6 q)] 118 11 [] λp d l b m s t=>C true false p d O nofun b ω (l.dB _ rfl)
   |true=>
    cases y with
    |false=>
     refine aq (λM=>M) 1 F J o e H 25 [] 128341 [] [(5,.bool true),(13,.bool false),(12,ptr B2),(11,i6 i),(10,i6 a),(9,.bool r),(8,.bool g),(7,i6 n),(6,i6 c),(2,ptr u),(1,i6 q)] 118 11 [] λp d l b m s t=>C false true p d O (λz=>τ) b ω (l.dB _ rfl)
    |true=>
     by_cases h:(vv i).w=q
     .have h':((vv i).w !=q)=false:=by simpa using h
      refine aX (λM=>M) 1 F J o e H 25 [0,0,3,1] 127999 [] [(5,.bool false),(13,.bool true),(12,ptr B2),(11,i6 i),(10,i6 a),(9,.bool r),(8,.bool g),(7,i6 n),(6,i6 c),(2,ptr u),(1,i6 q)] 118 11 [] [] [((vv i).w !=q,false)] [] [] λp d l b m s t=>C true false p d O nofun b ω (l.dB _ rfl)
     .refine oH (λM=>M) 1 F J o qh e H 19 [0,0,3,1] 7167 [] 4 (.bool false) 112 15 [] [] [((vv i).w !=q,true)] [] [] λd l m s=>KF d ω l.sat.tail.tail ⟨i,ω,O.1 rfl,h,hL.1 rfl⟩
  by_cases h1:(vv i).l=0
  .have h:((vv i).l==0)=true:=by simpa using h1
   by_cases h:(vv i).w=q
   .have j:((vv i).w==q)=true:=by simpa using h
    refine aX (λM=>bR (B2) [i6 (vv i).a,i6 (vv i).c,i6 (vv i).l,i6 (vv i).w,i6 (vv i).n]::(M)) 1 F J o e H 41 [0,0,1,1,0,0,1,1,1,i,0,105,0,0,0,5,0,0,2,2] 8372202 [] [(13,.bool true),(12,ptr B2),(11,i6 i),(10,i6 a),(9,.bool r),(8,.bool g),(7,i6 n),(6,i6 c),(5,.bool f),(2,ptr u),(1,i6 q)] 93 7 [] [] [((vv i).w==q,true),((vv i).l==0,true),(decide ((↑i:Int)<(↑el:Int)),true)] [((↑i:Int),el)] [(5,(i,el))] λp d l b m s t=>A true p d ⟨λ_=>⟨h1,.inl h⟩,λ_=>rfl⟩ b ω (l.dB _ rfl)
   .refine aX (λM=>bR (B2) [i6 (vv i).a,i6 (vv i).c,i6 (vv i).l,i6 (vv i).w,i6 (vv i).n]::(M)) 1 F J o e H 41 [0,0,1,1,0,0,1,1,1,i,0,105,0,0,0,5,0,0,2,2,0,0,3,1] 7684074 [] [(13,.bool ((vv i).w==7)),(12,ptr B2),(11,i6 i),(10,i6 a),(9,.bool r),(8,.bool g),(7,i6 n),(6,i6 c),(5,.bool f),(2,ptr u),(1,i6 q)] 93 7 [] [] [((vv i).w==q,false),((vv i).l==0,true),(decide ((↑i:Int)<(↑el:Int)),true)] [((↑i:Int),el)] [(5,(i,el))] λp d l b m s t=>A ((vv i).w==7) p d ⟨λz=>⟨h1,.inr (by simpa using z)⟩,λz=>by rcases z.2 with y|y;exact absurd y h;simpa using y⟩ b ω (l.dB _ rfl)
  .refine aX (λM=>bR (B2) [i6 (vv i).a,i6 (vv i).c,i6 (vv i).l,i6 (vv i).w,i6 (vv i).n]::(M)) 1 F J o e H 41 [0,0,1,1,0,0,1,1,1,i,0,105,0,0,0,5,0,0,2,1] 87370 [] [(13,.bool false),(12,ptr B2),(11,i6 i),(10,i6 a),(9,.bool r),(8,.bool g),(7,i6 n),(6,i6 c),(5,.bool f),(2,ptr u),(1,i6 q)] 93 7 [] [] [((vv i).l==0,false),(decide ((↑i:Int)<(↑el:Int)),true)] [((↑i:Int),el)] [(5,(i,el))] λp d l b m s t=>A false p d ⟨nofun,λz=>absurd z.1 h1⟩ b ω (l.dB _ rfl)
def aak(q:Int)(L:LS)(m:Nat):Prop:=Fst q L.ev L.el/\∀c,c<m->yE q L.ev L.el c (L.ou c).a (L.ou c).b
def ET(b:Bk):Prop:=b.k=2/\b.ch=[⟨3,0,0⟩]
def Lt.fin{q:Int}{L:LS}{f g r:Bool}(h:Lt q c L.ev L.el f g r n a)(e:aak q L m)(o:q≠7)(d:c<m):n=1/\((r=false/\¬ET (L.ou c).b)\/(r=true/\ET (L.ou c).b/\g=false/\(L.ou c).a=a)):=by
 let⟨_,k,a,i⟩:=h;rcases e.2 c d with ⟨⟨c,a⟩,m⟩|⟨⟨c,a⟩,l⟩
 .have d:n=1:=k.trans c;let⟨j,g,f,e,h,b⟩:=i ω;rw[a j g f e]at b;refine⟨d,.inl ⟨by rw[b];simpa using o,λz=>?_⟩⟩;exact m ⟨3,0,0⟩ (by rw[z.2];exact bI ..) rfl rfl
 .have d:n=1:=k.trans c;let⟨j,g,f,e,h,b⟩:=i ω;let⟨i,c⟩:=(a j g e).2 f;exact⟨d,.inr ⟨by rw[b,i];rfl,by rw[l];exact τ,χ,by rw[h,c]⟩⟩
def aaR(F:aB prog main (DX Q) W)(o:HB B Q)(e:U.kind=.normal)(k:U.fn=23){R:aW}{v E l:ay}{t Bo:Nat}{q:Int}{f g r z:Bool}{s ok on:Int}(I:c<9){C:Act}{w:aj}(d:C.defers=[])(I:B<=B2)(B:w.heap.size=B2)(p:St Q B2 131 [(15,.bool z),(14,ptr Bo),(10,i6 a),(9,.bool r),(8,.bool g),(7,i6 n),(6,i6 c),(5,.bool f),(2,ptr t),(1,i6 q)] (bR Bo [i6 s,i6 ok,i6 on,l]::bR t [v,E]::R) 0 C w)(x:∀l,w.heap.size<=l.heap.size->Sat Q l R->¬(n=1/\(r=false/\z=false\/r=true/\z=true/\g=false/\s=a))->W (G (cf.finish (.bool false)) Z) l)(K:∀D l,w.heap.size<=l.heap.size->D.defers=[]->aR [(6,i6 ((c+1:Nat):Int)),(5,.bool f),(2,ptr t),(1,i6 q)] 131 D->Sat Q l (bR t [v,E]::R)->W (G (U.at D (pc prog 23 16 [] [])) (cf::Z)) l):W (G (U.at C (pc prog 23 94 [true,false] [])) (cf::Z)) w:=by
 have u:wp c=((c+1:Nat):Int):=j6;by_cases H:n=1
 .have l:((n:Int) !=1)=false:=θ
  cases z with
  |false=>
   cases r with
   |false=>
    refine TP F o e d p 31 [] 1398100 [] [(6,i6 (wp c)),(5,.bool f),(2,ptr t),(1,i6 q)] 125 9 [] [] [((↑n:Int) !=1,false)] [] [] λA h b m i j y=>?_;rw[u]at b;exact K A h ω m (b.dB _ rfl).env b.sat.tail
   |true=>
    refine ZI F o e k d p 27 [] 32724 [] 4 (.bool false) 121 13 [] [] [((↑n:Int) !=1,false)] [] [] λh b i j=>x h ω b.sat.tail.tail ψ
  |true=>
   cases r with
   |false=>
    refine ZI F o e k d p 27 [] 32724 [] 4 (.bool false) 121 13 [] [] [((↑n:Int) !=1,false)] [] [] λh b i j=>x h ω b.sat.tail.tail ψ
   |true=>
    cases g with
    |true=>
     refine ZI F o e k d p 27 [] 503315796 [] 4 (.bool false) 121 13 [] [] [((↑n:Int) !=1,false)] [] [] λh b i j=>x h ω b.sat.tail.tail ψ
    |false=>
     by_cases g:s=a
     .have l:(s !=a)=false:=by simpa using g
      refine TP F o e d p 31 [0,0,0,1] 299203924 [] [(6,i6 (wp c)),(5,.bool f),(2,ptr t),(1,i6 q)] 125 9 [] [] [(s !=a,false),((↑n:Int) !=1,false)] [] [] λA h b m i j y=>?_;rw[u]at b;exact K A h ω m (b.dB _ rfl).env b.sat.tail
     .refine ZI F o e k d p 27 [0,0,0,1] 433421652 [] 4 (.bool false) 121 13 [] [] [(s !=a,true),((↑n:Int) !=1,false)] [] [] λh b i j=>x h ω b.sat.tail.tail (by simp[g])
 .refine ZI F o e k d p 27 [] 32766 [] 4 (.bool false) 121 13 [] [] [((↑n:Int) !=1,true)] [] [] λh b i j=>x h ω b.sat.tail.tail λz=>H z.1
def aaS(F:aB prog main (DX Q) W)(A:HB B Q)(d:U.kind=.normal){v:ay}{k:Nat}{q:Int}{b:Nat->Se}{l:bU}{f g r:Bool}(L:c<m)(L:m<=9)(L:0<(b c).b.ch.length->∃h,os c=some h/\Has C (gQ h (b c).b.ch)){P:Act}{w:aj}(N:P.defers=[])(V:B<=B2)(B:w.heap.size=B2)(X:St Q B2 131 [(10,i6 a),(9,.bool r),(8,.bool g),(7,i6 n),(6,i6 c),(5,.bool f),(2,ptr k),(1,i6 q)] (bR k [.slice (some ⟨o,0,none⟩) m m,v]::sK E vv el::SY o b os l m::C) 0 P w)(K:∀(z:Bool) V R B,(z=true↔ET (b c).b)->B.heap.size=B2+1->R.defers=[]->aR [(15,.bool z),(14,ptr B2),(10,i6 a),(9,.bool r),(8,.bool g),(7,i6 n),(6,i6 c),(5,.bool f),(2,ptr k),(1,i6 q)] 131 R->Sat Q B (bR B2 [i6 (b c).a,i6 (b c).b.k,i6 (b c).b.n,V]::bR k [.slice (some ⟨o,0,none⟩) m m,v]::sK E vv el::SY o b os l m::C)->W (G (U.at R (pc prog 23 94 [true,false] [])) Z) B):W (G (U.at P (pc prog 23 62 [true,false] [])) Z) w:=by
 refine aX (λM=>bR (B2) [i6 (b c).a,i6 (b c).b.k,i6 (b c).b.n,.slice (os c) (List.length (b c).b.ch) (l c)]::(M)) 1 F A d N X 11 [0,0,0,1,2,c,0,104,0,0,0,4] 6 [] [(14,ptr B2),(10,i6 a),(9,.bool r),(8,.bool g),(7,i6 n),(6,i6 c),(5,.bool f),(2,ptr k),(1,i6 q)] 73 5 [] [] [] [((↑c:Int),m)] [(4,(c,m))] λm m j t m m m=>?_;by_cases O:(b c).b.k=2
 .have m:((b c).b.k==2)=true:=by simpa using O
  by_cases T:(b c).b.ch.length=1
  .let⟨h,m,y⟩:=L ω;let⟨x,ex⟩:=List.length_eq_one_iff.1 T;rw[ex]at y j;rw[m]at j;replace j:=St.mk j.env (j.sat.get y.cons.cons.cons.cons) j.sz;refine aX (λM=>M) 1 F A d t j 17 [1,0,1,1,1,0,3,1,1,0,3,1,0,0,0,3] 2080766 [] [(109,.agg #[i6 3,i6 0,i6 0]),(104,.bool true),(108,.agg #[i6 (List.getD [x] 0 (iN.mk 0 0 0)).k,i6 (List.getD [x] 0 (iN.mk 0 0 0)).l,i6 (List.getD [x] 0 (iN.mk 0 0 0)).n]),(107,.pointer (some (Addr.add h (Int.toNat 0*3)))),(106,.slice (some h) 1 (l c)),(105,.pointer (some (Addr.mk B2 3 none))),(102,.bool true),(101,i6 1),(100,.slice (some h) 1 (l c)),(99,.pointer (some (Addr.mk B2 3 none))),(14,ptr B2),(10,i6 a),(9,.bool r),(8,.bool g),(7,i6 n),(6,i6 c),(5,.bool f),(2,ptr k),(1,i6 q)] 90 5 [] [] [((b c).b.k==2,true)] [(0,1)] [] λJ I i e p u H=>eqS F d 108 109 110 x ρ ρ ρ δ rfl rfl i λm D s=>?_;rw[show jB (pc prog 23 90 (Bo 5) [])=pc prog 23 91 [true,false] [] by kernel_rfl];replace s:=s.trans e;have S:(x.k==3&&(x.l==0&&(x.n==0&&true)))=true↔ET (b c).b:=by
    unfold ET;rw[ex];let⟨_,_,m⟩:=x;simp[O]
   generalize (x.k==3&&(x.l==0&&(x.n==0&&true)))=z at D S;have o:=St.mk D i.sat i.sz;have m:=p;refine aq (λM=>M) 1 F A d s o 3 [] 1 [] [(15,.bool z),(110,.bool z),(109,.agg #[i6 3,i6 0,i6 0]),(108,.agg #[i6 (List.getD [x] 0 (iN.mk 0 0 0)).k,i6 (List.getD [x] 0 (iN.mk 0 0 0)).l,i6 (List.getD [x] 0 (iN.mk 0 0 0)).n]),(107,.pointer (some (Addr.add h (Int.toNat 0*3)))),(106,.slice (some h) 1 (l c)),(105,.pointer (some (Addr.mk B2 3 none))),(102,.bool true),(101,i6 1),(100,.slice (some h) 1 (l c)),(99,.pointer (some (Addr.mk B2 3 none))),(14,ptr B2),(10,i6 a),(9,.bool r),(8,.bool g),(7,i6 n),(6,i6 c),(5,.bool f),(2,ptr k),(1,i6 q)] 94 5 [] λw o m h v v v=>K z _ w o S ω h (m.dB _ rfl).env m.sat.tail
  .refine aX (λM=>M) 1 F A d t j 21 [0,0,1,1,0,0,3,1] 1398014 [] [(15,.bool false),(110,.tuple #[]),(109,.tuple #[]),(108,.tuple #[]),(107,.tuple #[]),(106,.tuple #[]),(105,.tuple #[]),(102,.bool ((↑(List.length (b c).b.ch):Int)==1)),(101,i6 (↑(List.length (b c).b.ch):Int)),(100,.slice (os c) (List.length (b c).b.ch) (l c)),(99,.pointer (some (Addr.mk B2 3 none))),(14,ptr B2),(10,i6 a),(9,.bool r),(8,.bool g),(7,i6 n),(6,i6 c),(5,.bool f),(2,ptr k),(1,i6 q)] 94 5 [] [] [((↑(List.length (b c).b.ch):Int)==1,false),((b c).b.k==2,true)] [] [] λJ I i e p u H=>K false _ J I ⟨nofun,λz=>absurd (by rw[z.2];rfl) T⟩ ω e (i.dB _ rfl).env i.sat
 .refine aX (λM=>M) 1 F A d t j 21 [0,0,1,1] 1398100 [] [(15,.bool false),(110,.tuple #[]),(109,.tuple #[]),(108,.tuple #[]),(107,.tuple #[]),(106,.tuple #[]),(105,.tuple #[]),(102,.tuple #[]),(101,.tuple #[]),(100,.tuple #[]),(99,.tuple #[]),(14,ptr B2),(10,i6 a),(9,.bool r),(8,.bool g),(7,i6 n),(6,i6 c),(5,.bool f),(2,ptr k),(1,i6 q)] 94 5 [] [] [((b c).b.k==2,false)] [] [] λJ I i e p u H=>K false _ J I ⟨nofun,λz=>absurd z.1 O⟩ ω e (i.dB _ rfl).env i.sat
def aaw(F:aB prog main (DX Q) W)(l:HB B Q){U:aC}(d:U.kind=.normal)(e:U.fn=23){cf:aC}{Z:cO}{C:aW}{E:eP}{ec o m Bt:Nat}{q:Int}{L:LS}{os:p9}{O:bU}(A:L.el<1000000)(hm:m<=9)(hq:q≠7)(D:0<L.el->∃a,E=some a)(v:∀j,j<m->0<(L.ou j).b.ch.length->∃ca,os j=some ca/\Has C (gQ ca (L.ou j).b.ch)):
 ∀(k c:Nat)(f:Bool)(H:Act)(w:aj)(B2:Nat),c+k=m->H.defers=[]->B<=B2->w.heap.size=B2->
   St Q B2 131 [(6,i6 c),(5,.bool f),(2,ptr Bt),(1,i6 q)] (bR Bt [.slice (some ⟨o,0,none⟩) m m,.slice E L.el ec]::sK E L.ev L.el::SY o L.ou os O m::C) 0 H w->
   (∀r b,w.heap.size<=b.heap.size->(aak q L m->r=true)->Sat Q b (sK E L.ev L.el::SY o L.ou os O m::C)->W (G (cf.finish (.bool r)) Z) b)->
   W (G (U.at H (pc prog 23 16 [] [])) (cf::Z)) w
 |0,c,f,H,w,B2,hi,h,x,R,I,K=>by
  have B:decide ((c:Int)<(m:Int))=false:=θ
  generalize L.el=el at*;refine ZI F l d e h I 15 [0,0,0,1] 4 [] 4 (.bool true) 31 2 [] [] [(decide ((↑c:Int)<(↑m:Int)),false)] [] [] λJ p P S=>K true J ω (λ_=>rfl) p.sat.tail
 |k+1,c,f,H,w,B2,hi,h,x,R,I,K=>by
  have hf:∀b:World,w.heap.size<=b.heap.size->¬aak q L m->Sat Q b (sK E L.ev L.el::SY o L.ou os O m::C)->W (G (cf.finish (.bool false)) Z) b:=λb u t s=>K false b u (λy=>absurd y t) s;generalize hE:L.el=el at I;refine TP F l d h I 36 [0,0,0,1] 6 [] [(11,i6 0),(10,i6 0),(9,.bool false),(8,.bool false),(7,i6 0),(6,i6 c),(5,.bool f),(2,ptr Bt),(1,i6 q)] 52 3 [] [] [(decide ((↑c:Int)<(↑m:Int)),true)] [] [] λm J p V P S h=>?_;rw[<-hE]at p;refine aax F l d e A D L.el 0 f false false 0 0 m J B2 ω ⟨λ_ j h=>ω,rfl,nofun,λz=>absurd rfl z⟩ V x ω ⟨(p.dB _ rfl).env,p.sat,p.sz⟩ (λb u t s=>hf b ω (λz=>?_) t) λf g r n a a C u G h n m=>?_
  .let⟨i,x,o,w,q⟩:=s;let⟨j,g,a,B⟩:=z.1 i x o.1 (by rcases o.2 with y|y;exact absurd y w;exact y);exact q j g ⟨a,.inl B⟩
  .refine aaS F l d ω hm (v c ω) h (B2:=C.heap.size) ω rfl ⟨n,m,rfl⟩ λz h h m hz h h j i=>aaR F l d e ω h (B2:=m.heap.size) ω rfl ⟨j,i,rfl⟩ (λb u t s=>hf b ω (λy=>s ?_) t) λa4 w4 u T Y X=>?_
   .let⟨g,a⟩:=G.fin y hq ω;refine⟨g,?_⟩;rcases a with ⟨N,M⟩|⟨N,M,u3,u4⟩
    .exact .inl ⟨N,by cases z with|false=>rfl|true=>exact absurd (hz.1 rfl) M⟩
    .exact .inr ⟨N,hz.2 M,u3,u4⟩
   .exact aaw F l d e A hm hq D v k (c+1) f a4 w4 w4.heap.size ω T ω rfl ⟨Y,X,rfl⟩ λr b z=>K r b ω
def aaz(F:aB prog main (DX Q) W)(k:HB B Q){w:aj}{l:Nat}{q:Int}{L:LS}{g:bU}(e:L.el<1000000)(p:m<=9)(n:q≠7)(f:0<L.el->∃a,E=some a)(d:∀j,j<m->0<(L.ou j).b.ch.length->∃a,os j=some a/\Has C (gQ a (L.ou j).b.ch))(h:Sat Q w (sK E L.ev L.el::SY o L.ou os g m::C))(a:B<=w.heap.size)(K:∀r b,w.heap.size<=b.heap.size->(aak q L m->r=true)->Sat Q b (sK E L.ev L.el::SY o L.ou os g m::C)->W (G (cf.finish (.bool r)) Z) b):W (G (Frame.enter prog 23 #[.agg #[.slice (some ⟨o,0,none⟩) m m,.slice E L.el l],i6 q] .normal) (cf::Z)) w:=by
 generalize s:L.el=el;refine cJ func23 h 131 λU a i a a h g t j=>aq (λM=>bR (i) [.slice (some ⟨o,0,none⟩) m m,.slice E el l]::(M)) 1 F k a g t 16 [] 1 [] [(6,i6 0),(5,.bool true),(2,ptr i),(1,i6 q)] 16 1 [] λo j c g l l l=>?_;rw[<-s]at c;exact aaw F k a h e p n f d m 0 true o j (i+1) ω g ω ω ⟨c.env,c.sat,c.sz⟩ λr b z=>K r b ω
def aav(F:aB prog main (DX Q) W)(D:HB B Q){U:aC}(j:U.kind=.normal){Z:cO}{R:aW}{X:Addr}{E:eP}{n s k q el S:Nat}{L:oF}{vv:Nat->OZ}{v:ay}(hk:k<n)(hn:n<=6)(O:el<1000000)(H:0<el->∃a,E=some a)(ha:L k 1<=9)(y:∀i,i<=el->0<=Fv k vv i/\Fv k vv i<=L k 1)(V:Fv k vv el=0)(K:∀T a,B<=a.heap.size->T.defers=[]->aR [(9,i6 ((k+1:Nat):Int)),(5,ptr q),(0,.slice (some X) n s)] 94 T->Sat Q a (fR X 6 (oG L) n false::bR q [v,.slice E el S]::sK E vv el::R)->W (G (U.at T (pc prog 11 63 [false,false] [])) Z) a):
 ∀(r i:Nat)(C:Act)(w:aj),i+r=el->C.defers=[]->B<=w.heap.size->
   aR [(11,i6 i),(10,i6 (Fv k vv i)),(9,i6 k),(5,ptr q),(0,.slice (some X) n s)] 94 C->Sat Q w (fR X 6 (oG L) n false::bR q [v,.slice E el S]::sK E vv el::R)->
   W (G (U.at C (pc prog 11 98 [false,false,true,false] [])) Z) w
 |0,i,C,w,hi,h,z,J,P=>by
  have a:decide ((i:Int)<(el:Int))=false:=θ
  have e:i=el:=ω
  subst e;rw[V]at J;have N:IntKind.wrap .i64 ((k:Int)+1)=((k+1:Nat):Int):=by rw[aA ω ω];rfl
  have t:St Q w.heap.size 94 _ _ 0 C w:=⟨J,P,rfl⟩;have u:w.heap.size=w.heap.size:=rfl;generalize w.heap.size=B2 at t u z;refine TP F D j h t 25 [1,0,1,1] 20 [] [(9,i6 (IntKind.wrap .i64 ((↑k:Int)+1))),(5,ptr q),(0,.slice (some X) n s)] 123 68 [] [] [(decide ((↑i:Int)<(↑i:Int)),false)] [] [] λg f d b l m p=>?_;rw[N]at d;rw[show pc prog 11 123 (Bo 68) []=pc prog 11 63 [false,false] [] by kernel_rfl];exact K g f ω b (d.dB _ rfl).env d.sat
 |r+1,i,C,w,hi,h,z,J,P=>by
  obtain⟨Y,rfl⟩:=H ω;have o:IntKind.wrap .i64 ((i:Int)+1)=((i+1:Nat):Int):=by rw[aA ω ω];rfl
  have a:=y i ω;have a:=y (i+1) ω;have a:Fv k vv (i+1)=Fv k vv i+Eu k (vv i):=rfl;have I:∀(g:Act)(f:aj)(A:aH)(x:Int),x=Fv k vv (i+1)->B<=f.heap.size->g.defers=[]->aR [(11,i6 ((i+1:Nat):Int)),(10,i6 x),(9,i6 k),(5,ptr q),(0,.slice (some X) n s)] 94 g->Sat Q f (A::fR X 6 (oG L) n false::bR q [v,.slice (some Y) el S]::sK (some Y) vv el::R)->W (G (U.at g (pc prog 11 98 [false,false,true,false] [])) Z) f:=λg f A x A x v e a=>
   aav F D j hk hn O H ha y V K r (i+1) g f ω v x (by rw[<-A];exact e) a.tail
  have t:St Q w.heap.size 94 _ _ 0 C w:=⟨J,P,rfl⟩;have u:w.heap.size=w.heap.size:=rfl;generalize w.heap.size=B2 at t u z;generalize hc:Fv k vv i=c at*;by_cases e:(vv i).l=k
  .have a:((vv i).l !=(k:Int))=false:=by simpa using e
   by_cases w:(vv i).w=13
   .have a:((vv i).w==13)=true:=by simpa using w
    have r:Eu k (vv i)=1:=by unfold Eu;simp[e,w]
    have a:IntKind.wrap .i64 (c+1)=c+1:=aA ω ω;have y:decide (IntKind.wrap .i64 (c+1)>L k 1)=false:=by rw[a];simp;omega
    have x:decide (IntKind.wrap .i64 (c+1)<0)=false:=by rw[a];simp;omega
    refine aX (λM=>bR (B2) [i6 (vv i).a,i6 (vv i).c,i6 (vv i).l,i6 (vv i).w,i6 (vv i).n]::(M)) 1 F D j h t 75 [1,0,1,1,1,0,1,1,2,i,0,105,0,0,0,5,0,0,2,2,1,k,1,101] 70282 [] [(11,i6 (IntKind.wrap .i64 ((↑i:Int)+1))),(10,i6 (IntKind.wrap .i64 (c+1))),(9,i6 k),(5,ptr q),(0,.slice (some X) n s)] 173 340 [] [] [(decide (IntKind.wrap .i64 (c+1)<0),false),(decide (IntKind.wrap .i64 (c+1)>L k 1),false),((vv i).w==13,true),((vv i).l !=(↑k:Int),false),(decide ((↑i:Int)<(↑el:Int)),true)] [((↑k:Int),n),((↑i:Int),el)] [(1,(k,n)),(5,(i,el))] λg f d b l m p=>?_;rw[o,a]at d;rw[show pc prog 11 173 (Bo 340) []=pc prog 11 98 [false,false,true,false] [] by kernel_rfl];exact I g f _ (c+1) ω ω b (d.dB _ rfl).env d.sat
   .by_cases v:(vv i).w=14
    .have A:((vv i).w==14)=true:=by simpa using v
     have r:Eu k (vv i)=-1:=by unfold Eu;simp[e,v]
     have a:IntKind.wrap .i64 (c-1)=c-1:=aA ω ω;have y:decide (IntKind.wrap .i64 (c-1)>L k 1)=false:=by rw[a];simp;omega
     have x:decide (IntKind.wrap .i64 (c-1)<0)=false:=by rw[a];simp;omega
     refine aX (λM=>bR (B2) [i6 (vv i).a,i6 (vv i).c,i6 (vv i).l,i6 (vv i).w,i6 (vv i).n]::(M)) 1 F D j h t 81 [1,0,1,1,1,0,1,1,2,i,0,105,0,0,0,5,0,0,2,2,1,k,1,101] 281098 [] [(11,i6 (IntKind.wrap .i64 ((↑i:Int)+1))),(10,i6 (IntKind.wrap .i64 (c-1))),(9,i6 k),(5,ptr q),(0,.slice (some X) n s)] 179 660 [] [] [(decide (IntKind.wrap .i64 (c-1)<0),false),(decide (IntKind.wrap .i64 (c-1)>L k 1),false),((vv i).w==14,true),((vv i).w==13,false),((vv i).l !=(↑k:Int),false),(decide ((↑i:Int)<(↑el:Int)),true)] [((↑k:Int),n),((↑i:Int),el)] [(1,(k,n)),(5,(i,el))] λg f d b l m p=>?_;rw[o,a]at d;rw[show pc prog 11 179 (Bo 660) []=pc prog 11 98 [false,false,true,false] [] by kernel_rfl];exact I g f _ (c-1) ω ω b (d.dB _ rfl).env d.sat
    .have r:Eu k (vv i)=0:=by unfold Eu;simp[w,v]
     refine aX (λM=>bR (B2) [i6 (vv i).a,i6 (vv i).c,i6 (vv i).l,i6 (vv i).w,i6 (vv i).n]::(M)) 1 F D j h t 77 [1,0,1,1,1,0,1,1,2,i,0,105,0,0,0,5,0,0,2,2,1,k,1,101] 280586 [] [(11,i6 (IntKind.wrap .i64 ((↑i:Int)+1))),(10,i6 c),(9,i6 k),(5,ptr q),(0,.slice (some X) n s)] 175 532 [] [] [(decide (c<0),false),(decide (c>L k 1),false),((vv i).w==14,false),((vv i).w==13,false),((vv i).l !=(↑k:Int),false),(decide ((↑i:Int)<(↑el:Int)),true)] [((↑k:Int),n),((↑i:Int),el)] [(1,(k,n)),(5,(i,el))] λg f d b l m p=>?_;rw[o]at d;rw[show pc prog 11 175 (Bo 532) []=pc prog 11 98 [false,false,true,false] [] by kernel_rfl];exact I g f _ c ω ω b (d.dB _ rfl).env d.sat
  .have r:Eu k (vv i)=0:=by unfold Eu;simp[e]
   refine aX (λM=>bR (B2) [i6 (vv i).a,i6 (vv i).c,i6 (vv i).l,i6 (vv i).w,i6 (vv i).n]::(M)) 1 F D j h t 39 [1,0,1,1,1,0,1,1,2,i,0,105,0,0,0,5,0,0,2,1] 106 [] [(11,i6 (IntKind.wrap .i64 ((↑i:Int)+1))),(10,i6 c),(9,i6 k),(5,ptr q),(0,.slice (some X) n s)] 137 116 [] [] [((vv i).l !=(↑k:Int),true),(decide ((↑i:Int)<(↑el:Int)),true)] [((↑i:Int),el)] [(5,(i,el))] λg f d b l m p=>?_;rw[o]at d;rw[show pc prog 11 137 (Bo 116) []=pc prog 11 98 [false,false,true,false] [] by kernel_rfl];exact I g f _ c ω ω b (d.dB _ rfl).env d.sat
def aau(F:aB prog main (DX Q) W)(z:HB B Q){U:aC}(d:U.kind=.normal){Z:cO}{R:aW}{X E:eP}{n C q el J:Nat}{L:oF}{vv:Nat->OZ}{v:ay}(O:n<=6)(t:0<n->∃a,X=some a)(x:el<1000000)(y:0<el->∃a,E=some a)(u:∀k,k<n->L k 0=5->L k 1<=9/\Fv k vv el=0/\∀i,i<=el->0<=Fv k vv i/\Fv k vv i<=L k 1)(K:∀M a,B<=a.heap.size->M.defers=[]->aR [(4,.bool true)] 94 M->W (G (U.at M (pc prog 11 77 [false,false,false] [])) Z) a):
 ∀(r k:Nat)(l:Act)(w:aj),k+r=n->l.defers=[]->B<=w.heap.size->
   aR [(9,i6 k),(5,ptr q),(0,.slice X n C)] 94 l->Sat Q w (El X n L::bR q [v,.slice E el J]::sK E vv el::R)->W (G (U.at l (pc prog 11 63 [false,false] [])) Z) w
 |0,k,l,w,P,f,j,I,H=>by
  have a:decide ((k:Int)<(n:Int))=false:=θ
  have m:St Q w.heap.size 94 _ _ 0 l w:=⟨I,H,rfl⟩;have h:w.heap.size=w.heap.size:=rfl;generalize w.heap.size=B2 at m h j;refine TP F z d f m 14 [] 4 [] [(4,.bool true)] 77 8 [] [] [(decide ((↑k:Int)<(↑n:Int)),false)] [] [] λe b g c p s A=>K e b ω c g.env
 |r+1,k,l,w,P,f,j,I,H=>by
  obtain⟨o,rfl⟩:=t ω;have D:IntKind.wrap .i64 ((k:Int)+1)=((k+1:Nat):Int):=by rw[aA ω ω];rfl
  have N:∀e b,B<=b.heap.size->e.defers=[]->aR [(9,i6 ((k+1:Nat):Int)),(5,ptr q),(0,.slice (some o) n C)] 94 e->Sat Q b (fR o 6 (oG L) n false::bR q [v,.slice E el J]::sK E vv el::R)->W (G (U.at e (pc prog 11 63 [false,false] [])) Z) b:=λe b i a=>aau F z d O t x y u K r (k+1) e b ω a i;have m:St Q w.heap.size 94 _ (fR o 6 (oG L) n false::bR q [v,.slice E el J]::sK E vv el::R) 0 l w:=⟨I,H,rfl⟩;have h:w.heap.size=w.heap.size:=rfl;generalize w.heap.size=B2 at m h j;by_cases a:L k 0=5
  .have i:(L k 0 !=5)=false:=by simpa using a
   let⟨t,r,i⟩:=u k ω a;refine TP F z d f m 35 [0,k,0,101] 74 [] [(11,i6 0),(10,i6 0),(9,i6 k),(5,ptr q),(0,.slice (some o) n C)] 98 20 [] [] [(L k 0 !=5,false),(decide ((↑k:Int)<(↑n:Int)),true)] [((↑k:Int),n)] [(1,(k,n))] λe b g c p s A=>aav F z d ω O x y t i r N el 0 e b ω c ω (g.dB _ rfl).env g.sat
  .refine TP F z d f m 30 [0,k,0,101] 106 [] [(9,i6 (IntKind.wrap .i64 ((↑k:Int)+1))),(5,ptr q),(0,.slice (some o) n C)] 93 28 [] [] [(L k 0 !=5,true),(decide ((↑k:Int)<(↑n:Int)),true)] [((↑k:Int),n)] [(1,(k,n))] λe b g c p s A=>?_;rw[D]at g;rw[show pc prog 11 93 (Bo 28) []=pc prog 11 63 [false,false] [] by kernel_rfl];exact N e b ω c (g.dB _ rfl).env g.sat
def zo{P:aG}{b:aC}{a:Act}{fn:Func}{c:eC}{w:aj}{v:ay}(e:b.kind=.normal)(f:P.inits.idxOf? b.fn=none)(i:a.defers=[])(g:P.funcs[b.fn]? =some fn)(d:(results fn a.tmps).run P w=.ok v w)(h:(results fn a.tmps).events P w #[]=#[]):
 stepG P true (G {b.at a c with mode:=.returning} []) w=.ended (.done v) w #[]:=by
 simp[G,stepG,unwind,doReturn,Frame.at,e,i,g,d,h,f,seen,GStep.after]
def Of:prog.inits.idxOf? 11=none:=ρ
theorem aam{l:aN}{e N:Nat}(F:aB prog true (DX (cP wI.heap.size l [])) (nM prog Post (Old wI) (jq l) e))(g:U.kind=.normal)(c:U.fn=11){a:Act}{w:aj}{k:eC}(h:a.defers=[])(j:aR [(4,.bool true)] N a)(i:∀b,Old wI b->Post (.bool true) b):nM prog Post (Old wI) (jq l) e (G (U.at a (.code .ret::k)) []) w:=by
 have b:∀t:List Item,nM prog Post (Old wI) (jq l) e (G {U.at a t with mode:=.returning} []) w:=λt=>by
  have e:a.tmps.getD 4 undef=.bool true:=by rw[oK,j.val 4 (.bool true) rfl];rfl
  have f:=resultsC_tmp (P:=prog) (fn:=f11) (t:=4) φ a.tmps;rw[e]at f;refine At.Rv (v:=.bool true) (es:=#[]) rfl (λd=>?_) ψ (λd a=>i _ a) gN;exact zo g (by rw[c];exact Of) h (by rw[c];exact func11) (f _).1 (f _).2
 exact F.ctl (λ_=>stepG_ret') (b _)
section
variable{L:oF}{g:Nat->Cl}
theorem L8(H:Ds wI X n L sa m g){D cap:Nat}(hP:∀u,Old wI u->Post (.bool true) u):nM prog Post (Old wI) (jq []) 1 (G (Frame.enter prog 11 #[.slice X n D,.slice sa m cap] .normal) []) wI:=by
 have F:=nA (P:=prog) (Post:=Post) (wI:=wI) (l:=[]) 1;have t:∀(a:Addr)(wr:Bool),wI.heap.size<=a.block->cP wI.heap.size [] [] a wr:=λa wr z=>iX (by nofun) (az _) z wr;have hS:Sat (cP wI.heap.size [] []) wI []:=lD nofun
 have yQ:wI.heap.size<=wI.heap.size:=az _;refine cJ func11 hS 94 λU a0 B1 hn b qh tN S0 P9=>Rb F t b tN S0 8 [] 1 [] [(15,.slice sa m cap),(14,.slice X n D),(0,.slice X n D)] 8 1 [] λa1 l S1 Nt zS Dx o9=>Af F b 16 19 #[.slice X n D,.slice sa m cap] ρ ρ δ S1 λcR hcR=>At.assume gN λW=>At.keep (K':=Old l) (λd=>Iw l) ?_;have d:=H.old W;refine ES (wI:=l) d (λh=>Rr (zl h) (aaB.and (p:=0<(nC n L m g).nl/\((nC n L m g).ly 0).k=5) (aaC (zl h))) ⟨aaU (zl h),λ_=>aaV _⟩) (λv I f d R V=>?_) λhck e s v I o E J g C f d R V hea hC hev hou mQ Hg=>?_
 .refine hcR _ _ _ λa2 Y q=>?_;clear F t;have F:=nA (P:=prog) (Post:=Post) (wI:=l) (l:=v) I;have Q:l.heap.size<=f.heap.size:=V.2.2.2.1;have t:∀(a:Addr)(wr:Bool),f.heap.size<=a.block->cP l.heap.size v [] a wr:=λa wr z=>iX (N:=f.heap.size) (λx hx=>(R x hx).2) Q z wr;have T0:Sat (cP l.heap.size v []) f []:=lD nofun
  have S2:St (cP l.heap.size v []) f.heap.size 94 [(16,.tuple #[.agg #[.slice none 0 0,.slice none 0 0],.bool false,.bool true])] [] 0 a2 f:=⟨Y.sub (by intro p hp;simp only[ak,bH,or_false]at hp;subst hp;rfl),T0,rfl⟩;have O:f.heap.size=f.heap.size:=rfl;replace q:=q.trans Nt;generalize hB2:f.heap.size=B2 at S2 O t;refine aq (λM=>bR (B2) [.slice none 0 0,.slice none 0 0]::(M)) 1 F t b q S2 25 [0,0,0,2] 127 [] [(4,.bool true)] 34 3 [] λa3 w3 S3 T YF yO mH=>aam F b qh T S3.env λu P=>hP u (Fg W P)
 .refine hcR _ _ _ λa2 Y q=>?_;clear F t;have F:=nA (P:=prog) (Post:=Post) (wI:=l) (l:=v) I;have Q:l.heap.size<=f.heap.size:=V.2.2.2.1;have t:∀(a:Addr)(wr:Bool),f.heap.size<=a.block->cP l.heap.size v [] a wr:=λa wr z=>iX (N:=f.heap.size) (λx hx=>(R x hx).2) Q z wr;have d:Has C (El X n L):=Hg _ (bI ..);let⟨os,oc,h2,hos⟩:=Zt (hC.get d) hou.cons (λj hj=>by
   rcases mQ j hj with z|⟨ca,d,i,Z,N⟩
   .exact .inl z
   .exact .inr ⟨ca,d,i+1,Z,N⟩)
  have S2:St (cP l.heap.size v []) f.heap.size 94 [(16,.tuple #[.agg #[.slice (some ⟨o,0,none⟩) m m,.slice E e.el J],.bool true,.bool true]),(0,.slice X n D)] (sK E e.ev e.el::SY o e.ou os oc m::El X n L::C) 0 a2 f:=⟨Y.sub (by intro p hp;simp only[ak,bH,or_false]at hp;rcases hp with rfl|rfl<;>rfl),h2.get hev.cons.cons,rfl⟩;have O:f.heap.size=f.heap.size:=rfl;replace q:=q.trans Nt;have Ty:=s.2.2.2;generalize hB2:f.heap.size=B2 at S2 O t;have hV:=zl hck;generalize hE:e.el=el at S2;refine aq (λM=>bR (B2) [.slice (some ⟨o,0,none⟩) m m,.slice E el J]::(M)) 1 F t b q S2 24 [0,0,0,2,0,0,0,2] 85 [] [(27,.agg #[.slice (some ⟨o,0,none⟩) m m,.slice E el J]),(5,ptr B2),(0,.slice X n D)] 33 2 [] λa3 w3 S3 T YF yO mH=>ah F b T S3 28 23 #[.agg #[.slice (some ⟨o,0,none⟩) m m,.slice E el J],i6 13] λd Nv=>?_;rw[<-hE]at S3 ⊢;have h3:=S3.sat.perm (M':=sK E e.ev e.el::SY o e.ou os oc m::bR B2 [.slice (some ⟨o,0,none⟩) m m,.slice E e.el J]::El X n L::C) (D2 (l₁:=[_]) (l₂:=[_,_])|>.append_right _);refine aaz F t Ty hV.nc δ hea (λj hj z=>by let⟨ca,Z,N⟩:=hos j hj z;exact⟨ca,Z,N.cons⟩) h3 ω λr w4 d hr h4=>Nv _ _ _ h4 λa4 B4 B S d=>?_;have h:=B.sat.perm (M':=El X n L::bR B2 [.slice (some ⟨o,0,none⟩) m m,.slice E e.el J]::sK E e.ev e.el::SY o e.ou os oc m::C) ((D2 (l₁:=[_,_]) (l₂:=[_,_])|>.trans (List.Perm.append_right [_,_] (List.Perm.swap ..))).append_right _);have A:∀(a':Act)(u:aj),w4.heap.size<=u.heap.size->a'.defers=[]->aR [(9,i6 ((0:Nat):Int)),(5,ptr B2),(0,.slice X n D)] 94 a'->Sat (cP l.heap.size v []) u (El X n L::bR B2 [.slice (some ⟨o,0,none⟩) m m,.slice E e.el J]::sK E e.ev e.el::SY o e.ou os oc m::C)->nM prog Post (Old l) (jq v) I (G (U.at a' (pc prog 11 63 [false,false] [])) []) u:=λa' u Z N g f=>
   aau (n:=n) F t b hV.nl (λz=>by let⟨a,y,_⟩:=H.q1 z;exact⟨a,y⟩) Ty hea (λk d a=>⟨(hV.ro k d a).1.2,aar s.1.1 s.2.2.1 d a,(s.1.1.2.1 k d a).2.2.2⟩) (λa a _ d a=>aam F b qh d a λu P=>hP u (Fg W P)) n 0 a' u ω N ω g f
  have a:=H.q1;have hLP:0<n->L 0 0=5->r=true:=λZ N=>hr (by
   have hj:=(s.1.2 ⟨Z,N⟩).1;exact⟨hj.fs,λc d=>hj.en c d (s.2.2.1 c (ga d s.2.1))⟩)
  replace B:=St.mk B.env h B.sz;by_cases h0:0<n
  .obtain⟨sA,rfl,_⟩:=a h0;have a:decide ((n:Int)>0)=true:=θ
   have B:St (cP l.heap.size v []) B4 94 _ (fR sA 6 (oG L) n false::bR B2 [.slice (some ⟨o,0,none⟩) m m,.slice E e.el J]::sK E e.ev e.el::SY o e.ou os oc m::C) 0 a4 w4:=B;generalize e.el=el at B A;by_cases h4:L 0 0=5
   .have a:(L 0 0==5)=true:=by simpa using h4
    have Qo:=hLP h0 h4;subst Qo;refine TP F t b S B 29 [0,0,0,101] 389102 [] [(9,i6 0),(5,ptr B2),(0,.slice (some sA) n D)] 63 4 [] [] [(L 0 0==5,true),(decide ((↑n:Int)>0),true)] [(0,n)] [(1,(0,n))] λa5 w5 K w Y5 Dw qO=>A a5 w5 ω w (K.dB _ rfl).env K.sat
   .refine TP F t b S B 29 [0,0,0,101] 348142 [] [(9,i6 0),(5,ptr B2),(0,.slice (some sA) n D)] 63 4 [] [] [(L 0 0==5,false),(decide ((↑n:Int)>0),true)] [(0,n)] [(1,(0,n))] λa5 w5 K w Y5 Dw qO=>A a5 w5 ω w (K.dB _ rfl).env K.sat
  .generalize e.el=el at B A;refine TP F t b S B 29 [] 87380 [] [(9,i6 0),(5,ptr B2),(0,.slice X n D)] 63 4 [] [] [(decide ((↑n:Int)>0),false)] [] [] λa5 w5 K w Y5 Dw qO=>A a5 w5 ω w (K.dB _ rfl).env K.sat
end
end Go.Proofs.YtobagnjnbmgidaaGreatDoor
