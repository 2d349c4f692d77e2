import Derived.Test.YtobagnjnbmgidabGreatDoorA1
set_option linter.all false
namespace Go.Proofs.YtobagnjnbmgidabGreatDoor
variable{l:Int}{y:ju}{n v:Nat}{cur:oQ}
variable{α β p m t i k j w:Nat}{V:Ev0}{a:Nat->Int}{X:Int}{μ ν:bU}{E:Nat->Option Nat}{b b':Bk}
def wG(f:bU):Nat->Nat
 |0=>0
 |n+1=>wG f n+f n
def l5(f:bU)(t v:Nat):∀n,wG (upd f t v) n+(if t<n then f t else 0)=wG f n+(if t<n then v else 0)
 |0=>by simp[wG]
 |n+1=>by
  have h:=l5 f t v n;simp only[wG];by_cases b:t<n
  .have:(upd f t v) n=f n:=by simp[upd];omega
   grind
  .by_cases a:t=n
   .subst a;have:(upd f t v) t=v:=by simp[upd]
    grind
   .have:(upd f t v) n=f n:=by simp[upd];omega
    grind
def oM{f g:bU}:∀n,(∀i,i<n->f i=g i)->wG f n=wG g n
 |0,_=>rfl
 |n+1,h=>by simp only[wG];rw[oM n λi a=>h i ω,h n ω]
def Et(f:bU)(t:Nat):∀n,t<n->f t<=wG f n
 |0,h=>ω
 |n+1,h=>by
  simp only[wG];by_cases a:t=n
  .simp_all
  .have:=Et f t n ω;omega
def DM{f:bU}{c:Nat}:∀n,(∀i,i<n->f i<=c)->wG f n<=n*c
 |0,_=>by simp[wG]
 |n+1,h=>by simp only[wG];have:=DM n λi a=>h i ω;grind
def JR(f:bU)(v n:Nat):wG (upd f n v) (n+1)=wG f n+v:=by
 simp only[wG];rw[oM (g:=f) n λi a=>by simp[upd,iS a]];simp[upd]
def cI(α β:Nat)(V:Ev0):Nat->Nat
 |0=>β
 |d+1=>if(V.ly (V.nl-(d+1))).k=1 then 9*(cI α β V d+2*β)+β else if(V.ly (V.nl-(d+1))).k=6 then cI α β V d+α+6*β else cI α β V d+2*β
def oC(α β:Nat)(V:Ev0)(p:Nat)(a:Nat->Int):Nat->Nat
 |0=>β
 |j+1=>if j+1<=p then β else oC α β V p a j+β+if(V.ly j).k=1 then((V.ly j).a-a j).toNat*(cI α β V (V.nl-(j+1))+2*β)else 0
def jo(α β:Nat)(V:Ev0)(p:Nat)(a:Nat->Int)(k:Nat)(s:Option Bk):Nat:=oC α β V p a k+match s with
 |none=>cI α β V (V.nl-k)
 |some _=>0
def KS(h:p<=j):oC α β V p a (j+1)=oC α β V p a j+β+if(V.ly j).k=1 then((V.ly j).a-a j).toNat*(cI α β V (V.nl-(j+1))+2*β)else 0:=by
 conv=>lhs;unfold oC
 grind
def aay:∀k,k<=p->oC α β V p a k=β
 |0,_=>rfl
 |k+1,h=>by unfold oC;simp_all
def rR{b:Nat->Int}:∀k,(∀i,i<k->a i=b i)->oC α β V p a k=oC α β V p b k
 |0,_=>rfl
 |k+1,h=>by unfold oC;rw[rR k λi a=>h i ω,h k ω]
def Lg(a:k<V.nl):cI α β V (V.nl-k)=if(V.ly k).k=1 then 9*(cI α β V (V.nl-(k+1))+2*β)+β else if(V.ly k).k=6 then cI α β V (V.nl-(k+1))+α+6*β else cI α β V (V.nl-(k+1))+2*β:=by
 rw[show V.nl-k=(V.nl-(k+1))+1 by omega]
 conv=>lhs;unfold cI
 grind
def Uk:∀d,β<=cI α β V d
 |0=>az _
 |d+1=>by
  have:=Uk d;unfold cI;grind
def Fo:∀k,β<=oC α β V p a k
 |0=>az _
 |k+1=>by
  unfold oC;grind
def RJ(c:p<=k)(d:k<V.nl)(b:(V.ly k).k=1)(e:1<=(V.ly k).a/\(V.ly k).a<=9):jo α β V p (upd a k 1) (k+1) none+2*β<=jo α β V p a k none:=by
 have f:oC α β V p (upd a k 1) k=oC α β V p a k:=rR k λi e=>by simp[upd];omega
 have e:upd a k 1 k=1:=by simp[upd]
 have a:((V.ly k).a-1).toNat<=8:=ω
 have g:=F2 (cI α β V (V.nl-(k+1))+2*β) a;simp only[jo];rw[Lg d,sJ b,KS c,sJ b,f,e];omega
def yy(c:p<=k)(d:k<V.nl)(b:¬(V.ly k).k=1):jo α β V p a (k+1) none+β<=jo α β V p a k none:=by
 simp only[jo];rw[Lg d,af b,KS c,af b];grind
def Ow{a':Nat->Int}(c:k<V.nl)(d:(V.ly k).k=6):jo α β V p a k (some b)+jo α β V (k+1) a' (k+1) none+α+5*β=jo α β V p a k none:=by
 simp only[jo];rw[Lg c,af ω,sJ d,aay (p:=k+1) (k+1) (az _)];omega
def mw:jo α β V p a k (some b)+β<=jo α β V p a k none:=by have:=Uk (α:=α) (β:=β) (V:=V) (V.nl-k);simp only[jo];omega
def jd(c:p<=j):jo α β V p a j (some b')+β<=jo α β V p a (j+1) (some b):=by
 simp only[jo,KS c];omega
def RL(c:p<=j)(d:(V.ly j).k=1)(e:a j<(V.ly j).a):jo α β V p (upd a j (a j+1)) (j+1) none+2*β<=jo α β V p a (j+1) (some b):=by
 have f:oC α β V p (upd a j (a j+1)) j=oC α β V p a j:=rR j λi b=>by simp[upd];omega
 have e:upd a j (a j+1) j=a j+1:=by simp[upd]
 have b:((V.ly j).a-a j).toNat=((V.ly j).a-(a j+1)).toNat+1:=ω
 simp only[jo,KS c,sJ d,f,e,b,YD];omega
def Le{V:Ev0}:∀d,d<=V.nl->∃r,Ih V.ly V.nl=Ih V.ly (V.nl-d)+r/\(r=0->cI 0 3 V d<=18*d+3/\cI 1 0 V d<=d)/\(r<=1->cI 0 3 V d<=162*d+3/\cI 1 0 V d<=9*d)/\(r<=2->cI 0 3 V d<=1458*d+3/\cI 1 0 V d<=81*d)
 |0,_=>⟨0,ψ,by simp[cI],by simp[cI],by simp[cI]⟩
 |d+1,h=>by
  let⟨r,a,_,_,b⟩:=Le (V:=V) d ω;rw[show V.nl-d=(V.nl-(d+1))+1 by omega]at a;simp only[Ih]at a;unfold cI;by_cases e:(V.ly (V.nl-(d+1))).k=1
  .rw[sJ e]at a;rw[sJ e,sJ e];exact⟨r+1,ω,λz=>ω,λz=>ω,λz=>ω⟩
  grind
def Yp(b:wM V)(a:Nat->Int):jo 0 3 V 0 a 0 none<=8754/\jo 1 0 V 0 a 0 none<=486:=by
 let⟨r,_,_,_,c⟩:=Le (V:=V) V.nl (az _);have d:=b.nl;have d:=b.r2;have:=c ω;simp only[jo,Al];have b:oC 0 3 V 0 a 0=3:=rfl;have b:oC 1 0 V 0 a 0=0:=rfl;omega
def opn(L:LS):Nat:=wG (λi=>if(L.ag i).o=true then 0 else 1) L.al
def W6(L:LS):Nat:=wG (λi=>if(L.wt i).x=false/\(L.wt i).e=false then 1 else 0) L.wl
def A0{L:LS}{e:qy}(b:e.o=false):opn (L.put e)=opn L+1:=by
 unfold opn;show wG _ (L.al+1)=_;simp only[wG];rw[oM (g:=λi=>if(L.ag i).o=true then 0 else 1) L.al λi a=>by simp[LS.put,upd,iS a]];simp[LS.put,upd,b]
def vI{L:LS}(b:i<L.al)(a:(L.ag i).o=false):opn (L.pop i)+1=opn L:=by
 have:=l5 (λi=>if(L.ag i).o=true then 0 else 1) i 0 L.al;simp only[b,if_true,a]at this;unfold opn;rw[oM (g:=upd (λi=>if(L.ag i).o=true then 0 else 1) i 0) (L.pop i).al λj a=>by by_cases e:j=i<;>simp[LS.pop,upd,e]];simpa [LS.pop]using this
def KQ{L:LS}{a:Bool}:W6 (L.cB t l a)=W6 L+1:=by
 unfold W6;show wG _ (L.wl+1)=_;simp only[wG];rw[oM (g:=λi=>if(L.wt i).x=false/\(L.wt i).e=false then 1 else 0) L.wl λi a=>by simp[LS.cB,upd,iS a]];simp[LS.cB,upd]
def KR{L:LS}{z:Int}(c:w<L.wl)(a:(L.wt w).x=false)(d:(L.wt w).e=false):W6 (L.fix w z b)+1=W6 L/\opn (L.fix w z b)=opn L+1:=by
 refine⟨?_,A0 (L:={L with wt:=upd L.wt w {L.wt w with x:=true,z:=z,b:=b}}) rfl⟩;have:=l5 (λi=>if(L.wt i).x=false/\(L.wt i).e=false then 1 else 0) w 0 L.wl;simp only[c,if_true,a,d,and_self]at this;unfold W6;rw[oM (g:=upd (λi=>if(L.wt i).x=false/\(L.wt i).e=false then 1 else 0) w 0) (L.fix w z b).wl λj a=>by by_cases e:j=w<;>simp[LS.fix,LS.put,upd,e]];simpa [LS.fix,LS.put]using this
def qI(a:Nat->qy):∀i,∀k:Nat,cj a i=k->k<i/\(a k).o=false
 |0,k,h=>by simp[cj]at h
 |i+1,k,h=>by
  unfold cj at h;split at h
  .grind
  .have:=qI a i k h;grind
def Sw(m:Nat)(b:Bk):Prop:=b.ch.length+m<1000000/\(∀x∈b.ch.dropLast,x.k=7)/\((b.k=1/\b.ch=[])\/(b.k=2/\b.n=0/\b.ch≠[])\/(b.k=3/\b.ch=[]))
def Fv.less{g:Gt}{a:Nat}(h:Fv y g X m)(b:a<=m):Fv y g X a:=⟨h.nx,h.sm,h.st,by have:=h.pd;omega,h.si,by have:=h.pr;omega,by have:=h.tn;omega⟩
def Fv.x{g:Gt}{a:Int}(h:Fv y g X m)(b:X<=a):Fv y g a m:=⟨by have:=h.nx;omega,h.sm,h.st,h.pd,by have:=h.si;omega,h.pr,h.tn⟩
def X8(V:Ev0)(L:LS):Prop:=(∀t k,t<L.tl->k<V.nl->(V.ly k).k=4->(L.tk t).q k<=(L.gt k).pd/\((L.gt k).st=1->(L.tk t).q k<(L.gt k).pd))/\∀k,k<V.nl->(V.ly k).k=4->0<=(L.gt k).pd/\((L.gt k).st=1->0<(L.gt k).pd)
def fq(V:Ev0)(L:LS)(X:Int)(m:Nat):Prop:=(∀k,k<V.nl->3<=(V.ly k).k->Fv (V.ly k) (L.gt k) X m)/\X8 V L
def fq.g{L:LS}(h:fq V L X m):∀k,k<V.nl->3<=(V.ly k).k->Fv (V.ly k) (L.gt k) X m:=h.1
def fq.q{L:LS}(h:fq V L X m):X8 V L:=h.2
def fq.less{V:Ev0}{L:LS}{X:Int}{m:Nat}(h:fq V L X (m+1)):fq V L X m:=⟨λk a b=>(h.g k a b).less ω,h.q⟩
def fq.rW{L L':LS}(h:fq V L X (m+1))(e:L'.gt=L.gt)(a:L'.tl=L.tl)(c:∀u,(L'.tk u).q=(L.tk u).q):fq V L' X m:=⟨λk a b=>by rw[e];exact(h.g k a b).less ω,λt k b a b=>by rw[e,c];exact h.q.1 t k ω a b,λk a b=>by rw[e];exact h.q.2 k a b⟩
def fq.same{L L':LS}(h:fq V L X (m+1))(e:L'.gt=L.gt)(b:L'.tl=L.tl)(a:L'.tk=L.tk):fq V L' X m:=h.rW e b λu=>by rw[a]
def fq.x{V:Ev0}{L:LS}{X a:Int}{m:Nat}(h:fq V L X m)(b:X<=a):fq V L a m:=⟨λk a c=>(h.g k a c).x b,h.q⟩
def fq.set{L:LS}{g:Gt}(h:fq V L X (m+1))(f:3<=(V.ly k).k->Fv (V.ly k) g X m)(i:(L.gt k).pd<g.pd\/(g.pd=(L.gt k).pd/\g.st=(L.gt k).st)):fq V (L.aO k g) X m:=⟨λj a d=>by
 by_cases e:j=k
 .subst e;simp only[LS.aO,upd,if_true];exact f d
 .simp only[LS.aO,upd,af e];exact(h.g j a d).less ω,λt j d a c=>by
 have b:=h.q.1 t j d a c;by_cases e:j=k
 .subst e;simp only[LS.aO,upd,if_true];omega
 .simp only[LS.aO,upd,af e];exact b,λj a c=>by
 have b:=h.q.2 j a c;by_cases e:j=k
 .subst e;simp only[LS.aO,upd,if_true];omega
 .simp only[LS.aO,upd,af e];exact b⟩
def fq.mark{V:Ev0}{L:LS}{X:Int}{m k t:Nat}(h:fq V L X m)(b:(L.gt k).st≠1):fq V (L.mark t k) X m:=⟨h.g,λu j b d f=>by
 have c:=h.q.1 u j b d f;by_cases e:u=t
 .by_cases a:j=k
  .subst a;simp only[LS.mark,upd,sJ e,if_true];omega
  .simp only[LS.mark,upd,sJ e,af a];simp_all
 .simp only[LS.mark,upd,af e];exact c,h.q.2⟩
def Pc(x:Lm)(m:Nat)(a:m<900000):Sw m (cN x):=by
 unfold cN c9 Sw;grind
def AW(y:ju)(n:Int)(a:0<=y.d/\y.d<=10000):aI y n<=10000:=by
 unfold aI;grind
def Ke(b:wM V){c:Nat}(a:c<V.nc)(n:Nat):0<=(aU V c n).t/\(aU V c n).t<=1000:=by
 unfold aU;split
 .exact(b.tr c a n (by assumption)).2
 .simp
structure Gl(V:Ev0)(L L':LS):Prop where
 tl:L'.tl=L.tl
 el:L'.el<=L.el+1
 wl:L'.wl=L.wl
 tk:L'.tk=L.tk
 us:L'.us=L.us
 wt:L'.wt=L.wt
 now:L'.now=L.now
 al:L'.al=L.al
 ag:L'.ag=L.ag
 gt:∀(X:Int)(m:Nat),(0<=L.now/\L.now<=X)->fq V L X (m+1)->fq V L' X m
def Ik{g:Gt}{now:Int}(a:(1<=y.a/\y.a<=1000)/\(1<=y.b/\y.b<=20))(a:0<=now/\now<=X)(a:0<=g.nx/\g.nx<=X+20000)(a:g.sm=false->g.nx=0)(b:¬(g.sm=true/\g.nx-now>(y.b-1)*y.a)):0<=(if g.sm=false\/g.nx<now then now else g.nx)+y.a/\(if g.sm=false\/g.nx<now then now else g.nx)+y.a<=X+20000:=by
 by_cases e:g.sm=false\/g.nx<now
 .grind
 .rw[af e];have a:g.sm=true:=ξ
  have c:¬g.nx-now>(y.b-1)*y.a:=λz=>b ⟨a,z⟩;have a:(y.b-1)*y.a<=19*y.a:=WD ω ω;omega
def F4{L:LS}(t:Nat)(c:k<V.nl)(a:1<=(V.ly k).e/\(V.ly k).e<=9):Gl V L (L.aM t k):=by
 unfold LS.aM;split
 .refine⟨rfl,by simp[LS.say,LS.aO],rfl,rfl,rfl,rfl,rfl,rfl,rfl,λX m b h=>?_⟩;refine(fq.set (k:=k) (g:=(L.gt k).turn L.now 2) h (λd=>?_) (.inl (by simp only[Gt.turn];omega)));have a:=h.g k c d;exact⟨a.nx,a.sm,.inr (.inr ⟨rfl,by simp[Gt.turn];omega⟩),by have:=a.pd;simp only[Gt.turn];omega,b,by have:=a.pd;simp only[Gt.turn];omega,by have:=a.tn;simp only[Gt.turn];omega⟩
 .exact⟨rfl,ω,rfl,rfl,rfl,rfl,rfl,rfl,rfl,λX m b h=>h.less⟩
def EZ{L:LS}(t:Nat)(p:k<V.nl)(q:1<=(V.ly k).e/\(V.ly k).e<=9)(b:Gl V L (L.aM t k)):Gl V L ((L.aM t k).cz k):=by
 unfold LS.cz;split
 .rename_i o;refine⟨b.tl,b.el,b.wl,b.tk,b.us,b.wt,b.now,b.al,b.ag,λX m i h=>?_⟩;have f:=b.gt X m i h;refine⟨λj c l=>?_,λu j n c g=>?_,λj c g=>?_⟩
  .by_cases e:j=k
   .subst e;simp only[LS.aO,upd,if_true];have a:=h.g j c l;unfold LS.aM at o ⊢;split
    .refine⟨?_,?_,?_,?_,?_,?_,?_⟩<;>simp only[LS.say,LS.aO,upd,if_true,Gt.turn]
     .exact a.nx
     .exact a.sm
     .exact .inr (.inr ⟨trivial,θ⟩)
     .have:=a.pd;omega
     .exact i
     .have:=a.pd;omega
     .have:=a.tn;omega
    .exact⟨a.nx,a.sm,a.st,by have:=a.pd;grind,a.si,by have:=a.pr;grind,by have:=a.tn;grind⟩
   .simp only[LS.aO,upd,af e];exact f.g j c l
  .have d:=f.q.1 u j n c g;by_cases e:j=k
   .subst e;simp only[LS.aO,upd,if_true];exact d
   .simp only[LS.aO,upd,af e];exact d
  .have d:=f.q.2 j c g;by_cases e:j=k
   .subst e;simp only[LS.aO,upd,if_true];exact d
   .simp only[LS.aO,upd,af e];exact d
 .exact b
def F3{L:LS}:(((L.aM t k).cz k).gt k).st≠1:=by
 have h:((L.aM t k).gt k).st≠1:=by
  unfold LS.aM;split
  .simp[LS.say,LS.aO,upd,Gt.turn]
  omega
 unfold LS.cz;split
 .simp only[LS.aO,upd,if_true];exact h
 .exact h
def FJ(y:ju)(g:Gt)(x:Bool):(g.st=0->(g.la.length:Int)<=y.a->1<=y.a->((g.keep y x).length:Int)<=y.a)/\(g.st≠0->(g.keep y x).length=g.la.length+1):=by
 unfold Gt.keep;grind
def GJ{L:LS}(b:Bk)(l:j<V.nl)(f:(L.gt j).st=1->(L.tk t).q j≠(L.gt j).pd)(p:(1<=(V.ly j).a/\(V.ly j).a<=20)/\(1<=(V.ly j).b/\(V.ly j).b<=(V.ly j).a)/\(1<=(V.ly j).c/\(V.ly j).c<=100)/\(0<=(V.ly j).d/\(V.ly j).d<=1000)/\(1<=(V.ly j).e/\(V.ly j).e<=9)):Gl V L (L.count (V.ly j) t j b):=by
 have set:∀g:Gt,(∀(X:Int)(m:Nat),(0<=L.now/\L.now<=X)->Fv (V.ly j) (L.gt j) X (m+1)->Fv (V.ly j) g X m)->((L.gt j).pd<g.pd\/(g.pd=(L.gt j).pd/\g.st=(L.gt j).st))->Gl V L (L.aO j g):=λg n i=>
  ⟨rfl,by simp[LS.aO],rfl,rfl,rfl,rfl,rfl,rfl,rfl,λX m a h=>h.set (λo=>n X m a (h.g j l o)) i⟩
 have say:∀(L':LS)(q:Int),L'.el=L.el->Gl V L L'->Gl V L (L'.say t j q 0):=λL' q r h=>⟨h.tl,by simp[LS.say];omega,h.wl,h.tk,h.us,h.wt,h.now,h.al,h.ag,h.gt⟩
 unfold LS.count;split
 .exact⟨rfl,ω,rfl,rfl,rfl,rfl,rfl,rfl,rfl,λX m a h=>h.less⟩
 .rename_i e;split
  .refine set _ (λX m a h=>⟨h.nx,h.sm,h.st,by have:=h.pd;grind,h.si,(by have:=h.pr;grind),by have:=h.tn;dsimp only;omega⟩) (.inr ⟨rfl,rfl⟩)
  .have k:=FJ (V.ly j) (L.gt j) (decide (b.k≠1));dsimp only;split
   .refine say _ 9 rfl (set _ (λX m a h=>⟨h.nx,h.sm,.inr (.inl ⟨rfl,rfl⟩),by have:=h.pd;simp only[Gt.turn];omega,a,by have:=h.pd;simp only[Gt.turn];omega,by have:=h.tn;simp only[Gt.turn];omega⟩) (.inl (by simp only[Gt.turn];omega)))
   .split
    .refine say _ 11 rfl (set _ (λX m a h=>⟨h.nx,h.sm,.inl ⟨rfl,by simp[Gt.turn];omega⟩,by have:=h.pd;simp only[Gt.turn];omega,a,by have:=h.pd;simp only[Gt.turn];omega,by have:=h.tn;simp only[Gt.turn];omega⟩) (.inl (by simp only[Gt.turn];omega)))
    .rename_i u s;refine set _ (λX m a h=>⟨h.nx,h.sm,?_,by have:=h.pd;grind,h.si,by have:=h.pr;grind,by have:=h.tn;grind⟩) (.inr ⟨rfl,rfl⟩);rcases h.st with ⟨d,c⟩|⟨d,c⟩|⟨d,c⟩
     .simp_all
     .simp_all
     grind
def Jr{x:iN}{l:List iN}(h:∀y∈l.dropLast,y.k=7)(a:l≠[])(b:x.k=7:=by rfl):∀y∈(x::l).dropLast,y.k=7:=by
 obtain⟨z,b,rfl⟩:=List.exists_cons_of_ne_nil a;simp_all
def Kz{wt:Nat->tU}{k:Int}{w:Nat}:∀{n:Nat},tJ wt k n=some w->w<n/\(wt w).l=k/\(wt w).x=false/\(wt w).e=false
 |0,h=>by cases h
 |n+1,h=>by
  unfold tJ at h;split at h
  .rename_i z;cases h;have:=Kz z;grind
  grind
def fq.new{L L':LS}(h:fq V L X m)(e:L'.gt=L.gt)(a:L'.tl=L.tl+1)(c:∀u,u<L.tl->(L'.tk u).q=(L.tk u).q)(d:(L'.tk L.tl).q=λ_=>0):fq V L' X m:=by
 refine⟨λk a b=>by rw[e];exact h.g k a b,λt k b a b=>?_,λk a b=>by rw[e];exact h.q.2 k a b⟩;rw[e];by_cases z:t=L.tl
 .rw[z,d];exact h.q.2 k a b
 .rw[c t ω];exact h.q.1 t k ω a b
structure mC(V:Ev0)(L:LS)(t:Nat):Prop where
 c:∃c:Nat,(L.tk t).c=c/\c<V.nc
 p:((L.tk t).p=0/\(L.tk t).f=-1)\/∃w k:Nat,(L.tk t).f=w/\w<L.wl/\(L.wt w).l=k/\k<V.nl/\(V.ly k).k=6/\(L.tk t).p=k+1
 o:(L.tk t).o=-1\/∃w k:Nat,(L.tk t).o=w/\w<L.wl/\(L.wt w).l=k/\k<V.nl
structure Lc(V:Ev0)(m:Nat)(L:LS)(μ ν:bU)(t k:Nat)(s:Option Bk):Prop where
 kl:k<=V.nl
 pk:(L.tk t).p<=k
 a:∀j,(L.tk t).p<=j->j<k->Oy V L t j
 b:∀b,s=some b->Sw m b
 μ:jo 0 3 V (L.tk t).p (L.tk t).a k s<=μ t
 ν:jo 1 0 V (L.tk t).p (L.tk t).a k s<=ν t
def Fwd(V:Ev0)(m:Nat)(L:LS)(μ ν:bU)(t w:Nat):Prop:=
 ((L.wt w).x=false/\(L.wt w).l=V.nl/\∃y ch,(L.wt w).b.ch=y::ch/\Lc V m L μ ν t V.nl (some ⟨(L.wt w).b.k,(L.wt w).b.n,ch⟩))\/
 ∃k:Nat,k<V.nl/\(L.wt w).l=k/\Lc V m L μ ν t k (some (c9 5 k 0))/\(((V.ly k).k=1/\((L.wt w).x=true->(L.wt w).z=3)/\Lc V m L μ ν t (k+1) none)\/((V.ly k).k=5/\Lc V m L μ ν t (k+1) none)\/((V.ly k).k=6/\((L.wt w).x=true->(L.wt w).z=2->Sw m (L.wt w).b)))
def Si(V:Ev0)(m:Nat)(L:LS)(μ ν:bU)(t:Nat)(e:qy):Prop:=
 (e.c=0/\Lc V m L μ ν t (L.tk t).p none)\/∃w:Nat,e.w=w/\w<L.wl/\(L.wt w).t=t/\(L.wt w).e=false/\((e.c=1/\(L.wt w).x=false)\/((e.c=2\/e.c=3)/\(L.wt w).x=true/\(L.wt w).z=e.c))/\Fwd V m L μ ν t w
structure uW(V:Ev0)(m:Nat)(L:LS)(X:Int)(μ ν:bU)(E:Nat->Option Nat)(cur:oQ):Prop where
 nc:V.nc<=L.tl
 tl:L.tl+wG ν L.tl<9990
 el:L.el+3*m<1000000
 wl:L.wl+m<1000000
 al:L.al+W6 L+3*m<1000000
 now:0<=L.now/\L.now<=X
 x:X+10000*m<1000000000000
 tk:∀t:Nat,t<L.tl->mC V L t
 fi:∀t u:Nat,t<L.tl->u<L.tl->0<(L.tk t).p->(L.tk t).f=(L.tk u).f->t=u
 tf:∀t:Nat,t<L.tl->(E t≠none\/cur=some t)->∀w:Nat,(L.tk t).f=w->(L.wt w).x=true->(L.wt w).z=3
 us:∀c:Nat,c<V.nc->0<=L.us c/\L.us c+m<1000000
 ta:∀i,i<L.al->(L.ag i).o=false->0<=(L.ag i).a/\(L.ag i).a<=X
 pd:∀i,i<L.al->(L.ag i).o=false->∃t:Nat,t<L.tl/\(L.ag i).t=t/\(E t=some i\/((L.ag i).c=1/\∃w:Nat,(L.ag i).w=w/\w<L.wl/\((L.wt w).x=true\/(L.wt w).e=true)))
 lv:∀t i,t<L.tl->E t=some i->i<L.al/\(L.ag i).o=false/\(L.ag i).t=t/\Si V m L μ ν t (L.ag i)
 wa:∀w,w<L.wl->(L.wt w).x=false->(L.wt w).e=false->∃t i:Nat,t<L.tl/\(L.wt w).t=t/\E t=some i/\(L.ag i).c=1/\(L.ag i).w=w
 cu:∀t,cur=some t->t<L.tl/\E t=none
 en:∀t,t<L.tl->E t=none->cur≠some t->(L.tk t).e=true
 sm:wG μ L.tl+opn L+W6 L<=m
 gt:fq V L X m
def Lc.mv{g:Nat}{L L':LS}{c a:bU}{s:Option Bk}(h:Lc V m L μ ν t k s)(d:g<=m)(i:(L'.tk t).a=(L.tk t).a)(f:(L'.tk t).p=(L.tk t).p)(e:c t=μ t)(d:a t=ν t):Lc V g L' c a t k s:=
 ⟨h.kl,by rw[f];exact h.pk,λj a a=>by have:=h.a j ω a;unfold Oy at*;simp_all,λb a=>⟨by have:=(h.b b a).1;omega,(h.b b a).2⟩,by rw[i,f,e];exact h.μ,by rw[i,f,d];exact h.ν⟩
def Si.mv{V:Ev0}{m l:Nat}{L L':LS}{μ ν f d:bU}{u:Nat}{e:qy}(h:Si V m L μ ν u e)(j:(L'.tk u).a=(L.tk u).a)(c:(L'.tk u).p=(L.tk u).p)(a:L.wl<=L'.wl)(a:∀w,w<L.wl->(L.wt w).t=u->(L.wt w).e=false->L'.wt w=L.wt w\/∃i,L'.wt w={L.wt w with i:=i})(g:l<=m)(b:f u=μ u)(a:d u=ν u):Si V l L' f d u e:=by
 rcases h with ⟨d,e⟩|⟨w,d,e,f,f,f,l⟩
 .exact .inl ⟨d,by rw[c];exact e.mv g j c b a⟩
 .have q:(L'.wt w).t=(L.wt w).t/\(L'.wt w).e=(L.wt w).e/\(L'.wt w).x=(L.wt w).x/\(L'.wt w).z=(L.wt w).z/\(L'.wt w).l=(L.wt w).l/\(L'.wt w).b=(L.wt w).b:=by
   grind
  let⟨_,_,i,h,f,e⟩:=q;refine .inr ⟨w,d,ω,ω,ξ,ξ,?_⟩;unfold Fwd;rw[i,h,f,e];rcases l with ⟨h,f,y,ch,e,d⟩|⟨k,h,f,e,d⟩
  .exact .inl ⟨h,f,y,ch,e,d.mv g j c b a⟩
  .refine .inr ⟨k,h,f,e.mv g j c b a,?_⟩;rcases d with ⟨e,d,f⟩|⟨e,d⟩|⟨e,d⟩
   .exact .inl ⟨e,d,f.mv g j c b a⟩
   .exact .inr (.inl ⟨e,d.mv g j c b a⟩)
   .exact .inr (.inr ⟨e,λb a=>⟨by have:=(d b a).1;omega,(d b a).2⟩⟩)
def uW.Ua{L:LS}(h:uW V m L X μ ν E cur)(a:t<L.tl)(d:E t≠none\/cur=some t):qm V t L where
 tl:=by have:=h.tl;omega
 nc:=h.nc
 tn:=a
 el:=by have:=h.el;omega
 wl:=by have:=h.wl;omega
 al:=by have:=h.al;omega
 now:=by have:=h.now;have:=h.x;omega
 us:=λc d=>by have:=h.us c d;omega
 gt:=λk b c=>((h.gt.g k b c).x (by have:=h.x;omega)).less ω
 q:=λk b c e=>by have:=(h.gt.q.1 t k a b c).2 e;omega
 tf:=h.tf t a d
def LS.I3(L:LS)(w:Nat)(z:Int)(b:Bk):(L.fix w z b).tl=L.tl/\(L.fix w z b).tk=L.tk/\(L.fix w z b).wl=L.wl/\(L.fix w z b).al=L.al+1/\(L.fix w z b).wt w={L.wt w with x:=true,z:=z,b:=b}/\(∀j,j≠w->(L.fix w z b).wt j=L.wt j)/\(∀j,j≠L.al->(L.fix w z b).ag j=L.ag j)/\(L.fix w z b).ag L.al=⟨L.now,(L.wt w).t,w,z,false⟩:=
 ⟨rfl,rfl,rfl,rfl,by simp[LS.fix,LS.put,upd],λj a=>by simp[LS.fix,LS.put,upd,a],λj a=>by simp[LS.fix,LS.put,upd,a],by simp[LS.fix,LS.put,upd]⟩
def uW.fix{V:Ev0}{m:Nat}{L:LS}{X:Int}{μ ν:bU}{E:Nat->Option Nat}{cur:oQ}{w k:Nat}{z:Int}{b:Bk}(h:uW V m L X μ ν E cur)(H:w<L.wl)(O:k<V.nl)(O:(L.wt w).l=k)(M:(L.wt w).x=false)(I:(L.wt w).e=false)(O:z=3\/z=2/\((V.ly k).k=5\/(V.ly k).k=6/\Sw m b))(O:z=2->∀u,u<L.tl->(E u≠none\/cur=some u)->(L.tk u).f≠(w:Int)):
 ∃O,uW V m (L.fix w z b) X μ ν O cur/\∀u,O u=none↔E u=none:=by
 let⟨u,i,N,J,G,_,m⟩:=h.wa w H M I;have m:∀t,cur=some t->u≠t:=λt A e=>by subst e;rw[(h.cu u A).2]at G;cases G
 let⟨_,_,m,Q⟩:=h.lv u i N G;let⟨_,_,_,i,g,l,n,o⟩:=L.I3 w z b;let⟨_,i⟩:=KR (z:=z) (b:=b) H M I;have x:∀j,((L.fix w z b).wt j).l=(L.wt j).l/\((L.fix w z b).wt j).t=(L.wt j).t/\((L.fix w z b).wt j).e=(L.wt j).e:=λj=>by
  grind
 have F:∀v,upd E u (some L.al) v=none↔E v=none:=λv=>by
  by_cases e:v=u
  .subst e;simp[upd,G]
  .simp[upd,e]
 have st:∀a:Nat,((L.wt a).x=true\/(L.wt a).e=true)->(((L.fix w z b).wt a).x=true\/((L.fix w z b).wt a).e=true):=λa q=>by
  grind
 refine⟨upd E u (some L.al),{nc:=h.nc,tl:=h.tl,el:=h.el,wl:=h.wl,al:=by have:=h.al;omega,now:=h.now,x:=h.x,tk:=λt A=>?_,fi:=h.fi,tf:=λt A m a y c=>?_,us:=h.us,ta:=λj f B=>?_,pd:=λj f B=>?_,lv:=λv j r f=>?_,wa:=λj f c C=>?_,cu:=λv r=>?_,en:=λv r i b=>h.en v r ((F v).1 i) b,sm:=by have:=h.sm;grind,gt:=⟨h.gt.1,h.gt.2.1,h.gt.2.2⟩},F⟩
 .have T:=h.tk t A;refine⟨T.c,?_,?_⟩
  .refine T.p.imp id ?_;simp_all
  .refine T.o.imp id ?_;simp_all
 .have b:E t≠none\/cur=some t:=m.imp_left λq e=>q ((F t).2 e);by_cases e:a=w
  .grind
  .rw[l a e]at c ⊢;exact h.tf t A b a y c
 .by_cases e:j=L.al
  .rw[e,o];exact h.now
  .rw[n j e]at B ⊢;exact h.ta j ω B
 .by_cases e:j=L.al
  .rw[e,o];exact⟨u,N,J,.inl (sJ rfl)⟩
  .rw[n j e]at B ⊢;let⟨v,p,s,d⟩:=h.pd j ω B;refine⟨v,p,s,?_⟩;rcases d with d|⟨d,a,D,R,b⟩
   .by_cases b:v=u
    .grind
    .exact .inl (by simp only[upd,af b];exact d)
   grind
 .by_cases e:v=u
  .subst e;simp only[upd,if_true]at f;cases f;rw[o];refine⟨ω,rfl,J,.inr ⟨w,rfl,H,?_⟩⟩;rw[(x w).2.1,(x w).2.2];refine⟨J,I,.inr ⟨χ,by rw[g],by rw[g]⟩,?_⟩;rcases Q with ⟨q,_⟩|⟨a,b,b,b,b,b,P⟩
   .omega
   .have:a=w:=ω
    subst this;rcases P with ⟨_,q,_⟩|⟨K,p,s,d,D⟩
    .omega
    .have:K=k:=ω
     subst this;refine .inr ⟨K,p,ξ,d.mv (az _) rfl rfl rfl rfl,?_⟩;rw[g];rcases D with ⟨b,g,i⟩|⟨b,g⟩|⟨b,g⟩
     .exact .inl ⟨b,λ_=>ξ,i.mv (az _) rfl rfl rfl rfl⟩
     .exact .inr (.inl ⟨b,g.mv (az _) rfl rfl rfl rfl⟩)
     grind
  .simp only[upd,af e]at f;let⟨p,s,d,D⟩:=h.lv v j r f;rw[n j ω];exact⟨ω,s,d,D.mv rfl rfl (az _) (λa _ y _=>.inl (l a χ)) (az _) rfl rfl⟩
 .have e:j≠w:=χ
  rw[l j e]at c C ⊢;let⟨v,a,p,s,d,D,R⟩:=h.wa j f c C;have b:v≠u:=χ
  have e:=(h.lv v a p d).1;exact⟨v,a,p,s,by simp only[upd,af b];exact d,χ,χ⟩
 .exact⟨(h.cu v r).1,(F v).2 (h.cu v r).2⟩
structure Cy(L L':LS):Prop where
 b:L'.tl=L.tl/\L'.el=L.el/\L'.wl=L.wl/\L'.al=L.al/\L'.now=L.now/\L'.us=L.us/\L'.ag=L.ag/\L'.wt=L.wt/\L'.gt=L.gt
 tk:∀t,(L'.tk t).c=(L.tk t).c/\(L'.tk t).f=(L.tk t).f/\(L'.tk t).p=(L.tk t).p/\(L'.tk t).o=(L.tk t).o/\(L'.tk t).a=(L.tk t).a/\(L'.tk t).q=(L.tk t).q
 e:∀t,(L.tk t).e=true->(L'.tk t).e=true
def mC.mv{L L':LS}(h:mC V L t)(e:(L'.tk t).c=(L.tk t).c/\(L'.tk t).f=(L.tk t).f/\(L'.tk t).p=(L.tk t).p/\(L'.tk t).o=(L.tk t).o)(a:L.wl<=L'.wl)(a:∀w,w<L.wl->(L'.wt w).l=(L.wt w).l):mC V L' t:=by
 let⟨d,c,b,a⟩:=e;refine⟨by rw[d];exact h.c,?_,?_⟩
 .rw[c,b];refine h.p.imp id ?_;grind
 .rw[a];refine h.o.imp id ?_;grind
def uW.irr{L L':LS}(h:uW V m L X μ ν E cur)(O:Cy L L'):uW V m L' X μ ν E cur:=by
 let⟨b,m,f,e,c,l,d,a,g⟩:=O.b;have j:W6 L'=W6 L:=by unfold W6;rw[f,a]
 have n:opn L'=opn L:=by unfold opn;rw[e,d]
 refine{nc:=by rw[b];exact h.nc,tl:=by rw[b];exact h.tl,el:=by rw[m];exact h.el,wl:=by rw[f];exact h.wl,al:=by rw[e,j];exact h.al,now:=by rw[c];exact h.now,x:=h.x,tk:=λt c=>(h.tk t ω).mv ⟨(O.tk t).1,(O.tk t).2.1,(O.tk t).2.2.1,(O.tk t).2.2.2.1⟩ ω (λw _=>by rw[a]),fi:=λt u c m=>?_,tf:=λt c=>?_,us:=by rw[l];exact h.us,ta:=by rw[e,d];exact h.ta,pd:=by rw[b,f,e,d,a];exact h.pd,lv:=λt i c m=>?_,wa:=by rw[b,f,d,a];exact h.wa,cu:=by rw[b];exact h.cu,en:=λt c l f=>O.e t (h.en t ω l f),sm:=by rw[b,n,j];exact h.sm,gt:=⟨by rw[g];exact h.gt.1,λt k c b c=>by rw[g,(O.tk t).2.2.2.2.2];exact h.gt.2.1 t k ω b c,by rw[g];exact h.gt.2.2⟩}
 .rw[(O.tk t).2.1,(O.tk u).2.1,(O.tk t).2.2.1];exact h.fi t u ω ω
 .rw[(O.tk t).2.1,a];exact h.tf t ω
 .let⟨g,f,c,b⟩:=h.lv t i ω m;rw[e,d];exact⟨g,f,c,b.mv (O.tk t).2.2.2.2.1 (O.tk t).2.2.1 ω (λw _ _ _=>.inl (by rw[a])) (az _) rfl rfl⟩
def Cy.bY{L:LS}:Cy L L:=⟨⟨rfl,rfl,rfl,rfl,rfl,rfl,rfl,rfl,rfl⟩,λ_=>⟨rfl,rfl,rfl,rfl,rfl,rfl⟩,λ_ h=>h⟩
def Cy.iC{L:LS}(j:Nat):Cy L (L.iC j):=by
 unfold LS.iC;split
 .exact Cy.bY
 .refine⟨⟨rfl,rfl,rfl,rfl,rfl,rfl,rfl,rfl,rfl⟩,λt=>?_,λt h=>?_⟩
  .by_cases e:t=j
   .subst e;simp[upd]
   .simp[upd,e]
  .by_cases e:t=j
   .simp_all
   .simpa [upd,e]using h
def Cy.done{L:LS}(j:Nat):Cy L (L.done j):=by
 refine⟨⟨rfl,rfl,rfl,rfl,rfl,rfl,rfl,rfl,rfl⟩,λt=>?_,λt h=>?_⟩
 .by_cases e:t=j
  .subst e;simp[LS.done,upd]
  .simp[LS.done,upd,e]
 .by_cases e:t=j
  .subst e;simp[LS.done,upd]
  .simpa [LS.done,upd,e]using h
def uW.Aj{V:Ev0}{m:Nat}{X:Int}{μ ν:bU}{E:Nat->Option Nat}{cur:oQ}:∀(a:aN)(L:LS),uW V m L X μ ν E cur->uW V m (a.foldl LS.iC L) X μ ν E cur/\(a.foldl LS.iC L).tl=L.tl
 |[],L,h=>⟨h,rfl⟩
 |j::a,L,h=>by
  have:=uW.Aj a (L.iC j) (h.irr (Cy.iC j));exact⟨this.1,this.2.trans (Cy.iC j).b.1⟩
def uW.jv{V:Ev0}{m:Nat}{L:LS}{X:Int}{μ ν:bU}{E:Nat->Option Nat}{cur:oQ}{j:Nat}(h:uW V m L X μ ν E cur)(c:j<L.tl):∃a,uW V m (L.jv j) X μ ν a cur/\(∀u,a u=none↔E u=none)/\(L.jv j).tl=L.tl:=by
 unfold LS.jv;split
 .grind
 .rename_i n;rcases(h.tk j c).o with z|⟨w,k,l,i,g,f⟩
  .omega
  .rw[l,mY];unfold LS.qA;split
   .rename_i b;let⟨a,e,d⟩:=h.fix (z:=3) (b:=⟨0,0,[]⟩) i f g b.1 b.2 (.inl rfl) (λz=>ω);exact⟨a,e,d,rfl⟩
   grind
def uW.AG{V:Ev0}{m:Nat}{X:Int}{μ ν:bU}{cur:oQ}:∀(a:aN)(L:LS)(E:Nat->Option Nat),(∀j∈a,j<L.tl)->uW V m L X μ ν E cur->∃b,uW V m (a.foldl LS.jv L) X μ ν b cur/\(∀u,b u=none↔E u=none)/\(a.foldl LS.jv L).tl=L.tl
 |[],L,E,_,h=>⟨E,h,λ_=>Iff.rfl,rfl⟩
 |j::a,L,E,c,h=>by
  let⟨d,b,_,e⟩:=h.jv (c j (bI ..));let⟨_,_,_,c⟩:=uW.AG a (L.jv j) d (λi a=>ξ) b;grind
def uW.cancel{V:Ev0}{m:Nat}{L:LS}{X:Int}{μ ν:bU}{E:Nat->Option Nat}{cur:oQ}(h:uW V m L X μ ν E cur){oL:aN}(a:∀j∈oL,j<L.tl):∃a,uW V m (L.cancel oL) X μ ν a cur/\(∀u,a u=none↔E u=none)/\(L.cancel oL).tl=L.tl:=by
 let⟨f,e⟩:=uW.Aj oL L h;let⟨a,d,c,b⟩:=uW.AG oL _ E (λj g=>ξ) f;exact⟨a,d,c,b.trans e⟩
structure Sm(V:Ev0)(t:Nat)(L L':LS):Prop where
 b:L'.tl=L.tl/\L'.wl=L.wl/\L'.al=L.al/\L'.now=L.now/\L'.ag=L.ag/\L'.wt=L.wt
 el:L'.el<=L.el+3
 tk:∀j,(L'.tk j).c=(L.tk j).c/\(L'.tk j).f=(L.tk j).f/\(L'.tk j).p=(L.tk j).p/\(L'.tk j).o=(L.tk j).o
 ot:∀j,j≠t->(L'.tk j).a=(L.tk j).a
 us:∀c,L.us c<=L'.us c/\L'.us c<=L.us c+1
 gt:∀(X:Int)(m:Nat),(0<=L.now/\L.now<=X)->fq V L X (m+1)->fq V L' X m
 e:∀j,(L'.tk j).e=(L.tk j).e
section
variable{L L':LS}
def uW.mv{v n:Nat}{cur:oQ}(h:uW V (m+1) L X μ ν E (some t))(O:Sm V t L L')(g:v<μ t)(g:n<=ν t)(j:cur=some t\/cur=none/\(L.tk t).e=true):uW V m L' X (upd μ t v) (upd ν t n) E cur:=by
 let⟨l,k,f,r,d,a⟩:=O.b;let⟨b,g⟩:=h.cu t rfl;have g:W6 L'=W6 L:=by unfold W6;rw[k,a]
 have s:opn L'=opn L:=by unfold opn;rw[f,d]
 have p:=l5 μ t v L.tl;have o:=l5 ν t n L.tl;simp only[b,if_true]at p o;have b:=h.sm;have b:=h.tl;refine{nc:=by rw[l];exact h.nc,tl:=χ,el:=by have:=O.el;have:=h.el;omega,wl:=by have:=h.wl;omega,al:=by rw[f,g];have:=h.al;omega,now:=by rw[r];exact h.now,x:=by have:=h.x;omega,tk:=λu b=>(h.tk u ω).mv (O.tk u) ω (λw _=>by rw[a]),fi:=λu n b g=>?_,tf:=λu b g=>?_,us:=λc j=>by have:=h.us c j;have:=O.us c;omega,ta:=by rw[f,d];exact h.ta,pd:=by rw[l,k,f,d,a];exact h.pd,lv:=λu i b c=>?_,wa:=by rw[l,k,d,a];exact h.wa,cu:=λu b=>?_,en:=λu b b k=>?_,sm:=χ,gt:=O.gt X m h.now h.gt}
 .rw[(O.tk u).2.1,(O.tk n).2.1,(O.tk u).2.2.1];exact h.fi u n ω ω
 .rw[(O.tk u).2.1,a];refine h.tf u ω (g.imp_right λz=>?_);simp_all
 .let⟨m,l,k,g⟩:=h.lv u i ω c;have e:u≠t:=χ
  rw[f,d];exact⟨m,l,k,g.mv (O.ot u e) (O.tk u).2.2.1 ω (λw _ _ _=>.inl (by rw[a])) ω (af e) (af e)⟩
 .simp_all
 .rw[O.e u];rcases j with e|⟨e,z⟩
  .exact h.en u ω b ξ
  .by_cases a:u=t
   .simp_all
   .exact h.en u ω b (λq=>a (Option.some.inj q).symm)
structure Pk(V:Ev0)(t:Nat)(L L':LS)(a l:Int)(b:Bk):Prop where
 b:L'.tl=L.tl/\L'.wl=L.wl+1/\L'.al=L.al+1/\L'.now=L.now/\L'.ag=upd L.ag L.al ⟨a,t,L.wl,1,false⟩/\L'.wt=upd L.wt L.wl ⟨t,l,false,false,b,0,0⟩
 el:L'.el<=L.el+3
 tk:∀j,(L'.tk j).c=(L.tk j).c/\(L'.tk j).f=(L.tk j).f/\(L'.tk j).p=(L.tk j).p
 ot:∀j,j≠t->(L'.tk j).a=(L.tk j).a/\(L'.tk j).o=(L.tk j).o
 o:(L'.tk t).o=(L.tk t).o\/((L'.tk t).o=L.wl/\∃k:Nat,l=k/\k<V.nl)
 us:∀c,L.us c<=L'.us c/\L'.us c<=L.us c+1
 gt:∀(X:Int)(m:Nat),(0<=L.now/\L.now<=X)->fq V L X (m+1)->fq V L' X m
 e:∀j,(L'.tk j).e=(L.tk j).e
def uW.pk{a:Int}(h:uW V (m+1) L X μ ν E (some t))(O:Pk V t L L' a l b)(ha:0<=a/\a<=X+10000)(hv:v+3<=μ t)(hn:n<=ν t)(S:Fwd V m L' (upd μ t v) (upd ν t n) t L.wl):uW V m L' (X+10000) (upd μ t v) (upd ν t n) (upd E t (some L.al)) none:=by
 let⟨b1,Z,K,Y,J,I⟩:=O.b;let⟨R,E⟩:=h.cu t rfl;have j:∀w,w<L.wl->L'.wt w=L.wt w:=λw o=>by rw[I];simp[upd,iS o]
 have d:L'.wt L.wl=⟨t,l,false,false,b,0,0⟩:=by rw[I];simp[upd]
 have r:∀i,i<L.al->L'.ag i=L.ag i:=λi g=>by rw[J];simp[upd,iS g]
 have f:L'.ag L.al=⟨a,t,L.wl,1,false⟩:=by rw[J];simp[upd]
 have b:W6 L'=W6 L+1:=by
  unfold W6;rw[Z];simp only[wG];rw[oM (g:=λi=>if(L.wt i).x=false/\(L.wt i).e=false then 1 else 0) L.wl λi g=>ξ,d];simp
 have a:opn L'=opn L+1:=by
  unfold opn;rw[K];simp only[wG];rw[oM (g:=λi=>if(L.ag i).o=true then 0 else 1) L.al λi g=>ξ,f];simp
 have Q:=l5 μ t v L.tl;have P:=l5 ν t n L.tl;simp only[R,if_true]at Q P;have a:=h.sm;have a:=h.tl;refine{nc:=by rw[b1];exact h.nc,tl:=χ,el:=by have:=O.el;have:=h.el;omega,wl:=by have:=h.wl;omega,al:=by rw[K,b];have:=h.al;omega,now:=by rw[Y];have:=h.now;omega,x:=by have:=h.x;omega,tk:=λu s=>?_,fi:=λu D s a=>?_,tf:=λu s B w o y=>?_,us:=λc a=>by have:=h.us c a;have:=O.us c;omega,ta:=λi g A=>?_,pd:=λi g A=>?_,lv:=λu i s g=>?_,wa:=λw o y G=>?_,cu:=λu s=>(by cases s),en:=λu s F _=>?_,sm:=χ,gt:=(O.gt X m h.now h.gt).x ω}
 .have T:=h.tk u ω;let⟨c,b,a⟩:=O.tk u;refine⟨by rw[c];exact T.c,?_,?_⟩
  .rw[b,a];refine T.p.imp id ?_;grind
  .have old:(L'.tk u).o=(L.tk u).o->(L'.tk u).o=-1\/∃w k:Nat,(L'.tk u).o=w/\w<L'.wl/\(L'.wt w).l=k/\k<V.nl:=λe=>by
    rw[e];refine T.o.imp id ?_;grind
   by_cases e:u=t
   .subst e;rcases O.o with z|⟨z,k,a,a⟩
    .exact old z
    grind
   .exact old (O.ot u e).2
 .rw[(O.tk u).2.1,(O.tk D).2.1,(O.tk u).2.2];exact h.fi u D ω ω
 .rw[(O.tk u).2.1]at o;have a:w<L.wl:=by
   rcases(h.tk u ω).p with ⟨_,z⟩|⟨b,k,N,M,_⟩<;>omega
  rw[j w a]at y ⊢;refine h.tf u ω ?_ w o y;by_cases e:u=t
  .simp_all
  .rcases B with z|z
   .exact .inl (by simpa [upd,e]using z)
   .cases z
 .by_cases e:i=L.al
  .simp_all
  .rw[r i ω]at A ⊢;have:=h.ta i ω A;omega
 .by_cases e:i=L.al
  .rw[e,f];exact⟨t,ω,rfl,.inl (by simp[upd])⟩
  .rw[r i ω]at A ⊢;let⟨u,H,C,p⟩:=h.pd i ω A;refine⟨u,ω,C,?_⟩;rcases p with p|⟨p,w,W,U,a⟩
   .have x:u≠t:=χ
    exact .inl (by simp only[upd,af x];exact p)
   grind
 .by_cases e:u=t
  .subst e;simp only[upd,if_true]at g;cases g;rw[f];exact⟨ω,rfl,rfl,.inr ⟨L.wl,rfl,ω,by rw[d],by rw[d],.inl ⟨rfl,by rw[d]⟩,S⟩⟩
  .simp only[upd,af e]at g;let⟨N,M,b,a⟩:=h.lv u i ω g;rw[r i N];exact⟨ω,M,b,a.mv (O.ot u e).1 (O.tk u).2.2 ω (λw o _ _=>.inl (j w o)) ω (af e) (af e)⟩
 .by_cases e:w=L.wl
  .subst e;rw[d];exact⟨t,L.al,ω,rfl,by simp[upd],by rw[f],by rw[f]⟩
  .rw[j w ω]at y G ⊢;let⟨u,i,H,C,p,W,U⟩:=h.wa w ω y G;have x:u≠t:=χ
   have a:=(h.lv u i H p).1;exact⟨u,i,ω,C,by simp only[upd,af x];exact p,ξ,ξ⟩
 .have x:u≠t:=by rintro rfl;simp[upd]at F
  rw[O.e u];exact h.en u ω (by simpa [upd,x]using F) (λq=>x (Option.some.inj q).symm)
def uW.nH(h:uW V m L X μ ν E none)(P:t<L.tl)(R:k<V.nl)(T:(V.ly k).k=6)(O:w<L.wl)(O:(L.wt w).l=k)(O:(L.wt w).x=false)(O:∀u,u<L.tl->(L.tk u).f≠(w:Int))(O:L.tl+1+(wG ν L.tl+n)<9990)(O:L.al+1+W6 L+3*m<1000000)(O:wG μ L.tl+v+(opn L+1)+W6 L<=m)(N:jo 0 3 V (k+1) (λ_=>0) (k+1) none<=v)(Q:jo 1 0 V (k+1) (λ_=>0) (k+1) none<=n):
 uW V m (L.begin t w k) X (upd μ L.tl v) (upd ν L.tl n) (upd E L.tl (some L.al)) none:=by
 obtain⟨L',d⟩:∃L',L'=L.begin t w k:=⟨_,rfl⟩;have G:L'.tl=L.tl+1:=by rw[d];rfl
 have O:L'.wl=L.wl:=by rw[d];rfl
 have v:L'.al=L.al+1:=by rw[d];rfl
 have g:∀j,j<L.tl->L'.tk j=L.tk j:=λj m=>by rw[d];simp[LS.begin,LS.put,upd,iS m]
 have c:L'.tk L.tl=⟨(L.tk t).c,w,k+1,-1,false,false,-1,λ_=>0,λ_=>0⟩:=by rw[d];simp[LS.begin,LS.put,upd]
 have n:∀j,j≠w->L'.wt j=L.wt j:=λj m=>by rw[d];simp[LS.begin,LS.put,upd,m]
 have m:L'.wt w={L.wt w with i:=L.tl}:=by rw[d];simp[LS.begin,LS.put,upd]
 have f:∀j,(L'.wt j).l=(L.wt j).l/\(L'.wt j).t=(L.wt j).t/\(L'.wt j).e=(L.wt j).e/\(L'.wt j).x=(L.wt j).x/\(L'.wt j).z=(L.wt j).z:=λj=>by
  grind
 have x:∀i,i<L.al->L'.ag i=L.ag i:=λi p=>by rw[d];simp[LS.begin,LS.put,upd,iS p]
 have q:L'.ag L.al=⟨L.now,L.tl,0,0,false⟩:=by rw[d];simp[LS.begin,LS.put,upd]
 have U:W6 L'=W6 L:=by
  unfold W6;simp_all
 have W:opn L'=opn L+1:=by
  unfold opn;rw[v];simp only[wG];rw[oM (g:=λi=>if(L.ag i).o=true then 0 else 1) L.al λi p=>ξ,q];simp
 have K:∀u,u<L.tl->upd E L.tl (some L.al) u=E u:=λu o=>by simp[upd,iS o]
 rw[<-d];refine{nc:=by have:=h.nc;omega,tl:=by rw[G,JR];omega,el:=by rw[d];exact h.el,wl:=by rw[O];exact h.wl,al:=ω,now:=by rw[d];exact h.now,x:=h.x,tk:=λu o=>?_,fi:=λu B o a H e=>?_,tf:=λu o D r s l=>?_,us:=by rw[d];exact h.us,ta:=λi p y=>?_,pd:=λi p y=>?_,lv:=λu i o p=>?_,wa:=λr s l A=>?_,cu:=λu o=>(by cases o),en:=λu o C M=>?_,sm:=by rw[G,JR,W,U];omega,gt:=h.gt.new (by rw[d];rfl) G (λu o=>ξ) (by rw[c])}
 .by_cases e:u=L.tl
  .subst e;refine⟨by rw[c];exact(h.tk t P).c,.inr ⟨w,k,by rw[c],ω,ξ,R,T,by rw[c]⟩,.inl (by rw[c])⟩
  .have a:u<L.tl:=ω
   exact(h.tk u a).mv ξ ω (λj _=>(f j).1)
 .by_cases d:u=L.tl
  .grind
  .by_cases Y:B=L.tl
   .grind
   .rw[g u ω,g B ω]at e;rw[g u ω]at H;exact h.fi u B ω ω H e
 .rw[(f r).2.2.2.1]at l;rw[(f r).2.2.2.2];by_cases e:u=L.tl
  .grind
  .have a:u<L.tl:=ω
   rw[g u a]at s;refine h.tf u a (D.imp_left λz=>?_) r s l;simp_all
 .by_cases e:i=L.al
  .rw[e,q];exact h.now
  .rw[x i ω]at y ⊢;exact h.ta i ω y
 .by_cases e:i=L.al
  .rw[e,q];exact⟨L.tl,ω,rfl,.inl (by simp[upd])⟩
  .rw[x i ω]at y ⊢;let⟨u,F,J,I⟩:=h.pd i ω y;grind
 .by_cases e:u=L.tl
  .subst e;simp only[upd,if_true]at p;cases p;rw[q];refine⟨ω,rfl,rfl,.inl ⟨rfl,?_⟩⟩;rw[c];exact⟨χ,ξ,λj F J=>χ,λb S=>(by cases S),(by rw[c];simpa [upd]using N),(by rw[c];simpa [upd]using Q)⟩
  .have a:u<L.tl:=ω
   rw[K u a]at p;let⟨k,d,c,b⟩:=h.lv u i a p;rw[x i k];exact⟨ω,d,c,b.mv ξ ξ ω (λj _ _ _=>by
    grind) (az _) (af e) (af e)⟩
 .rw[(f r).2.2.2.1]at l;rw[(f r).2.2.1]at A;let⟨u,i,F,J,I,_,b⟩:=h.wa r ω l A;have Y:=(h.lv u i F I).1;grind
 .have b:u≠L.tl:=by rintro rfl;simp[upd]at C
  have a:u<L.tl:=ω
  rw[K u a]at C;rw[g u a];exact h.en u a C M
end
def x9{f g:bU}:∀n,(∀i,i<n->f i<=g i)->wG f n<=wG g n
 |0,_=>az _
 |n+1,h=>by simp only[wG];have:=x9 n λi a=>h i ω;grind
section
variable{L L':LS}
structure Pp(V:Ev0)(i:Nat)(L L':LS):Prop where
 b:L'.tl=L.tl/\L'.wl=L.wl/\L'.al=L.al/\L'.now=(L.ag i).a/\L'.ag=upd L.ag i {L.ag i with o:=true}
 el:L'.el<=L.el+3
 tk:∀j,(L'.tk j).c=(L.tk j).c/\(L'.tk j).f=(L.tk j).f/\(L'.tk j).p=(L.tk j).p/\(L'.tk j).o=(L.tk j).o
 ta:∀j,(L'.tk j).a=(L.tk j).a
 us:L'.us=L.us
 gt:∀(X:Int)(m:Nat),fq V L X (m+1)->fq V L' X m
 e:∀j,(L'.tk j).e=(L.tk j).e
def uW.pop{v n:Nat}(h:uW V (m+1) L X μ ν E none)(F:t<L.tl)(H:E t=some i)(O:Pp V i L L')(f:(L'.wt=L.wt/\(L.ag i).c=0)\/∃w:Nat,(L.ag i).w=w/\L'.wt=upd L.wt w {L.wt w with e:=true}/\(L.wt w).t=t)(Y:v<=μ t)(s:n<=ν t):uW V m L' X (upd μ t v) (upd ν t n) (upd E t none) (some t):=by
 let⟨D,C,_,E⟩:=h.lv t i F H;let⟨U,K,J,T,A⟩:=O.b;have wn:∀w,w<L.wl->(L.wt w).t≠t->L'.wt w=L.wt w:=λw _ d=>by
  rcases f with ⟨z,_⟩|⟨y,_,z,E⟩
  .rw[z]
  .rw[z];simp only[upd];grind
 have r:∀w,(L'.wt w).x=(L.wt w).x/\((L.wt w).e=true->(L'.wt w).e=true)/\(L'.wt w).t=(L.wt w).t/\(L'.wt w).l=(L.wt w).l/\(L'.wt w).z=(L.wt w).z:=λw=>by
  rcases f with ⟨z,_⟩|⟨y,_,z,_⟩
  .simp_all
  .rw[z];simp only[upd];grind
 have k:∀j,j≠i->L'.ag j=L.ag j:=λj a=>by rw[A];simp[upd,a]
 have p:∀j,(L'.ag j).o=false->j≠i:=λj a e=>by subst e;rw[A]at a;simp[upd]at a
 have E:W6 L'<=W6 L:=by
  unfold W6;rw[K];refine x9 _ λw _=>?_;grind
 have E:opn L'+1=opn L:=by
  have:opn L'=opn (L.pop i):=by unfold opn;rw[J,A];rfl
  rw[this];exact vI D C
 have Q:=l5 μ t v L.tl;have P:=l5 ν t n L.tl;simp only[F,if_true]at Q P;have n:=h.sm;have n:=h.tl;refine{nc:=by rw[U];exact h.nc,tl:=χ,el:=by have:=O.el;have:=h.el;omega,wl:=by have:=h.wl;omega,al:=by rw[J];have:=h.al;omega,now:=by rw[T];exact h.ta i D C,x:=by have:=h.x;omega,tk:=λu l=>(h.tk u ω).mv (O.tk u) ω (λw _=>(r w).2.2.2.1),fi:=λu v l n=>?_,tf:=λu l n w d o=>?_,us:=λc A=>by rw[O.us];have:=h.us c A;omega,ta:=λj a g=>?_,pd:=λj a g=>?_,lv:=λu j l a=>?_,wa:=λw d o G=>?_,cu:=λu l=>?_,en:=λu l S R=>?_,sm:=χ,gt:=O.gt X m h.gt}
 .rw[(O.tk u).2.1,(O.tk v).2.1,(O.tk u).2.2.1];exact h.fi u v ω ω
 .rw[(r w).2.2.2.2];rw[(r w).1]at o;rw[(O.tk u).2.1]at d;refine h.tf u ω (.inl ?_) w d o;rcases n with z|z
  .by_cases e:u=t
   .simp_all
   .simpa [upd,e]using z
  simp_all
 .have e:=p j g;rw[k j e]at g ⊢;exact h.ta j ω g
 .have e:=p j g;rw[k j e]at g ⊢;let⟨u,M,x,b⟩:=h.pd j ω g;refine⟨u,ω,x,?_⟩;rcases b with b|⟨b,w,B,W,c⟩
  .have s:u≠t:=χ
   exact .inl (by simp only[upd,af s];exact b)
  grind
 .by_cases e:u=t
  .subst e;simp[upd]at a
  .simp only[upd,af e]at a;let⟨M,x,b,B⟩:=h.lv u j ω a;have I:j≠i:=χ
   rw[k j I];exact⟨ω,x,b,B.mv (O.ta u) (O.tk u).2.2.1 ω (λw d z _=>.inl (wn w d ω)) ω (af e) (af e)⟩
 .rw[K]at d;rw[(r w).1]at o;have c:(L.wt w).e=false:=by
   grind
  let⟨u,j,M,x,b,B,W⟩:=h.wa w d o c;have s:u≠t:=by
   rintro rfl;rw[H]at b;cases b;rcases f with ⟨_,z⟩|⟨y,c,N,_⟩
   .omega
   .have:y=w:=ω
    subst this;rw[N]at G;simp[upd]at G
  have I:j≠i:=χ
  exact⟨u,j,ω,ξ,by simp only[upd,af s];exact b,ξ,ξ⟩
 .cases l;exact⟨ω,by simp[upd]⟩
 .have c:u≠t:=λq=>R (by rw[q]);rw[O.e u];exact h.en u ω (by simpa [upd,c]using S) (λq=>by cases q)
def uW.off(h:uW V (m+1) L X μ ν E none)(q:i<L.al)(p:(L.ag i).o=false)(x:∀t,t<L.tl->E t≠some i):uW V m (L.pop i) X μ ν E none:=by
 have d:∀j,j≠i->(L.pop i).ag j=L.ag j:=λj a=>by simp[LS.pop,upd,a]
 have g:∀j,((L.pop i).ag j).o=false->j≠i:=λj a e=>by subst e;simp[LS.pop,upd]at a
 have t:=vI q p;have t:=h.al;refine{nc:=h.nc,tl:=h.tl,el:=by have:=h.el;show L.el+3*m<1000000;omega,wl:=by have:=h.wl;show L.wl+m<1000000;omega,al:=by show L.al+W6 L+3*m<1000000;omega,now:=h.ta i q p,x:=by have:=h.x;omega,tk:=λu f=>(h.tk u f).mv ⟨rfl,rfl,rfl,rfl⟩ (az _) (λ_ _=>rfl),fi:=h.fi,tf:=h.tf,us:=λc p=>by have:=h.us c p;show 0<=L.us c/\L.us c+m<1000000;omega,ta:=λj a b=>?_,pd:=λj a b=>?_,lv:=λu j f a=>?_,wa:=λw v s y=>?_,cu:=λu f=>(by cases f),en:=h.en,sm:=?_,gt:=⟨λk c p=>(h.gt.g k c p).less ω,h.gt.q⟩}
 .have e:=g j b;rw[d j e]at b ⊢;exact h.ta j a b
 .have e:=g j b;rw[d j e]at b ⊢;exact h.pd j a b
 .let⟨o,n,l,r⟩:=h.lv u j f a;have e:j≠i:=by rintro rfl;exact x u f a
  rw[d j e];exact⟨o,n,l,r.mv rfl rfl (az _) (λ_ _ _ _=>.inl rfl) ω rfl rfl⟩
 .let⟨u,j,o,n,l,r,c⟩:=h.wa w v s y;have e:j≠i:=χ
  exact⟨u,j,o,n,l,ξ,ξ⟩
 .have:=h.sm;show wG μ L.tl+opn (L.pop i)+W6 L<=m;omega
def Sm.id:Sm V t L L:=⟨⟨rfl,rfl,rfl,rfl,rfl,rfl⟩,ω,λ_=>⟨rfl,rfl,rfl,rfl⟩,λ_ _=>rfl,λ_=>ω,λ_ _ _ h=>h.less,λ_=>rfl⟩
def uW.end_{b:Bk}(h:uW V (m+1) L X μ ν E (some t))(d:0<μ t)(o:Sw m b):∃c a j,uW V m (L.end_ t b) X c a j none:=by
 let⟨f,p⟩:=h.cu t rfl;have n:((L.done t).tk t).e=true:=by simp[LS.done,upd]
 have r:=h.irr (Cy.done t);have i:=r.mv (v:=0) (n:=0) (cur:=none) Sm.id d (gl _) (.inr ⟨rfl,n⟩);unfold LS.end_;split
 .exact⟨_,_,_,i.irr ⟨⟨rfl,rfl,rfl,rfl,rfl,rfl,rfl,rfl,rfl⟩,λ_=>⟨rfl,rfl,rfl,rfl,rfl,rfl⟩,λ_ h=>h⟩⟩
 .rename_i B;rcases(h.tk t f).p with ⟨z,_⟩|⟨w,k,A,y,x,v,s,F⟩
  .omega
  .rw[A,mY];unfold LS.qA;split
   .rename_i g;let⟨j,q,_⟩:=i.fix (z:=2) (b:=b) y v x g.1 g.2 (.inr ⟨rfl,.inr ⟨s,o⟩⟩) (λ_ u l C e=>by
     have D:(L.tk u).f=(w:Int):=by rw[<-((Cy.done (L:=L) t).tk u).2.1];exact e
     have:=h.fi t u f l ω ω;simp_all)
    exact⟨_,_,_,q⟩
   grind
end
def eT(V:Ev0)(m t:Nat)(r:LS×Option (Nat×Option Bk)):Prop:=match r with
 |(L',none)=>∃X μ ν E,uW V m L' X μ ν E none
 |(L',some (k,s))=>∃X μ ν E,uW V m L' X μ ν E (some t)/\Lc V m L' μ ν t k s
section
variable{L L':LS}{s:Option Bk}
def eT.go{c:Nat}{a:Option Bk}(h:uW V (m+1) L X μ ν E (some t))(O:Sm V t L L')(d:c<=V.nl)(f:(L.tk t).p<=c)(g:∀j,(L.tk t).p<=j->j<c->Oy V L' t j)(f:∀b,a=some b->Sw m b)(b:jo 0 3 V (L.tk t).p (L'.tk t).a c a+1<=μ t)(b:jo 1 0 V (L.tk t).p (L'.tk t).a c a<=ν t):eT V m t (L',some (c,a)):=by
 have e:=(O.tk t).2.2.1;refine⟨X,_,_,E,h.mv (v:=jo 0 3 V (L.tk t).p (L'.tk t).a c a) (n:=jo 1 0 V (L.tk t).p (L'.tk t).a c a) O ω b (.inl rfl),d,ω,λj a a=>g j ω a,f,?_,?_⟩
 .rw[e];simp[upd]
 .rw[e];simp[upd]
def Lc.as{L':LS}(C:Lc V (m+1) L μ ν t k s)(a:(L'.tk t).a=(L.tk t).a){a:Nat}(b:a<=k):∀j,(L.tk t).p<=j->j<a->Oy V L' t j:=λj a b=>by
 have:=C.a j a ω;unfold Oy at*;simp_all
def Sm.of(h:L'.tk=L.tk)(b:L'.tl=L.tl/\L'.wl=L.wl/\L'.al=L.al/\L'.now=L.now/\L'.ag=L.ag/\L'.wt=L.wt)(el:L'.el<=L.el+3)(us:L'.us=L.us)(gt:∀(X:Int)(m:Nat),(0<=L.now/\L.now<=X)->fq V L X (m+1)->fq V L' X m):Sm V t L L':=
 ⟨b,el,λj=>ξ,λj _=>by rw[h],λc=>χ,gt,λj=>by rw[h]⟩
def Sm.say(q n:Int)(l:Int):Sm V t L (L.say t l q n):=Sm.of rfl ⟨rfl,rfl,rfl,rfl,rfl,rfl⟩ (by simp[LS.say]) rfl λX m _ h=>h.same rfl rfl rfl
def Gl.sm(G:Gl V L L'):Sm V t L L':=Sm.of G.tk ⟨G.tl,G.wl,G.al,G.now,G.ag,G.wt⟩ (by have:=G.el;omega) G.us G.gt
def eT.E3(a:wM V)(h:uW V (m+1) L X μ ν E (some t))(C:Lc V (m+1) L μ ν t k none)(a:k<V.nl)(c:¬(V.ly k).k=1)(O:Sm V t L L')(f:(L'.tk t).a=(L.tk t).a):eT V m t (L',some (k+1,none)):=by
 have l:=yy (α:=0) (β:=3) (a:=(L.tk t).a) C.pk a c;have l:=yy (α:=1) (β:=0) (a:=(L.tk t).a) C.pk a c;have:=C.μ;have:=C.ν;refine eT.go h O ω (by have:=C.pk;omega) (λj i a g=>?_) (λb d=>by cases d) χ χ;by_cases e:j=k
 .simp_all
 .rw[f];exact C.a j i ω g
def eT.err(h:uW V (m+1) L X μ ν E (some t))(C:Lc V (m+1) L μ ν t k none)(O:Sm V t L L')(c:(L'.tk t).a=(L.tk t).a)(q:Int):eT V m t (L',some (k,some (c9 q k 0))):=by
 have d:=mw (α:=0) (β:=3) (V:=V) (p:=(L.tk t).p) (a:=(L.tk t).a) (k:=k) (b:=c9 q k 0);have d:=mw (α:=1) (β:=0) (V:=V) (p:=(L.tk t).p) (a:=(L.tk t).a) (k:=k) (b:=c9 q k 0);have:=C.μ;have:=C.ν;have d:=h.el;exact eT.go h O C.kl C.pk (C.as c (az _)) (λb a=>by cases a;exact⟨by simp[c9];omega,by simp[c9],.inr (.inl ⟨rfl,rfl,by simp[c9]⟩)⟩) χ χ
def Jw(d:wM V)(h:uW V (m+1) L X μ ν E (some t))(C:Lc V (m+1) L μ ν t k none)(a:k<V.nl)(g:(V.ly k).k=3):eT V m t (L.jg (V.ly k) t k):=by
 unfold LS.jg;split
 .exact eT.err h C (Sm.say _ _ _) rfl 3
 .rename_i f;refine eT.E3 d h C a ω ?_ rfl;refine Sm.of rfl ⟨rfl,rfl,rfl,rfl,rfl,rfl⟩ (by simp[LS.say,LS.aO]) rfl λX m e c=>fq.set (k:=k) c (λb=>?_) (.inr ⟨rfl,rfl⟩);have q:=c.g k a b;have r:=Ik (d.ra k a g) e q.nx q.sm f;exact⟨r,λz=>(by cases z),q.st,by have:=q.pd;grind,q.si,by have:=q.pr;grind,by have:=q.tn;grind⟩
def Xk(g:wM V)(h:uW V (m+1) L X μ ν E (some t))(C:Lc V (m+1) L μ ν t k none)(a:k<V.nl)(b:(V.ly k).k=4):eT V m t (L.pass (V.ly k) t k):=by
 have f:=g.br k a b;have b:=F4 (V:=V) (L:=L) t a f.2.2.2.2;have c:=EZ t a f.2.2.2.2 b;unfold LS.pass;split
 .exact eT.err h C (Sm.say _ _ _) rfl 3
 .split
  .refine eT.err h C ?_ (by show((L.aM t k).tk t).a=_;rw[b.tk]) 3;have S:=b.sm (t:=t);exact⟨S.b,by have:=b.el;simp[LS.say];omega,S.tk,S.ot,S.us,S.gt,S.e⟩
  .refine eT.E3 g h C a ω ?_ ?_
   .have S:=c.sm (t:=t);refine⟨S.b,by have:=c.el;simp[LS.say,LS.mark];omega,λj=>?_,λj d=>?_,S.us,λX m i l=>?_,λj=>?_⟩
    .show(upd ((L.aM t k).cz k).tk t _ j).c=_/\_;by_cases e:j=t
     .subst e;have:=S.tk j;simpa [LS.say,LS.mark,upd]using this
     .have:=S.tk j;simpa [LS.say,LS.mark,upd,e]using this
    .have:=S.ot j d;simpa [LS.say,LS.mark,upd,d]using this
    .exact(S.gt X m i l).mark F3
    .have:=S.e j;by_cases e:j=t
     .subst e;simpa [LS.say,LS.mark,upd]using this
     .simpa [LS.say,LS.mark,upd,e]using this
   .show(upd ((L.aM t k).cz k).tk t _ t).a=_;have:=c.tk;simp[upd,this]
end
section
variable{L L':LS}{s:Option Bk}
def Pk.wait(l d:Int)(a:Bool)(S:Sm V t L L')(b:a=true->∃k:Nat,l=k/\k<V.nl):Pk V t L (L'.wait t l d a) (L.now+d) l ⟨0,0,[]⟩:=by
 let⟨q,c,p,o,_,n⟩:=S.b;refine⟨⟨q,by show L'.wl+1=_;rw[c],by show L'.al+1=_;rw[p],o,?_,?_⟩,S.el,λj=>?_,λj f=>?_,?_,S.us,λX m h i=>?_,λj=>?_⟩
 .show upd L'.ag L'.al ⟨L'.now+d,t,L'.wl,1,false⟩=_;simp_all
 .show upd L'.wt L'.wl ⟨t,l,false,false,⟨0,0,[]⟩,0,0⟩=_;rw[c,n]
 .have:=S.tk j;show(upd L'.tk t _ j).c=_/\(upd L'.tk t _ j).f=_/\(upd L'.tk t _ j).p=_;by_cases e:j=t
  .subst e;simp only[upd,if_true];omega
  .simp only[upd,af e];omega
 .show(upd L'.tk t _ j).a=_/\(upd L'.tk t _ j).o=_;simp only[upd,af f];exact⟨S.ot j f,(S.tk j).2.2.2⟩
 .show(upd L'.tk t _ t).o=_\/_;simp only[upd,if_true];cases a with
  |false=>exact .inl (S.tk t).2.2.2
  |true=>exact .inr ⟨by simp[LS.wait,LS.cB,LS.put,upd,c],b rfl⟩
 .have g:=S.gt X m h i;refine⟨g.1,λu k b c f=>?_,g.2.2⟩;have:=g.2.1 u k b c f;have eq:((L'.wait t l d a).tk u).q=(L'.tk u).q:=by
   by_cases e:u=t
   .subst e;simp[LS.wait,LS.cB,LS.put,upd]
   .simp[LS.wait,LS.cB,LS.put,upd,e]
  rw[eq];exact this
 .have:=S.e j;by_cases e:j=t
  .subst e;simpa [LS.wait,LS.cB,LS.put,upd]using this
  .simpa [LS.wait,LS.cB,LS.put,upd,e]using this
def Gg(L':LS)(l d:Int)(a:Bool):((L'.wait t l d a).tk t).a=(L'.tk t).a/\((L'.wait t l d a).tk t).p=(L'.tk t).p:=by
 simp[LS.wait,LS.cB,LS.put,upd]
def vg(L':LS)(l d:Int)(a:Bool):(L'.wait t l d a).wt L'.wl=⟨t,l,false,false,⟨0,0,[]⟩,0,0⟩:=by
 simp[LS.wait,LS.cB,LS.put,upd]
def eT.slp{d:Int}(h:uW V (m+1) L X μ ν E (some t))(S:Sm V t L L')(o:k<V.nl)(g:(V.ly k).k=1\/(V.ly k).k=5)(g:0<=d/\d<=10000)(r:(L.tk t).p<=k)(p:∀j,(L.tk t).p<=j->j<k+1->Oy V L' t j)(i:jo 0 3 V (L.tk t).p (L'.tk t).a (k+1) none+3<=μ t)(g:jo 1 0 V (L.tk t).p (L'.tk t).a (k+1) none<=ν t):eT V m t (L'.wait t k d true,none):=by
 let⟨f,a⟩:=Gg (t:=t) L' k d true;have n:=vg (t:=t) L' k d true;rw[S.b.2.1]at n;have c:=(S.tk t).2.2.1;have s:=h.now;have s:=h.el;have s:∀(α β:Nat)(b:Bk),jo α β V (L.tk t).p (L'.tk t).a k (some b)<=jo α β V (L.tk t).p (L'.tk t).a (k+1) none:=λα β b=>by
  have s:=jd (α:=α) (β:=β) (V:=V) (a:=(L'.tk t).a) (b:=b) (b':=b) r;have r:=mw (α:=α) (β:=β) (V:=V) (p:=(L.tk t).p) (a:=(L'.tk t).a) (k:=k+1) (b:=b);omega
 refine⟨X+10000,_,_,_,h.pk (v:=jo 0 3 V (L.tk t).p (L'.tk t).a (k+1) none) (n:=jo 1 0 V (L.tk t).p (L'.tk t).a (k+1) none) (Pk.wait k d true S λ_=>⟨k,rfl,o⟩) ω i g (.inr ⟨k,o,by rw[n],⟨ω,ω,λj e q=>?_,λb l=>?_,?_,?_⟩,?_⟩)⟩
 .rw[a,c]at e;have:=p j e ω;unfold Oy at*;simp_all
 .cases l;exact⟨by simp[c9];omega,by simp[c9],.inr (.inl ⟨rfl,rfl,by simp[c9]⟩)⟩
 .rw[f,a,c];simp only[upd,if_true];simp_all
 .rw[f,a,c];simp only[upd,if_true];simp_all
 .have g:Lc V m (L'.wait t k d true) (upd μ t (jo 0 3 V (L.tk t).p (L'.tk t).a (k+1) none)) (upd ν t (jo 1 0 V (L.tk t).p (L'.tk t).a (k+1) none)) t (k+1) none:=⟨ω,ω,λj e q=>by
   rw[a,c]at e;have:=p j e q;unfold Oy at*;simp_all,λb l=>(by cases l),by rw[f,a,c];simp[upd],by rw[f,a,c];simp[upd]⟩
  grind
def HI(f:wM V)(h:uW V (m+1) L X μ ν E (some t))(C:Lc V (m+1) L μ ν t k none)(a:k<V.nl)(d:(V.ly k).k=1):eT V m t ({L with tk:=upd L.tk t {L.tk t with a:=upd (L.tk t).a k 1}},some (k+1,none)):=by
 have g:=RJ (α:=0) (β:=3) (a:=(L.tk t).a) C.pk a d (f.rt k a d).1;have g:=RJ (α:=1) (β:=0) (a:=(L.tk t).a) C.pk a d (f.rt k a d).1;have:=C.μ;have:=C.ν;have o:(({L with tk:=upd L.tk t {L.tk t with a:=upd (L.tk t).a k 1}}:LS).tk t).a=upd (L.tk t).a k 1:=by simp[upd]
 have O:Sm V t L {L with tk:=upd L.tk t {L.tk t with a:=upd (L.tk t).a k 1}}:=by
  refine⟨⟨rfl,rfl,rfl,rfl,rfl,rfl⟩,ψ,λj=>?_,λj g=>by simp[upd,g],λc=>⟨Int.le_refl _,χ⟩,λX m _ c=>c.rW rfl rfl λu=>?_,λu=>?_⟩
  .by_cases e:j=t
   .subst e;simp[upd]
   .simp[upd,e]
  .by_cases e:u=t
   .subst e;simp[upd]
   .simp[upd,e]
  .by_cases e:u=t
   .subst e;simp[upd]
   .simp[upd,e]
 refine eT.go h O ω (by have:=C.pk;omega) (λj n c l=>?_) (λb i=>by cases i) χ χ;rw[o];by_cases e:j=k
 .subst e;simp only[upd,if_true];have:=(f.rt j a d).1;omega
 .simp only[upd,af e];exact C.a j n ω l
def J8(b:wM V)(h:uW V (m+1) L X μ ν E (some t))(C:Lc V (m+1) L μ ν t k none)(a:k<V.nl)(c:(V.ly k).k=5):eT V m t (L.take (V.ly k) t k):=by
 have d:=b.ro k a c;unfold LS.take;split
 .refine eT.E3 b h C a ω ?_ rfl;refine Sm.of rfl ⟨rfl,rfl,rfl,rfl,rfl,rfl⟩ (by simp[LS.say,LS.aO]) rfl λX m b b=>fq.set (k:=k) b (λd=>?_) (.inr ⟨rfl,rfl⟩);have q:=b.g k a d;exact⟨q.nx,q.sm,q.st,by have:=q.pd;grind,q.si,by have:=q.pr;grind,by have:=q.tn;grind⟩
 .split
  .exact eT.err h C (Sm.say _ _ _) rfl 3
  .split
   .exact eT.err (L':=(L.say t k 12 0).say t k 16 0) h C (Sm.of rfl ⟨rfl,rfl,rfl,rfl,rfl,rfl⟩ (by simp[LS.say]) rfl λX m _ b=>b.same rfl rfl rfl) rfl 5
   .have b:=yy (α:=0) (β:=3) (a:=(L.tk t).a) C.pk a ω;have b:=yy (α:=1) (β:=0) (a:=(L.tk t).a) C.pk a ω;have:=C.μ;have:=C.ν;refine eT.slp h (Sm.say 12 0 k) a (.inr c) ω C.pk (λj b d a=>?_) (by show jo 0 3 V _ (L.tk t).a _ _+3<=_;omega) (by show jo 1 0 V _ (L.tk t).a _ _<=_;omega);by_cases e:j=k
    .simp_all
    .exact C.a j b ω a
def Ir(p:wM V)(h:uW V (m+1) L X μ ν E (some t))(C:Lc V (m+1) L μ ν t k none)(a:k<V.nl)(c:(V.ly k).k=6):eT V m t (L.uX (V.ly k) t k):=by
 have s:=p.li k a c;unfold LS.uX;split
 .exact eT.err h C (Sm.say _ _ _) rfl 5
 .let⟨l,p⟩:=h.cu t rfl;have S:Sm V t L L:=Sm.id;let⟨g,d⟩:=Gg (t:=t) L k (V.ly k).a true;have f:=vg (t:=t) L k (V.ly k).a true;have p:=Ow (α:=0) (β:=3) (p:=(L.tk t).p) (a:=(L.tk t).a) (a':=λ_=>0) (b:=c9 5 k 0) a c;have p:=Ow (α:=1) (β:=0) (p:=(L.tk t).p) (a:=(L.tk t).a) (a':=λ_=>0) (b:=c9 5 k 0) a c;have p:=C.μ;have p:=C.ν;have p:=h.now;have p:=h.el;have P:=Pk.wait (V:=V) k (V.ly k).a true S λ_=>⟨k,rfl,a⟩
  have r:=h.pk (v:=jo 0 3 V (L.tk t).p (L.tk t).a k (some (c9 5 k 0))) (n:=jo 1 0 V (L.tk t).p (L.tk t).a k (some (c9 5 k 0))) P ω ω ω (.inr ⟨k,a,by rw[f],⟨ω,by rw[d];exact C.pk,λj i p=>by
   rw[d]at i;have:=C.a j i ω;unfold Oy at*;simp_all,λb q=>by cases q;exact⟨by simp[c9];omega,by simp[c9],.inr (.inl ⟨rfl,rfl,by simp[c9]⟩)⟩,by rw[g,d];simp[upd],by rw[g,d];simp[upd]⟩,.inr (.inr ⟨c,λz=>ξ⟩)⟩)
  have o:=l5 μ t (jo 0 3 V (L.tk t).p (L.tk t).a k (some (c9 5 k 0))) L.tl;have n:=l5 ν t (jo 1 0 V (L.tk t).p (L.tk t).a k (some (c9 5 k 0))) L.tl;simp only[l,if_true]at o n;have g:W6 (L.wait t k (V.ly k).a true)=W6 L+1:=by
   have:W6 (L.wait t k (V.ly k).a true)=W6 (L.cB t k true):=rfl;rw[this];exact KQ
  have d:opn (L.wait t k (V.ly k).a true)=opn L+1:=A0 (L:=L.cB t k true) rfl;have b:=h.sm;have b:=h.tl;have b:=h.al;refine⟨X+10000,_,_,_,r.nH (v:=jo 0 3 V (k+1) (λ_=>0) (k+1) none) (n:=jo 1 0 V (k+1) (λ_=>0) (k+1) none) l a c (gr _) (by rw[f]) (by rw[f]) (λu a e=>?_) ?_ ?_ ?_ (az _) (az _)⟩
  .have b:(L.tk u).f=(L.wl:Int):=by rw[<-(P.tk u).2.1];exact e
   rcases(h.tk u a).p with ⟨_,z⟩|⟨w,a,a,a,_⟩<;>omega
  .show L.tl+1+(wG (upd ν t _) L.tl+_)<9990;omega
  .show L.al+1+1+W6 (L.wait t k (V.ly k).a true)+3*m<1000000;omega
  .rw[g,d];show wG (upd μ t _) L.tl+_+_+_<=m;omega
def Mw(r:wM V)(h:uW V (m+1) L X μ ν E (some t))(C:Lc V (m+1) L μ ν t V.nl none):eT V m t (L.step V t V.nl none):=by
 let⟨c,l,k⟩:=(h.tk t (h.cu t rfl).1).c;have p:=C.μ;have p:=C.ν;have p:=h.el;have p:=h.now;unfold LS.step;simp only[if_true];rw[l,mY];have l:=Ke r k (L.us c).toNat;have s:=Pc (aU V c (L.us c).toNat) m ω;have k:=Pc (aU V c (L.us c).toNat) (m+1) ω;have S:Sm V t L (({L with us:=upd L.us c (L.us c+1)}:LS).say t (-1) 1 (L.us c)):=by
  refine⟨⟨rfl,rfl,rfl,rfl,rfl,rfl⟩,by simp[LS.say],λ_=>⟨rfl,rfl,rfl,rfl⟩,λ_ _=>rfl,λk=>?_,λX m _ l=>l.same rfl rfl rfl,λ_=>rfl⟩;show L.us k<=upd L.us c (L.us c+1) k/\_;by_cases e:k=c
  .subst e;simp[upd,LS.say];omega
  .simp[upd,LS.say,e];omega
 split
 .have v:=mw (α:=0) (β:=3) (V:=V) (p:=(L.tk t).p) (a:=(L.tk t).a) (k:=V.nl) (b:=cN (aU V c (L.us c).toNat));have u:=mw (α:=1) (β:=0) (V:=V) (p:=(L.tk t).p) (a:=(L.tk t).a) (k:=V.nl) (b:=cN (aU V c (L.us c).toNat));refine eT.go h ⟨S.b,by simp[LS.say],S.tk,S.ot,S.us,S.gt,S.e⟩ (az _) C.pk (C.as rfl (az _)) (λb n=>ξ) (by show jo 0 3 V _ (L.tk t).a _ _+1<=_;omega) (by show jo 1 0 V _ (L.tk t).a _ _<=_;omega)
 .generalize q:cN (aU V c (L.us c).toNat)=f at*;have P:=Pk.wait (V:=V) V.nl (aU V c (L.us c).toNat).t false S (λz=>by cases z);generalize o:(({L with us:=upd L.us c (L.us c+1)}:LS).say t (-1) 1 (L.us c)).wait t V.nl (aU V c (L.us c).toNat).t false=a at*;have k:(({L with us:=upd L.us c (L.us c+1)}:LS).say t (-1) 1 (L.us c)).wl=L.wl:=rfl;rw[k];have i:a.wt L.wl=⟨t,V.nl,false,false,⟨0,0,[]⟩,0,0⟩:=by rw[P.b.2.2.2.2.2];simp[upd]
  have w:Pk V t L {a with wt:=upd a.wt L.wl {a.wt L.wl with b:=⟨f.k,f.n,⟨0,0,L.us c⟩::f.ch⟩}} (L.now+(aU V c (L.us c).toNat).t) V.nl ⟨f.k,f.n,⟨0,0,L.us c⟩::f.ch⟩:=by
   refine⟨⟨P.b.1,P.b.2.1,P.b.2.2.1,P.b.2.2.2.1,P.b.2.2.2.2.1,?_⟩,P.el,P.tk,P.ot,P.o,P.us,P.gt,P.e⟩;show upd a.wt L.wl {a.wt L.wl with b:=_}=_;rw[i,P.b.2.2.2.2.2];funext j;by_cases e:j=L.wl
   .subst e;simp[upd]
   .simp[upd,e]
  have d:(a.tk t).a=(L.tk t).a/\(a.tk t).p=(L.tk t).p:=by rw[<-o];simp[LS.wait,LS.cB,LS.put,LS.say,upd]
  have v:=mw (α:=0) (β:=3) (V:=V) (p:=(L.tk t).p) (a:=(L.tk t).a) (k:=V.nl) (b:=f);have u:=mw (α:=1) (β:=0) (V:=V) (p:=(L.tk t).p) (a:=(L.tk t).a) (k:=V.nl) (b:=f);refine⟨X+10000,_,_,_,h.pk (v:=jo 0 3 V (L.tk t).p (L.tk t).a V.nl (some f)) (n:=jo 1 0 V (L.tk t).p (L.tk t).a V.nl (some f)) w ω ω ω (.inl ⟨?_,?_,⟨0,0,L.us c⟩,f.ch,?_,?_⟩)⟩
  .simp[upd,i]
  .simp[upd,i]
  .simp[upd,i]
  .have c:∀b':Bk,b'=f->jo 0 3 V (L.tk t).p (L.tk t).a V.nl (some b')=jo 0 3 V (L.tk t).p (L.tk t).a V.nl (some f):=λb' e=>by rw[e]
   refine⟨az _,by show(a.tk t).p<=_;rw[d.2];exact C.pk,λj f e c=>?_,λb n=>?_,?_,?_⟩
   .have g:(a.tk t).p<=j:=f;rw[d.2]at g;show 1<=(a.tk t).a j/\(a.tk t).a j<=_;rw[d.1];exact C.a j g e c
   .simp only[upd,if_true,Option.some.injEq]at n;subst n;exact s
   .show jo 0 3 V (a.tk t).p (a.tk t).a V.nl _<=_;rw[d.1,d.2];simp only[upd,if_true,jo];omega
   .show jo 1 0 V (a.tk t).p (a.tk t).a V.nl _<=_;rw[d.1,d.2];simp only[upd,if_true,jo];omega
end
def wh(q l n:Int)(a:m+1<1000000):Sw m (c9 q l n):=⟨by simp[c9];omega,by simp[c9],.inr (.inl ⟨rfl,rfl,by simp[c9]⟩)⟩
def Sw.less(h:Sw (m+1) b):Sw m b:=⟨by have:=h.1;omega,h.2⟩
section
variable{L L':LS}
def eT.out(h:uW V (m+1) L X μ ν E (some t))(C:Lc V (m+1) L μ ν t (j+1) (some b))(a:(L.tk t).p<=j)(O:Sm V t L L')(c:(L'.tk t).a=(L.tk t).a)(d:Sw m b'):eT V m t (L',some (j,some b')):=by
 have d:=jd (α:=0) (β:=3) (V:=V) (a:=(L.tk t).a) (b:=b) (b':=b') a;have d:=jd (α:=1) (β:=0) (V:=V) (a:=(L.tk t).a) (b:=b) (b':=b') a;have:=C.μ;have:=C.ν;have:=C.kl;exact eT.go h O ω a (C.as c ω) (λb a=>ξ) χ χ
def ER(G:wM V)(h:uW V (m+1) L X μ ν E (some t))(C:Lc V (m+1) L μ ν t (j+1) (some b))(f:(L.tk t).p<=j)(k:(V.ly j).k=1)(J:¬(b.k≠2\/cE b 2=true\/cE b 5=true)):
 eT V m t (if(L.tk t).a j=(V.ly j).a then(L.say t j 4 0,some (j,some ⟨2,0,⟨7,j,0⟩::b.ch⟩))else
  if(L.tk t).x=true then LS.drop t j {L.say t j 3 (aI (V.ly j) ((L.tk t).a j))with tk:=upd (L.say t j 3 (aI (V.ly j) ((L.tk t).a j))).tk t {(L.say t j 3 (aI (V.ly j) ((L.tk t).a j))).tk t with a:=upd ((L.say t j 3 (aI (V.ly j) ((L.tk t).a j))).tk t).a j ((L.tk t).a j+1)}}
  else if aI (V.ly j) ((L.tk t).a j)>0 then(LS.wait {L.say t j 3 (aI (V.ly j) ((L.tk t).a j))with tk:=upd (L.say t j 3 (aI (V.ly j) ((L.tk t).a j))).tk t {(L.say t j 3 (aI (V.ly j) ((L.tk t).a j))).tk t with a:=upd ((L.say t j 3 (aI (V.ly j) ((L.tk t).a j))).tk t).a j ((L.tk t).a j+1)}} t j (aI (V.ly j) ((L.tk t).a j)) true,none)
  else({L.say t j 3 (aI (V.ly j) ((L.tk t).a j))with tk:=upd (L.say t j 3 (aI (V.ly j) ((L.tk t).a j))).tk t {(L.say t j 3 (aI (V.ly j) ((L.tk t).a j))).tk t with a:=upd ((L.say t j 3 (aI (V.ly j) ((L.tk t).a j))).tk t).a j ((L.tk t).a j+1)}},some (j+1,none))):=by
 have r:j<V.nl:=by have:=C.kl;omega
 have o:=C.b b rfl;have K:=h.el;have A:=G.rt j r k;have M:=C.a j f (gr _) k;split
 .refine eT.out h C f (Sm.say _ _ _) rfl ?_;rcases o.2.2 with z|⟨_,_,z⟩|z
  .omega
  .exact⟨by have:=o.1;simp;omega,Jr o.2.1 z,.inr (.inl ⟨rfl,rfl,ψ⟩)⟩
  .omega
 .rename_i D;have B:=AW (V.ly j) ((L.tk t).a j) A.2.2.2;generalize aI (V.ly j) ((L.tk t).a j)=a at*;have q:(({L.say t j 3 a with tk:=upd (L.say t j 3 a).tk t {(L.say t j 3 a).tk t with a:=upd ((L.say t j 3 a).tk t).a j ((L.tk t).a j+1)}}:LS).tk t).a=upd (L.tk t).a j ((L.tk t).a j+1):=by simp[upd,LS.say]
  have S:Sm V t L {L.say t j 3 a with tk:=upd (L.say t j 3 a).tk t {(L.say t j 3 a).tk t with a:=upd ((L.say t j 3 a).tk t).a j ((L.tk t).a j+1)}}:=by
   refine⟨⟨rfl,rfl,rfl,rfl,rfl,rfl⟩,by simp[LS.say],λu=>?_,λu y=>by simp[LS.say,upd,y],λc=>⟨Int.le_refl _,by show L.us c<=L.us c+1;omega⟩,λX m _ F=>F.rW rfl rfl λu=>?_,λu=>?_⟩
   .by_cases e:u=t
    .subst e;simp[upd,LS.say]
    .simp[upd,LS.say,e]
   .by_cases e:u=t
    .subst e;simp[upd,LS.say]
    .simp[upd,LS.say,e]
   .by_cases e:u=t
    .subst e;simp[upd,LS.say]
    .simp[upd,LS.say,e]
  have P:=RL (α:=0) (β:=3) (V:=V) (a:=(L.tk t).a) (b:=b) f k ω;have O:=RL (α:=1) (β:=0) (V:=V) (a:=(L.tk t).a) (b:=b) f k ω;have:=C.μ;have:=C.ν;have g:∀{d:LS},(d.tk t).a=upd (L.tk t).a j ((L.tk t).a j+1)->∀i,(L.tk t).p<=i->i<j+1->Oy V d t i:=fun{d} e i p I H=>by
   rw[e];by_cases v:i=j
   .subst v;simp only[upd,if_true];omega
   .simp only[upd,af v];exact C.a i p ω H
  generalize n:({L.say t j 3 a with tk:=upd (L.say t j 3 a).tk t {(L.say t j 3 a).tk t with a:=upd ((L.say t j 3 a).tk t).a j ((L.tk t).a j+1)}}:LS)=d at*;split
  .have s:∀α β,jo α β V (L.tk t).p (upd (L.tk t).a j ((L.tk t).a j+1)) j (some (c9 5 j 0))<=jo α β V (L.tk t).p (upd (L.tk t).a j ((L.tk t).a j+1)) (j+1) none:=λα β=>by
    have x:=jd (α:=α) (β:=β) (V:=V) (a:=upd (L.tk t).a j ((L.tk t).a j+1)) (b:=b) (b':=c9 5 j 0) f;have w:=mw (α:=α) (β:=β) (V:=V) (p:=(L.tk t).p) (a:=upd (L.tk t).a j ((L.tk t).a j+1)) (k:=j+1) (b:=b);omega
   have x:=s 0 3;have w:=s 1 0
   exact eT.go (L':=d.say t j 16 0) h ⟨S.b,by have:=S.el;have N:d.el=L.el+1:=by rw[<-n];rfl
                                              show d.el+1<=_;omega,S.tk,S.ot,S.us,S.gt,S.e⟩ ω f (λi p I=>g q i p ω) (λb l=>by cases l;exact wh 5 j 0 ω) (by show jo 0 3 V _ (d.tk t).a _ _+1<=_;grind) (by show jo 1 0 V _ (d.tk t).a _ _<=_;grind)
  .split
   .exact eT.slp h S r (.inl k) ω f (g q) χ χ
   .exact eT.go h S ω ω (g q) (λb l=>by cases l) χ χ
def Ln(h:uW V (m+1) L X μ ν E (some t))(C:Lc V (m+1) L μ ν t (j+1) (some b))(d:(L.tk t).p<=j)(s:(V.ly j).k=5):eT V m t (L.fC t j,some (j,some b)):=by
 have f:j<V.nl:=by have:=C.kl;omega
 have i:=(C.b b rfl).less;unfold LS.fC;split
 .rename_i w p;let⟨o,n,l,k⟩:=Kz p;let⟨A,c,a,P,y,D⟩:=eT.out (b':=b) h C d (Sm.say 14 0 j) rfl i;let⟨B,x,_⟩:=y.fix (z:=2) (b:=⟨0,0,[]⟩) (w:=w) o f n l k (.inr ⟨rfl,.inl s⟩) (λ_ u r _ e=>by
   rcases(h.tk u r).p with ⟨_,z⟩|⟨F,G,O,N,M,K,J,_⟩
   .have:(L.tk u).f=(w:Int):=e;omega
   .have I:(L.tk u).f=(w:Int):=e;grind)
  exact⟨A,c,a,B,x,D.mv (az _) rfl rfl rfl rfl⟩
 .refine eT.out h C d (Sm.of rfl ⟨rfl,rfl,rfl,rfl,rfl,rfl⟩ (by simp[LS.say,LS.aO]) rfl λX m H g=>?_) rfl i;refine fq.set (k:=j) g (λv=>?_) (.inr ⟨rfl,rfl⟩);have q:=g.g j f v;exact⟨q.nx,q.sm,q.st,by have:=q.pd;grind,q.si,by have:=q.pr;grind,by have:=q.tn;grind⟩
def Kw(c:wM V){s:Option Bk}(h:uW V (m+1) L X μ ν E (some t))(C:Lc V (m+1) L μ ν t k s):eT V m t (L.step V t k s):=by
 have p:=(h.cu t rfl).1;have v:=h.el;cases s with
 |none=>
  by_cases n:k=V.nl
  .subst n;exact Mw c h C
  .have a:k<V.nl:=by have:=C.kl;omega
   unfold LS.step;simp only[af n];split
   .exact HI c h C a (by assumption)
   .rename_i e;split
    .exact Jw c h C a (by assumption)
    .split
     .exact Xk c h C a (by assumption)
     .split
      .exact J8 c h C a (by assumption)
      .split
       .exact Ir c h C a (by assumption)
       .exact eT.E3 c h C a e Sm.id rfl
 |some b=>
  have f:=C.b b rfl;unfold LS.step;dsimp only;split
  .have w:=Fo (α:=0) (β:=3) (V:=V) (p:=(L.tk t).p) (a:=(L.tk t).a) k;have r:=C.μ;simp only[jo]at r;let⟨i,g,u,e⟩:=h.end_ (b:=b) ω f.less;exact⟨X,i,g,u,e⟩
  .rename_i q;obtain⟨j,rfl⟩:∃j,k=j+1:=⟨k-1,by have:=C.pk;omega⟩;have d:(L.tk t).p<=j:=by have:=C.pk;omega
   have l:j<V.nl:=by have:=C.kl;omega
   rw[eM];split
   .rename_i e;split
    .exact eT.out h C d Sm.id rfl f.less
    .exact ER c h C d e (by assumption)
   .split
    .rename_i o;have G:=GJ (V:=V) (L:=L) (t:=t) b l (λz=>by have:=(h.gt.q.1 t j p l o).2 z;omega) (c.br j l o);exact eT.out h C d G.sm (by rw[G.tk]) f.less
    .split
     .exact Ln h C d (by assumption)
     .split
      .exact eT.out h C d (Sm.say _ _ _) rfl (wh _ _ _ ω)
      .exact eT.out h C d Sm.id rfl f.less
end
def OnR(V:Ev0)(t w:Nat)(c:Int)(L:LS)(k':Nat)(s:Option Bk)(L':LS):Prop:=
 (c=1/\(L.wt w).l=V.nl/\∃y ch,(L.wt w).b.ch=y::ch/\k'=V.nl/\s=some ⟨(L.wt w).b.k,(L.wt w).b.n,ch⟩/\L'=L.say t (-1) 2 y.n)\/
 ∃k:Nat,k<V.nl/\(L.wt w).l=k/\((c=3/\((V.ly k).k=1\/(V.ly k).k=5\/(V.ly k).k=6)/\k'=k/\s=some (c9 5 k 0)/\L'=L.say t k 16 0)\/
  (c=1/\(V.ly k).k=1/\k'=k+1/\s=none/\L'=L)\/
  ((V.ly k).k=5/\c=1/\k'=k/\s=some (c9 3 k 0)/\L'=L.say t k 7 0)\/
  ((V.ly k).k=5/\c=2/\k'=k+1/\s=none/\L'=L.say t k 13 0)\/
  ((V.ly k).k=6/\c=1/\k'=k/\s=some (c9 4 k 0)/\∃oL:List Nat,wu V L (λx=>(L.tk x).f=w) oL/\L'=(L.say t k 15 0).cancel oL)\/
  ((V.ly k).k=6/\c=2/\k'=k/\s=some (L.wt w).b/\L'=L))
structure Xb(V:Ev0)(J:Option (Nat×Nat×Option Bk)->LS->Prop):Prop where
 step:∀t k s L,J (some (t,k,s)) L->qm V t L->(∃m X μ ν E,uW V m L X μ ν E (some t))->k<=V.nl->(L.tk t).p<=k->(∀b,s=some b->G5 b)->J ((L.step V t k s).2.map λq=>(t,q.1,q.2)) (L.step V t k s).1
 start:∀(i t:Nat) L,J none L->(t<L.tl/\∃m X μ ν E,uW V m L X μ ν E none)->cj L.ag L.al=i->(L.ag i).t=t->(L.ag i).c=0->J (some (t,(L.tk t).p,none)) (L.pop i)
 late:∀(i w:Nat) L,J none L->cj L.ag L.al=i->(L.ag i).c=1->(L.ag i).w=w->(L.wt w).x=true\/(L.wt w).e=true->J none (L.pop i)
 JB:∀(i t w:Nat) L k s L',J none L->(∃m X μ ν E,uW V m L X μ ν E none)->t<L.tl->w<L.wl->((L.ag i).c=1/\(L.wt w).x=false\/((L.ag i).c=2\/(L.ag i).c=3)/\(L.wt w).x=true/\(L.wt w).z=(L.ag i).c)->cj L.ag L.al=i->(L.ag i).t=t->(L.ag i).w=w->(L.wt w).t=t->(L.wt w).e=false->qm V t ((L.pop i).bV t w)->OnR V t w (L.ag i).c ((L.pop i).bV t w) k s L'->J (some (t,k,s)) L'
section
variable{L L':LS}
def Pp.pop(V:Ev0)(L:LS)(i:Nat):Pp V i L (L.pop i):=⟨⟨rfl,rfl,rfl,rfl,rfl⟩,by show L.el<=_;omega,λ_=>⟨rfl,rfl,rfl,rfl⟩,λ_=>rfl,rfl,λX m a=>a.same rfl rfl rfl,λ_=>rfl⟩
def Pp.bV(V:Ev0)(L:LS)(i t w:Nat):Pp V i L ((L.pop i).bV t w):=by
 refine⟨⟨rfl,rfl,rfl,rfl,rfl⟩,by show L.el<=_;omega,λj=>?_,λj=>?_,rfl,λX m a=>a.rW rfl rfl λj=>?_,λj=>?_⟩
 .by_cases e:j=t
  .subst e;simp[LS.bV,LS.pop,upd]
  .simp[LS.bV,LS.pop,upd,e]
 .by_cases e:j=t
  .subst e;simp[LS.bV,LS.pop,upd]
  .simp[LS.bV,LS.pop,upd,e]
 .by_cases e:j=t
  .subst e;simp[LS.bV,LS.pop,upd]
  .simp[LS.bV,LS.pop,upd,e]
 .by_cases e:j=t
  .subst e;simp[LS.bV,LS.pop,upd]
  .simp[LS.bV,LS.pop,upd,e]
def Pp.say(P:Pp V i L L')(a:L'.el<=L.el+2)(t:Nat)(l q n:Int):Pp V i L (L'.say t l q n):=⟨P.b,by show L'.el+1<=_;omega,P.tk,P.ta,P.us,λX m a=>⟨(P.gt X m a).1,(P.gt X m a).2.1,(P.gt X m a).2.2⟩,P.e⟩
def Lc.ob(C:Lc V m L μ ν t k (some b))(c:Sw m b'):Lc V m L μ ν t k (some b'):=⟨C.kl,C.pk,C.a,λx a=>by cases a;exact c,C.μ,C.ν⟩
def Lc.bok{s:Option Bk}(C:Lc V m L μ ν t k s)(T:mC V L t):∀b,s=some b->G5 b/\(0<k->Oy V L t (k-1)):=λb c=>by
 have a:=C.b b c;refine⟨⟨by have:=a.1;omega,a.2⟩,λa=>?_⟩;by_cases e:(L.tk t).p<=k-1
 .exact C.a (k-1) e ω
 .intro a;have:=C.pk;rcases T.p with ⟨z,_⟩|⟨_,a,_,_,_,_,z,b⟩
  .omega
  .have:a=k-1:=ω
   subst this;omega
def zP(u:Nat):∀(a:aN)(L:LS),((a.foldl LS.iC L).tk u).a=(L.tk u).a/\((a.foldl LS.iC L).tk u).p=(L.tk u).p
 |[],L=>⟨rfl,rfl⟩
 |j::a,L=>by
  have b:=zP u a (L.iC j);have a:=(Cy.iC (L:=L) j).tk u;exact⟨b.1.trans a.2.2.2.2.1,b.2.trans a.2.2.1⟩
def Mt(L:LS)(j:Nat):(L.jv j).tk=L.tk:=by
 unfold LS.jv LS.qA;split
 .rfl
 .split<;>rfl
def AD:∀(a:aN)(L:LS),(a.foldl LS.jv L).tk=L.tk
 |[],L=>rfl
 |j::a,L=>(AD a (L.jv j)).trans (Mt L j)
def Fx(L:LS)(a:aN)(u:Nat):((L.cancel a).tk u).a=(L.tk u).a/\((L.cancel a).tk u).p=(L.tk u).p:=by
 unfold LS.cancel;rw[AD];exact zP u a L
def uW.over(h:uW V m L X μ ν E none)(c:∀i,i<L.al->(L.ag i).o=true):∀t,t<L.tl->(L.tk t).e=true:=λt a=>h.en t a (by
 cases e:E t with
 |none=>rfl
 |some i=>
  let⟨d,b,_⟩:=h.lv t i a e;rw[c i d]at b;cases b) (λq=>by cases q)
def uW.wov(h:uW V m L X μ ν E none)(f:∀i,i<L.al->(L.ag i).o=true):∀w,w<L.wl->(L.wt w).x=false->(L.wt w).e=true:=λw c b=>by
 cases e:(L.wt w).e with
 |true=>rfl
 |false=>
  let⟨t,i,d,_,g,_⟩:=h.wa w c b e;let⟨b,a,_⟩:=h.lv t i d g;rw[f i b]at a;cases a
def NQ{J:Option (Nat×Nat×Option Bk)->LS->Prop}(hV:wM V)(HJ:Xb V J):∀(m:Nat)(cur:Option (Nat×Nat×Option Bk))(L:LS)(X:Int)(μ ν:bU)(E:Nat->Option Nat),uW V m L X μ ν E (cur.map (·.1))->(∀t k s,cur=some (t,k,s)->Lc V m L μ ν t k s)->J cur L->Fin V (λL=>J none L/\V.nc<=L.tl/\(∀t,t<L.tl->(L.tk t).e=true)/\L.el<1000000/\(∀w,w<L.wl->(L.wt w).x=false->(L.wt w).e=true)/\cj L.ag L.al<0) (m+1) cur L:=by
 intro m;have last:∀L:LS,cj L.ag L.al<0->∀i,i<L.al->(L.ag i).o=true:=λL h=>by
  have:∀n,cj L.ag n<0->∀i,i<n->(L.ag i).o=true:=λn=>by
   induction n with
   |zero=>intro _ i hi;omega
   |succ n H=>
    intro h i hi;unfold cj at h;split at h
    .omega
    .rename_i z;by_cases e:i=n
     .subst e;cases ho:(L.ag i).o with
      |true=>rfl
      |false=>exact absurd ⟨ho,.inl h⟩ z
     .exact H h i ω
  exact this L.al h
 induction m with
 |zero=>
  intro cur L X μ ν E I C N;match cur with
  |none=>
   refine⟨by have:=I.al;omega,?_⟩;rcases rS L.ag L.al with h|⟨k,h1,Y⟩
   .rw[sJ ω];exact⟨N,I.nc,I.over (last L ω),(by have:=I.el;omega),I.wov (last L ω),ω⟩
   .exfalso;have h3:=vI h1 (qI _ _ _ Y).2;have W:=I.sm;omega
  |some (t,k,s)=>
   exfalso;have x:=C t k s rfl;have h1:=(I.cu t rfl).1;have B:=Et μ t L.tl h1;have W:=I.sm;have D:=x.μ;have:=Fo (α:=0) (β:=3) (V:=V) (p:=(L.tk t).p) (a:=(L.tk t).a) k;unfold jo at D;omega
 |succ m H=>
  intro cur L X μ ν E I C N;match cur with
  |some (t,k,s)=>
   have x:=C t k s rfl;have p:=(I.cu t rfl).1;have T:=I.tk t p;have S:=I.Ua p (.inr rfl);refine⟨S,x.kl,x.pk,x.bok T,?_⟩;have hs:=Kw hV I x;have U:=HJ.step t k s L N S ⟨_,_,_,_,_,I⟩ x.kl x.pk λb hb=>(x.bok T b hb).1;revert hs U;generalize L.step V t k s=r;let⟨L1,o⟩:=r;cases o with
   |none=>
    rintro ⟨X',d,a,Q,F⟩ U;exact H none L1 X' d a Q F (λ_ _ _ z=>by cases z) U
   |some q=>
    let⟨v,PE⟩:=q;rintro ⟨X',d,a,Q,F,C1⟩ U;exact H (some (t,v,PE)) L1 X' d a Q F (λ_ _ _ z=>by cases z;exact C1) U
  |none=>
   have rZ:L.al<1000000:=by have:=I.al;omega
   refine⟨rZ,?_⟩;rcases rS L.ag L.al with h|⟨i,h1,Y⟩
   .rw[sJ ω];exact⟨N,I.nc,I.over (last L ω),(by have:=I.el;omega),I.wov (last L ω),ω⟩
   .have ho:=(qI _ _ _ Y).2;rw[af ω];dsimp only;rw[show(cj L.ag L.al).toNat=i by omega];by_cases Qi:∃t,t<L.tl/\E t=some i
    .let⟨t,p,hE⟩:=Qi;let⟨_,_,h4,u⟩:=I.lv t i p hE;refine⟨t,h4,?_⟩;rcases u with ⟨u,B⟩|⟨w,B,W,D,Z,l,u⟩
     .have F:=I.pop (v:=μ t) (n:=ν t) p hE (Pp.pop V L i) (.inl ⟨rfl,u⟩) (az _) (az _);refine .inl ⟨u,F.Ua p (.inr rfl),H (some (t,(L.tk t).p,none)) (L.pop i) X _ _ _ F ?_ (HJ.start i t L N ⟨p,_,_,_,_,_,I⟩ Y h4 u)⟩;rintro _ _ _ ⟨⟩;exact B.mv ω rfl rfl (by simp[upd]) (by simp[upd])
     .have O:=Pp.bV V L i t w;have f:((L.pop i).bV t w).wt w={L.wt w with e:=true}:=by simp[LS.bV,LS.pop,upd]
      have go:∀(L':LS)(v:Nat)(s:Option Bk),Pp V i L L'->L'.wt=((L.pop i).bV t w).wt->Lc V (m+1) L μ ν t v s->∃d a Q,uW V m L' X d a Q (some t)/\Lc V m L' d a t v s:=λL' v s P e c=>⟨_,_,_,I.pop (v:=μ t) (n:=ν t) p hE P (.inr ⟨w,B,e,D⟩) (az _) (az _),c.mv ω (P.ta t) (P.tk t).2.2.1 (by simp[upd]) (by simp[upd])⟩
      have SW:qm V t ((L.pop i).bV t w):=(I.pop (v:=μ t) (n:=ν t) p hE O (.inr ⟨w,B,rfl,D⟩) (az _) (az _)).Ua p (.inr rfl);have fin:∀(L':LS)(v:Nat)(s:Option Bk),Pp V i L L'->L'.wt=((L.pop i).bV t w).wt->Lc V (m+1) L μ ν t v s->OnR V t w (L.ag i).c ((L.pop i).bV t w) v s L'->Fin V (λL=>J none L/\V.nc<=L.tl/\(∀t,t<L.tl->(L.tk t).e=true)/\L.el<1000000/\(∀w,w<L.wl->(L.wt w).x=false->(L.wt w).e=true)/\cj L.ag L.al<0) (m+1) (some (t,v,s)) L':=λL' v s P e c hr=>by
       let⟨d,a,Q,F,x⟩:=go L' v s P e c;exact H (some (t,v,s)) L' X d a Q F (λ_ _ _ z=>by cases z;exact x) (HJ.JB i t w L v s L' N ⟨_,_,_,_,_,I⟩ p W l Y h4 B D Z SW hr)
      have aaR:=l;refine .inr ⟨w,B,W,.inr ⟨D,Z,l,SW,?_⟩⟩;have el0:((L.pop i).bV t w).el=L.el:=rfl;rcases u with ⟨G,a2,y,ch,a3,a4⟩|⟨k,G,a2,a3,a4⟩
      .have g:(L.ag i).c=1:=by
        rcases l with z|z
        .exact z.1
        .rw[G]at z;cases z.2.1
       refine .inl ⟨g,by rw[f];exact a2,y,ch,by rw[f];exact a3,?_⟩;rw[f];exact fin _ _ _ (O.say ω _ _ _ _) rfl a4 (.inl ⟨g,by rw[f];exact a2,y,ch,by rw[f];exact a3,rfl,by rw[f],rfl⟩)
      .have R:(((L.pop i).bV t w).wt w).l=k:=by rw[f];exact a2
       have hm:=I.el;have kind:(V.ly k).k=1\/(V.ly k).k=5\/(V.ly k).k=6:=by
        rcases a4 with z|z|z
        .exact .inl z.1
        .exact .inr (.inl z.1)
        .exact .inr (.inr z.1)
       refine .inr ⟨k,G,R,?_⟩;by_cases hc3:(L.ag i).c=3
       .exact .inl ⟨hc3,kind,fin _ _ _ (O.say ω _ _ _ _) rfl a3 (.inr ⟨k,G,R,.inl ⟨hc3,kind,rfl,rfl,rfl⟩⟩)⟩
       .rcases a4 with ⟨A,b2,b3⟩|⟨A,b2⟩|⟨A,b2⟩
        .have g:(L.ag i).c=1:=by
          rcases l with z|⟨z1,z2,z3⟩
          .exact z.1
          .have:=b2 z2;omega
         exact .inr (.inl ⟨g,A,fin _ _ _ O rfl b3 (.inr ⟨k,G,R,.inr (.inl ⟨g,A,rfl,rfl,rfl⟩)⟩)⟩)
        .rcases l with ⟨g,_⟩|⟨z1,z2,z3⟩
         .exact .inr (.inr (.inl ⟨A,g,fin _ _ _ (O.say ω _ _ _ _) rfl (a3.ob (wh 3 k 0 ω)) (.inr ⟨k,G,R,.inr (.inr (.inl ⟨A,g,rfl,rfl,rfl⟩))⟩)⟩))
         .have g:(L.ag i).c=2:=ω
          exact .inr (.inr (.inr (.inl ⟨A,g,fin _ _ _ (O.say ω _ _ _ _) rfl b2 (.inr ⟨k,G,R,.inr (.inr (.inr (.inl ⟨A,g,rfl,rfl,rfl⟩)))⟩)⟩)))
        .rcases l with ⟨g,_⟩|⟨z1,z2,z3⟩
         .refine .inr (.inr (.inr (.inr (.inl ⟨A,g,λoL M=>?_⟩))));let⟨d,a,Q,F,x⟩:=go (((L.pop i).bV t w).say t k 15 0) k (some (c9 4 k 0)) (O.say ω _ _ _ _) rfl (a3.ob (wh 4 k 0 ω));let⟨E2,I2,_,_⟩:=F.cancel (oL:=oL) (λj U=>(M.mem j U).1);refine H (some (t,k,some (c9 4 k 0))) _ X d a E2 I2 (λ_ _ _ z=>?_) (HJ.JB i t w L k _ _ N ⟨_,_,_,_,_,I⟩ p W aaR Y h4 B D Z SW (.inr ⟨k,G,R,.inr (.inr (.inr (.inr (.inl ⟨A,g,rfl,rfl,oL,M,rfl⟩))))⟩));cases z;have ck:=Fx (((L.pop i).bV t w).say t k 15 0) oL t;exact x.mv (az _) ck.1 ck.2 rfl rfl
         .have g:(L.ag i).c=2:=ω
          have hbb:(((L.pop i).bV t w).wt w).b=(L.wt w).b:=by rw[f]
          refine .inr (.inr (.inr (.inr (.inr ⟨A,g,?_⟩))));rw[hbb];exact fin _ _ _ O rfl (a3.ob (b2 z2 ω)) (.inr ⟨k,G,R,.inr (.inr (.inr (.inr (.inr ⟨A,g,rfl,by rw[hbb],rfl⟩))))⟩)
    .have K:∀t,t<L.tl->E t≠some i:=λt p e=>Qi ⟨t,p,e⟩;let⟨t,h4,h5,u⟩:=I.pd i h1 ho;rcases u with u|⟨u,w,B,W,D⟩
     .exact absurd u (K t h4)
     .exact⟨t,h5,.inr ⟨w,B,W,.inl ⟨u,D,H none (L.pop i) X μ ν E (I.off h1 ho K) (λ_ _ _ z=>by cases z) (HJ.late i w L N Y u B D)⟩⟩⟩
end
def ko(V:Ev0):LS:=⟨0,V.nc,λi=>⟨V.st i,i,0,0,false⟩,V.nc,λi=>⟨i,-1,0,-1,false,false,-1,λ_=>0,λ_=>0⟩,0,λ_=>⟨0,0,false,false,⟨0,0,[]⟩,0,0⟩,λ_=>0,λ_=>⟨0,⟨0,0,[]⟩⟩,0,λ_=>⟨0,0,0,0,0⟩,λ_=>⟨false,0,0,0,0,[],0,0⟩⟩
def UB(a:wM V):uW V 80000 (ko V) 1000 (λ_=>8754) (λ_=>486) (λt=>some t) none:=by
 have m:=a.nc;have m:=DM (f:=λ_=>8754) (c:=8754) V.nc λ_ _=>az _;have m:=DM (f:=λ_=>486) (c:=486) V.nc λ_ _=>az _;have m:opn (ko V)<=V.nc*1:=DM V.nc λi _=>by split<;>omega
 have l:W6 (ko V)=0:=rfl;refine{nc:=az _,tl:=?_,el:=by show 0+3*80000<1000000;omega,wl:=by show 0+80000<1000000;omega,al:=by rw[l];show V.nc+0+3*80000<1000000;omega,now:=by show 0<=(0:Int)/\(0:Int)<=1000;omega,x:=ω,tk:=λt g=>⟨⟨t,rfl,g⟩,.inl ⟨rfl,rfl⟩,.inl rfl⟩,fi:=λt u _ _ m=>absurd m (Ap _),tf:=λt _ _ w f=>?_,us:=λc _=>by show 0<=(0:Int)/\(0:Int)+80000<1000000;omega,ta:=λi e _=>?_,pd:=λi e _=>⟨i,e,rfl,.inl rfl⟩,lv:=λt i g e=>?_,wa:=λw f=>absurd f (uk _),cu:=λt h=>(by cases h),en:=λt _ h=>(by cases h),sm:=?_,gt:=⟨λk d m=>?_,λt k _ _ _=>?_,λk _ _=>?_⟩}
 .show V.nc+wG (λ_=>486) V.nc<9990;omega
 .have:(-1:Int)=w:=f;omega
 .have:=a.st i e;show 0<=V.st i/\V.st i<=1000;omega
 .cases e;have c:=Yp a (λ_=>0);exact⟨g,rfl,rfl,.inl ⟨rfl,gl _,gl _,λj _ h=>absurd h (uk _),λb n=>(by cases n),c.1,c.2⟩⟩
 .show wG (λ_=>8754) V.nc+opn (ko V)+W6 (ko V)<=80000;rw[l];omega
 .have b:0<=(V.ly k).a:=by
   rcases a.kd k d with z|z|z|z|z|z
   .omega
   .omega
   .have:=a.ra k d z;omega
   .have:=a.br k d z;omega
   .have:=a.ro k d z;omega
   .have:=a.li k d z;omega
  refine⟨by show 0<=(0:Int)/\(0:Int)<=1000+20000;omega,λ_=>rfl,.inl ⟨rfl,?_⟩,by show 0<=(0:Int)/\(0:Int)+80000<1000000;omega,by show 0<=(0:Int)/\(0:Int)<=1000;omega,by show -1000000<(0:Int)-80000/\(0:Int)+80000<1000000;omega,by show -1000000<(0:Int)-80000/\(0:Int)+80000<1000000;omega⟩;show((0:Nat):Int)<=_;simpa using b
 .exact⟨Int.le_refl _,λz=>by cases z⟩
 .exact⟨Int.le_refl _,λz=>by cases z⟩
def Rr{J:Option (Nat×Nat×Option Bk)->LS->Prop}(a:wM V)(c:Xb V J)(b:J none (ko V)):Fin V (λL=>J none L/\V.nc<=L.tl/\(∀t,t<L.tl->(L.tk t).e=true)/\L.el<1000000/\(∀w,w<L.wl->(L.wt w).x=false->(L.wt w).e=true)/\cj L.ag L.al<0) 80001 none (ko V):=
 NQ a c 80000 none (ko V) 1000 _ _ _ (UB a) (λ_ _ _ z=>by cases z) b
abbrev V1:Ev0:=⟨0,λ_=>⟨0,0,0,0,0,0⟩,1,λ_=>5,λ_=>1,λ_ _=>⟨1,7,3⟩⟩
def Y1:LS:=(ko V1).pop 0
def Y2:LS:=(Y1.step V1 0 0 none).1
def Y3:LS:=((Y2.pop 1).bV 0 0).say 0 (-1) 2 0
def Y4:LS:=(Y3.step V1 0 0 (some ⟨1,7,[]⟩)).1
def J1(cur:Option (Nat×Nat×Option Bk))(L:LS):Prop:=
 (cur=none/\L=ko V1)\/(cur=some (0,0,none)/\L=Y1)\/(cur=none/\L=Y2)\/(cur=some (0,0,some ⟨1,7,[]⟩)/\L=Y3)\/(cur=none/\L=Y4)
def VD:Xb V1 J1 where
 step:=λt k s L h _ _ _ _ _=>by
  rcases h with ⟨e,_⟩|⟨e,rfl⟩|⟨e,_⟩|⟨e,rfl⟩|⟨e,_⟩
  .cases e
  .cases e;exact .inr (.inr (.inl ⟨ρ,rfl⟩))
  .cases e
  .cases e;exact .inr (.inr (.inr (.inr ⟨ρ,rfl⟩)))
  .cases e
 start:=λi t L h _ c d f=>by
  rcases h with ⟨_,rfl⟩|⟨e,_⟩|⟨_,rfl⟩|⟨e,_⟩|⟨_,rfl⟩
  .have:cj (ko V1).ag (ko V1).al=0:=ρ
   have:i=0:=ω
   subst this
   have:t=0:=by have:((ko V1).ag 0).t=0:=ρ
                omega
   subst this;exact .inr (.inl ⟨rfl,rfl⟩)
  .cases e
  .have:cj Y2.ag Y2.al=1:=ρ
   have:i=1:=ω
   subst this;have:(Y2.ag 1).c=1:=ρ
   omega
  .cases e
  .have:cj Y4.ag Y4.al=-1:=ρ
   omega
 late:=λi w L h c f f b=>by
  rcases h with ⟨_,rfl⟩|⟨e,_⟩|⟨_,rfl⟩|⟨e,_⟩|⟨_,rfl⟩
  .have:cj (ko V1).ag (ko V1).al=0:=ρ
   have:i=0:=ω
   subst this;have:((ko V1).ag 0).c=0:=ρ
   omega
  .cases e
  .have:cj Y2.ag Y2.al=1:=ρ
   have:i=1:=ω
   subst this;have:(Y2.ag 1).w=0:=ρ
   have:w=0:=ω
   subst this;have g:(Y2.wt 0).x=false:=ρ
   have f:(Y2.wt 0).e=false:=ρ
   rw[g,f]at b;rcases b with z|z<;>cases z
  .cases e
  .have:cj Y4.ag Y4.al=-1:=ρ
   omega
 JB:=λi t w L k s L' h _ d _ d c c c _ _ _ O=>by
  rcases h with ⟨_,rfl⟩|⟨e,_⟩|⟨_,rfl⟩|⟨e,_⟩|⟨_,rfl⟩
  .have:cj (ko V1).ag (ko V1).al=0:=ρ
   have:i=0:=ω
   subst this;have:((ko V1).ag 0).c=0:=ρ
   omega
  .cases e
  .have:cj Y2.ag Y2.al=1:=ρ
   have:i=1:=ω
   subst this;have:(Y2.ag 1).w=0:=ρ
   have:w=0:=ω
   subst this;have:(Y2.ag 1).t=0:=ρ
   have:t=0:=ω
   subst this;rcases O with ⟨_,_,y,ch,a,rfl,rfl,rfl⟩|⟨c,ok,_⟩
   .have c:(((Y2.pop 1).bV 0 0).wt 0).b=⟨1,7,[⟨0,0,0⟩]⟩:=ρ
    rw[c]at a ⊢;cases a;exact .inr (.inr (.inr (.inl ⟨rfl,rfl⟩)))
   .exact absurd ok (uk _)
  .cases e
  .have:cj Y4.ag Y4.al=-1:=ρ
   omega
def Xs:Fin V1 (λL=>J1 none L/\V1.nc<=L.tl/\(∀t,t<L.tl->(L.tk t).e=true)/\L.el<1000000/\(∀w,w<L.wl->(L.wt w).x=false->(L.wt w).e=true)/\cj L.ag L.al<0) 80001 none (ko V1):=
 Rr ⟨δ,δ,λk a=>absurd a (uk _),δ,λk a=>absurd a (uk _),λk a=>absurd a (uk _),λk a=>absurd a (uk _),λk a=>absurd a (uk _),λk a=>absurd a (uk _),λc a=>(by decide:0<=(5:Int)/\(5:Int)<=1000),λc a=>(by decide:1<=12),λc a j a=>(by decide:(1<=(1:Int)/\(1:Int)<=4)/\0<=(3:Int)/\(3:Int)<=1000)⟩ VD (.inl ⟨rfl,rfl⟩)
def end_1{L:LS}(h:J1 none L/\V1.nc<=L.tl/\(∀t,t<L.tl->(L.tk t).e=true)/\L.el<1000000/\(∀w,w<L.wl->(L.wt w).x=false->(L.wt w).e=true)/\cj L.ag L.al<0):L.ou 0=⟨8,⟨1,7,[]⟩⟩/\L.el=2/\L.ev 1=⟨8,0,-1,2,0⟩:=by
 let⟨d,c,b,_⟩:=h;have a:=b 0 c;rcases d with ⟨_,rfl⟩|⟨e,_⟩|⟨_,rfl⟩|⟨e,_⟩|⟨_,rfl⟩
 .have e:((ko V1).tk 0).e=false:=ρ
  rw[e]at a;cases a
 .cases e
 .have e:(Y2.tk 0).e=false:=ρ
  rw[e]at a;cases a
 .cases e
 .exact⟨ρ,ρ,ρ⟩
end Go.Proofs.YtobagnjnbmgidabGreatDoor
