import Derived.Test.YtobagnjnbmgidaaGreatDoorB2
set_option linter.all false
set_option maxHeartbeats 0
set_option maxRecDepth 100000
namespace Go.Proofs.YtobagnjnbmgidaaGreatDoor
open Go.Conc Go.RowKit Tryz
variable{y:ju}{N N0 cap cA v:Nat}{r:aH}{C M:aW}{D:aj}{Z:aC}{Y:cO}{sL:eP}{vs:iO}
variable{α β p m t i k j B ng n:Nat}{V:Ev0}{a:Nat->Int}{X:Int}{μ ν:bU}{E:Nat->Option Nat}{b b':Bk}{cur:Option (Nat×Nat×Option Bk)}{W:Bool}{Ok:dh}{U:gi}{P:aG}{Post:qz}{wI:aj}{l:aN}{R sa:eP}
def wG(f:bU):Nat->Nat
 |0=>0
 |n+1=>wG f n+f n
def l5(f:bU)(t v:Nat):∀n,wG (upd f t v) n+(if t<n then f t else 0)=wG f n+(if t<n then v else 0)
 |0=>by simp[wG]
 |n+1=>by
  have h:=l5 f t v n;simp only[wG];by_cases b:t<n
  .have:(upd f t v) n=f n:=by simp[upd];omega
   grind
  .by_cases a:t=n
   .subst a;have:(upd f t v) t=v:=by simp[upd]
    grind
   .have:(upd f t v) n=f n:=by simp[upd];omega
    grind
def oM{f g:bU}:∀n,(∀i,i<n->f i=g i)->wG f n=wG g n
 |0,_=>rfl
 |n+1,h=>by simp only[wG];rw[oM n λi a=>h i ω,h n ω]
def Et(f:bU)(t:Nat):∀n,t<n->f t<=wG f n
 |0,h=>ω
 |n+1,h=>by
  simp only[wG];by_cases a:t=n
  .simp_all
  .have:=Et f t n ω;omega
def DM{f:bU}{c:Nat}:∀n,(∀i,i<n->f i<=c)->wG f n<=n*c
 |0,_=>by simp[wG]
 |n+1,h=>by simp only[wG];have:=DM n λi a=>h i ω;grind
def JR(f:bU)(v n:Nat):wG (upd f n v) (n+1)=wG f n+v:=by
 simp only[wG];rw[oM (g:=f) n λi a=>by simp[upd,iS a]];simp[upd]
def cI(α β:Nat)(V:Ev0):Nat->Nat
 |0=>β
 |d+1=>if(V.ly (V.nl-(d+1))).k=1 then 9*(cI α β V d+2*β)+β else if(V.ly (V.nl-(d+1))).k=6 then cI α β V d+α+6*β else cI α β V d+2*β
def oC(α β:Nat)(V:Ev0)(p:Nat)(a:Nat->Int):Nat->Nat
 |0=>β
 |j+1=>if j+1<=p then β else oC α β V p a j+β+if(V.ly j).k=1 then((V.ly j).a-a j).toNat*(cI α β V (V.nl-(j+1))+2*β)else 0
def jo(α β:Nat)(V:Ev0)(p:Nat)(a:Nat->Int)(k:Nat)(Q:Option Bk):Nat:=oC α β V p a k+match Q with
 |none=>cI α β V (V.nl-k)
 |some _=>0
def KS(h:p<=j):oC α β V p a (j+1)=oC α β V p a j+β+if(V.ly j).k=1 then((V.ly j).a-a j).toNat*(cI α β V (V.nl-(j+1))+2*β)else 0:=by
 conv=>lhs;unfold oC
 grind
def aaP:∀k,k<=p->oC α β V p a k=β
 |0,_=>rfl
 |k+1,h=>by unfold oC;simp_all
def rR{b:Nat->Int}:∀k,(∀i,i<k->a i=b i)->oC α β V p a k=oC α β V p b k
 |0,_=>rfl
 |k+1,h=>by unfold oC;rw[rR k λi a=>h i ω,h k ω]
def Lg(a:k<V.nl):cI α β V (V.nl-k)=if(V.ly k).k=1 then 9*(cI α β V (V.nl-(k+1))+2*β)+β else if(V.ly k).k=6 then cI α β V (V.nl-(k+1))+α+6*β else cI α β V (V.nl-(k+1))+2*β:=by
 rw[show V.nl-k=(V.nl-(k+1))+1 by omega]
 conv=>lhs;unfold cI
 grind
def Uk:∀d,β<=cI α β V d
 |0=>az _
 |d+1=>by
  have:=Uk d;unfold cI;grind
def Fo:∀k,β<=oC α β V p a k
 |0=>az _
 |k+1=>by
  unfold oC;grind
def RJ(c:p<=k)(d:k<V.nl)(b:(V.ly k).k=1)(e:1<=(V.ly k).a/\(V.ly k).a<=9):jo α β V p (upd a k 1) (k+1) none+2*β<=jo α β V p a k none:=by
 have f:oC α β V p (upd a k 1) k=oC α β V p a k:=rR k λi e=>by simp[upd];omega
 have e:upd a k 1 k=1:=by simp[upd]
 have a:((V.ly k).a-1).toNat<=8:=ω
 have g:=F2 (cI α β V (V.nl-(k+1))+2*β) a;simp only[jo];rw[Lg d,sJ b,KS c,sJ b,f,e];omega
def yy(c:p<=k)(d:k<V.nl)(b:¬(V.ly k).k=1):jo α β V p a (k+1) none+β<=jo α β V p a k none:=by
 simp only[jo];rw[Lg d,af b,KS c,af b];grind
def Ow{a':Nat->Int}(c:k<V.nl)(d:(V.ly k).k=6):jo α β V p a k (some b)+jo α β V (k+1) a' (k+1) none+α+5*β=jo α β V p a k none:=by
 simp only[jo];rw[Lg c,af ω,sJ d,aaP (p:=k+1) (k+1) (az _)];omega
def mw:jo α β V p a k (some b)+β<=jo α β V p a k none:=by have:=Uk (α:=α) (β:=β) (V:=V) (V.nl-k);simp only[jo];omega
def jd(c:p<=j):jo α β V p a j (some b')+β<=jo α β V p a (j+1) (some b):=by
 simp only[jo,KS c];omega
def RL(c:p<=j)(d:(V.ly j).k=1)(e:a j<(V.ly j).a):jo α β V p (upd a j (a j+1)) (j+1) none+2*β<=jo α β V p a (j+1) (some b):=by
 have f:oC α β V p (upd a j (a j+1)) j=oC α β V p a j:=rR j λi b=>by simp[upd];omega
 have e:upd a j (a j+1) j=a j+1:=by simp[upd]
 have b:((V.ly j).a-a j).toNat=((V.ly j).a-(a j+1)).toNat+1:=ω
 simp only[jo,KS c,sJ d,f,e,b,YD];omega
def Le{V:Ev0}:∀d,d<=V.nl->∃r,Ih V.ly V.nl=Ih V.ly (V.nl-d)+r/\(r=0->cI 0 3 V d<=18*d+3/\cI 1 0 V d<=d)/\(r<=1->cI 0 3 V d<=162*d+3/\cI 1 0 V d<=9*d)/\(r<=2->cI 0 3 V d<=1458*d+3/\cI 1 0 V d<=81*d)
 |0,_=>⟨0,ψ,by simp[cI],by simp[cI],by simp[cI]⟩
 |d+1,h=>by
  let⟨r,a,_,_,b⟩:=Le (V:=V) d ω;rw[show V.nl-d=(V.nl-(d+1))+1 by omega]at a;simp only[Ih]at a;unfold cI;by_cases e:(V.ly (V.nl-(d+1))).k=1
  .rw[sJ e]at a;rw[sJ e,sJ e];exact⟨r+1,ω,λz=>ω,λz=>ω,λz=>ω⟩
  grind
def Yp(b:wM V)(a:Nat->Int):jo 0 3 V 0 a 0 none<=8754/\jo 1 0 V 0 a 0 none<=486:=by
 let⟨r,_,_,_,c⟩:=Le (V:=V) V.nl (az _);have d:=b.nl;have d:=b.r2;have:=c ω;simp only[jo,Al];have b:oC 0 3 V 0 a 0=3:=rfl;have b:oC 1 0 V 0 a 0=0:=rfl;omega
def opn(L:LS):Nat:=wG (λi=>if(L.ag i).o=true then 0 else 1) L.al
def W6(L:LS):Nat:=wG (λi=>if(L.wt i).x=false/\(L.wt i).e=false then 1 else 0) L.wl
def A0{L:LS}{e:qy}(b:e.o=false):opn (L.put e)=opn L+1:=by
 unfold opn;show wG _ (L.al+1)=_;simp only[wG];rw[oM (g:=λi=>if(L.ag i).o=true then 0 else 1) L.al λi a=>by simp[LS.put,upd,iS a]];simp[LS.put,upd,b]
def vI{L:LS}(b:i<L.al)(a:(L.ag i).o=false):opn (L.pop i)+1=opn L:=by
 have:=l5 (λi=>if(L.ag i).o=true then 0 else 1) i 0 L.al;simp only[b,if_true,a]at this;unfold opn;rw[oM (g:=upd (λi=>if(L.ag i).o=true then 0 else 1) i 0) (L.pop i).al λj a=>by by_cases e:j=i<;>simp[LS.pop,upd,e]];simpa [LS.pop]using this
def KQ{L:LS}{l:Int}{a:Bool}:W6 (L.cB t l a)=W6 L+1:=by
 unfold W6;show wG _ (L.wl+1)=_;simp only[wG];rw[oM (g:=λi=>if(L.wt i).x=false/\(L.wt i).e=false then 1 else 0) L.wl λi a=>by simp[LS.cB,upd,iS a]];simp[LS.cB,upd]
def KR{L:LS}{w:Nat}{z:Int}(c:w<L.wl)(a:(L.wt w).x=false)(d:(L.wt w).e=false):W6 (L.fix w z b)+1=W6 L/\opn (L.fix w z b)=opn L+1:=by
 refine⟨?_,A0 (L:={L with wt:=upd L.wt w {L.wt w with x:=true,z:=z,b:=b}}) rfl⟩;have:=l5 (λi=>if(L.wt i).x=false/\(L.wt i).e=false then 1 else 0) w 0 L.wl;simp only[c,if_true,a,d,and_self]at this;unfold W6;rw[oM (g:=upd (λi=>if(L.wt i).x=false/\(L.wt i).e=false then 1 else 0) w 0) (L.fix w z b).wl λj a=>by by_cases e:j=w<;>simp[LS.fix,LS.put,upd,e]];simpa [LS.fix,LS.put]using this
def qI(a:Nat->qy):∀i,∀k:Nat,cj a i=k->k<i/\(a k).o=false
 |0,k,h=>by simp[cj]at h
 |i+1,k,h=>by
  unfold cj at h;split at h
  .grind
  .have:=qI a i k h;grind
def Sw(m:Nat)(b:Bk):Prop:=b.ch.length+m<1000000/\(∀x∈b.ch.dropLast,x.k=7)/\((b.k=1/\b.ch=[])\/(b.k=2/\b.n=0/\b.ch≠[])\/(b.k=3/\b.ch=[]))
def Bc.less{g:Gt}{a:Nat}(h:Bc y g X m)(b:a<=m):Bc y g X a:=⟨h.nx,h.sm,h.st,by have:=h.pd;omega,h.si,by have:=h.pr;omega,by have:=h.tn;omega⟩
def Bc.x{g:Gt}{a:Int}(h:Bc y g X m)(b:X<=a):Bc y g a m:=⟨by have:=h.nx;omega,h.sm,h.st,h.pd,by have:=h.si;omega,h.pr,h.tn⟩
def X8(V:Ev0)(L:LS):Prop:=(∀t k,t<L.tl->k<V.nl->(V.ly k).k=4->(L.tk t).q k<=(L.gt k).pd/\((L.gt k).st=1->(L.tk t).q k<(L.gt k).pd))/\∀k,k<V.nl->(V.ly k).k=4->0<=(L.gt k).pd/\((L.gt k).st=1->0<(L.gt k).pd)
def fq(V:Ev0)(L:LS)(X:Int)(m:Nat):Prop:=(∀k,k<V.nl->3<=(V.ly k).k->Bc (V.ly k) (L.gt k) X m)/\X8 V L
def fq.g{L:LS}(h:fq V L X m):∀k,k<V.nl->3<=(V.ly k).k->Bc (V.ly k) (L.gt k) X m:=h.1
def fq.q{L:LS}(h:fq V L X m):X8 V L:=h.2
def fq.less{V:Ev0}{L:LS}{X:Int}{m:Nat}(h:fq V L X (m+1)):fq V L X m:=⟨λk a b=>(h.g k a b).less ω,h.q⟩
def fq.rW{L L':LS}(h:fq V L X (m+1))(e:L'.gt=L.gt)(a:L'.tl=L.tl)(c:∀u,(L'.tk u).q=(L.tk u).q):fq V L' X m:=⟨λk a b=>by rw[e];exact(h.g k a b).less ω,λt k b a b=>by rw[e,c];exact h.q.1 t k ω a b,λk a b=>by rw[e];exact h.q.2 k a b⟩
def fq.same{L L':LS}(h:fq V L X (m+1))(e:L'.gt=L.gt)(b:L'.tl=L.tl)(a:L'.tk=L.tk):fq V L' X m:=h.rW e b λu=>by rw[a]
def fq.x{V:Ev0}{L:LS}{X a:Int}{m:Nat}(h:fq V L X m)(b:X<=a):fq V L a m:=⟨λk a c=>(h.g k a c).x b,h.q⟩
def fq.set{L:LS}{g:Gt}(h:fq V L X (m+1))(f:3<=(V.ly k).k->Bc (V.ly k) g X m)(i:(L.gt k).pd<g.pd\/(g.pd=(L.gt k).pd/\g.st=(L.gt k).st)):fq V (L.aO k g) X m:=⟨λj a d=>by
 by_cases e:j=k
 .subst e;simp only[LS.aO,upd,if_true];exact f d
 .simp only[LS.aO,upd,af e];exact(h.g j a d).less ω,λt j d a c=>by
 have b:=h.q.1 t j d a c;by_cases e:j=k
 .subst e;simp only[LS.aO,upd,if_true];omega
 .simp only[LS.aO,upd,af e];exact b,λj a c=>by
 have b:=h.q.2 j a c;by_cases e:j=k
 .subst e;simp only[LS.aO,upd,if_true];omega
 .simp only[LS.aO,upd,af e];exact b⟩
def fq.mark{V:Ev0}{L:LS}{X:Int}{m k t:Nat}(h:fq V L X m)(b:(L.gt k).st≠1):fq V (L.mark t k) X m:=⟨h.g,λu j b d f=>by
 have c:=h.q.1 u j b d f;by_cases e:u=t
 .by_cases a:j=k
  .subst a;simp only[LS.mark,upd,sJ e,if_true];omega
  .simp only[LS.mark,upd,sJ e,af a];simp_all
 .simp only[LS.mark,upd,af e];exact c,h.q.2⟩
def Pc(x:Lm)(m:Nat)(a:m<900000):Sw m (cN x):=by
 unfold cN c9 Sw;grind
def AW(y:ju)(n:Int)(a:0<=y.d/\y.d<=10000):aI y n<=10000:=by
 unfold aI;grind
def Ke(b:wM V){c:Nat}(a:c<V.nc)(n:Nat):0<=(aU V c n).t/\(aU V c n).t<=1000:=by
 unfold aU;split
 .exact(b.tr c a n (by assumption)).2
 .simp
structure Gl(V:Ev0)(L L':LS):Prop where
 tl:L'.tl=L.tl
 el:L'.el<=L.el+1
 wl:L'.wl=L.wl
 tk:L'.tk=L.tk
 us:L'.us=L.us
 wt:L'.wt=L.wt
 now:L'.now=L.now
 al:L'.al=L.al
 ag:L'.ag=L.ag
 gt:∀(X:Int)(m:Nat),(0<=L.now/\L.now<=X)->fq V L X (m+1)->fq V L' X m
def Ik{g:Gt}{now:Int}(a:(1<=y.a/\y.a<=1000)/\(1<=y.b/\y.b<=20))(a:0<=now/\now<=X)(a:0<=g.nx/\g.nx<=X+20000)(a:g.sm=false->g.nx=0)(b:¬(g.sm=true/\g.nx-now>(y.b-1)*y.a)):0<=(if g.sm=false\/g.nx<now then now else g.nx)+y.a/\(if g.sm=false\/g.nx<now then now else g.nx)+y.a<=X+20000:=by
 by_cases e:g.sm=false\/g.nx<now
 .grind
 .rw[af e];have a:g.sm=true:=ξ
  have c:¬g.nx-now>(y.b-1)*y.a:=λz=>b ⟨a,z⟩;have a:(y.b-1)*y.a<=19*y.a:=WD ω ω;omega
def F4{L:LS}(t:Nat)(c:k<V.nl)(a:1<=(V.ly k).e/\(V.ly k).e<=9):Gl V L (L.aM t k):=by
 unfold LS.aM;split
 .refine⟨rfl,by simp[LS.say,LS.aO],rfl,rfl,rfl,rfl,rfl,rfl,rfl,λX m b h=>?_⟩;refine(fq.set (k:=k) (g:=(L.gt k).turn L.now 2) h (λd=>?_) (.inl (by simp only[Gt.turn];omega)));have a:=h.g k c d;exact⟨a.nx,a.sm,.inr (.inr ⟨rfl,by simp[Gt.turn];omega⟩),by have:=a.pd;simp only[Gt.turn];omega,b,by have:=a.pd;simp only[Gt.turn];omega,by have:=a.tn;simp only[Gt.turn];omega⟩
 .exact⟨rfl,ω,rfl,rfl,rfl,rfl,rfl,rfl,rfl,λX m b h=>h.less⟩
def EZ{L:LS}(t:Nat)(p:k<V.nl)(q:1<=(V.ly k).e/\(V.ly k).e<=9)(b:Gl V L (L.aM t k)):Gl V L ((L.aM t k).cz k):=by
 unfold LS.cz;split
 .rename_i o;refine⟨b.tl,b.el,b.wl,b.tk,b.us,b.wt,b.now,b.al,b.ag,λX m i h=>?_⟩;have f:=b.gt X m i h;refine⟨λj c l=>?_,λu j n c g=>?_,λj c g=>?_⟩
  .by_cases e:j=k
   .subst e;simp only[LS.aO,upd,if_true];have a:=h.g j c l;unfold LS.aM at o ⊢;split
    .refine⟨?_,?_,?_,?_,?_,?_,?_⟩<;>simp only[LS.say,LS.aO,upd,if_true,Gt.turn]
     .exact a.nx
     .exact a.sm
     .exact .inr (.inr ⟨trivial,θ⟩)
     .have:=a.pd;omega
     .exact i
     .have:=a.pd;omega
     .have:=a.tn;omega
    .exact⟨a.nx,a.sm,a.st,by have:=a.pd;grind,a.si,by have:=a.pr;grind,by have:=a.tn;grind⟩
   .simp only[LS.aO,upd,af e];exact f.g j c l
  .have d:=f.q.1 u j n c g;by_cases e:j=k
   .subst e;simp only[LS.aO,upd,if_true];exact d
   .simp only[LS.aO,upd,af e];exact d
  .have d:=f.q.2 j c g;by_cases e:j=k
   .subst e;simp only[LS.aO,upd,if_true];exact d
   .simp only[LS.aO,upd,af e];exact d
 .exact b
def F3{L:LS}:(((L.aM t k).cz k).gt k).st≠1:=by
 have h:((L.aM t k).gt k).st≠1:=by
  unfold LS.aM;split
  .simp[LS.say,LS.aO,upd,Gt.turn]
  omega
 unfold LS.cz;split
 .simp only[LS.aO,upd,if_true];exact h
 .exact h
def FJ(y:ju)(g:Gt)(x:Bool):(g.st=0->(g.la.length:Int)<=y.a->1<=y.a->((g.keep y x).length:Int)<=y.a)/\(g.st≠0->(g.keep y x).length=g.la.length+1):=by
 unfold Gt.keep;grind
def GJ{L:LS}(b:Bk)(l:j<V.nl)(f:(L.gt j).st=1->(L.tk t).q j≠(L.gt j).pd)(p:(1<=(V.ly j).a/\(V.ly j).a<=20)/\(1<=(V.ly j).b/\(V.ly j).b<=(V.ly j).a)/\(1<=(V.ly j).c/\(V.ly j).c<=100)/\(0<=(V.ly j).d/\(V.ly j).d<=1000)/\(1<=(V.ly j).e/\(V.ly j).e<=9)):Gl V L (L.count (V.ly j) t j b):=by
 have set:∀g:Gt,(∀(X:Int)(m:Nat),(0<=L.now/\L.now<=X)->Bc (V.ly j) (L.gt j) X (m+1)->Bc (V.ly j) g X m)->((L.gt j).pd<g.pd\/(g.pd=(L.gt j).pd/\g.st=(L.gt j).st))->Gl V L (L.aO j g):=λg n i=>
  ⟨rfl,by simp[LS.aO],rfl,rfl,rfl,rfl,rfl,rfl,rfl,λX m a h=>h.set (λo=>n X m a (h.g j l o)) i⟩
 have say:∀(L':LS)(q:Int),L'.el=L.el->Gl V L L'->Gl V L (L'.say t j q 0):=λL' q r h=>⟨h.tl,by simp[LS.say];omega,h.wl,h.tk,h.us,h.wt,h.now,h.al,h.ag,h.gt⟩
 unfold LS.count;split
 .exact⟨rfl,ω,rfl,rfl,rfl,rfl,rfl,rfl,rfl,λX m a h=>h.less⟩
 .rename_i e;split
  .refine set _ (λX m a h=>⟨h.nx,h.sm,h.st,by have:=h.pd;grind,h.si,(by have:=h.pr;grind),by have:=h.tn;dsimp only;omega⟩) (.inr τ)
  .have k:=FJ (V.ly j) (L.gt j) (decide (b.k≠1));dsimp only;split
   .refine say _ 9 rfl (set _ (λX m a h=>⟨h.nx,h.sm,.inr (.inl τ),by have:=h.pd;simp only[Gt.turn];omega,a,by have:=h.pd;simp only[Gt.turn];omega,by have:=h.tn;simp only[Gt.turn];omega⟩) (.inl (by simp only[Gt.turn];omega)))
   .split
    .refine say _ 11 rfl (set _ (λX m a h=>⟨h.nx,h.sm,.inl ⟨rfl,by simp[Gt.turn];omega⟩,by have:=h.pd;simp only[Gt.turn];omega,a,by have:=h.pd;simp only[Gt.turn];omega,by have:=h.tn;simp only[Gt.turn];omega⟩) (.inl (by simp only[Gt.turn];omega)))
    .rename_i u s;refine set _ (λX m a h=>⟨h.nx,h.sm,?_,by have:=h.pd;grind,h.si,by have:=h.pr;grind,by have:=h.tn;grind⟩) (.inr τ);rcases h.st with ⟨d,c⟩|⟨d,c⟩|⟨d,c⟩
     .simp_all
     .simp_all
     grind
def Jr{x:iN}{l:List iN}(h:∀y∈l.dropLast,y.k=7)(a:l≠[])(b:x.k=7:=by rfl):∀y∈(x::l).dropLast,y.k=7:=by
 obtain⟨z,b,rfl⟩:=List.exists_cons_of_ne_nil a;simp_all
def Kz{wt:Nat->tU}{k:Int}{w:Nat}:∀{n:Nat},tJ wt k n=some w->w<n/\(wt w).l=k/\(wt w).x=false/\(wt w).e=false
 |0,h=>by cases h
 |n+1,h=>by
  unfold tJ at h;split at h
  .rename_i z;cases h;have:=Kz z;grind
  grind
def fq.new{L L':LS}(h:fq V L X m)(e:L'.gt=L.gt)(a:L'.tl=L.tl+1)(c:∀u,u<L.tl->(L'.tk u).q=(L.tk u).q)(d:(L'.tk L.tl).q=λ_=>0):fq V L' X m:=by
 refine⟨λk a b=>by rw[e];exact h.g k a b,λt k b a b=>?_,λk a b=>by rw[e];exact h.q.2 k a b⟩;rw[e];by_cases z:t=L.tl
 .rw[z,d];exact h.q.2 k a b
 .rw[c t ω];exact h.q.1 t k ω a b
structure mC(V:Ev0)(L:LS)(t:Nat):Prop where
 c:∃c:Nat,(L.tk t).c=c/\c<V.nc
 p:((L.tk t).p=0/\(L.tk t).f=-1)\/∃w k:Nat,(L.tk t).f=w/\w<L.wl/\(L.wt w).l=k/\k<V.nl/\(V.ly k).k=6/\(L.tk t).p=k+1
 o:(L.tk t).o=-1\/∃w k:Nat,(L.tk t).o=w/\w<L.wl/\(L.wt w).l=k/\k<V.nl
structure Lc(V:Ev0)(m:Nat)(L:LS)(μ ν:bU)(t k:Nat)(Q:Option Bk):Prop where
 kl:k<=V.nl
 pk:(L.tk t).p<=k
 a:∀j,(L.tk t).p<=j->j<k->Oy V L t j
 b:∀b,Q=some b->Sw m b
 μ:jo 0 3 V (L.tk t).p (L.tk t).a k Q<=μ t
 ν:jo 1 0 V (L.tk t).p (L.tk t).a k Q<=ν t
def Fwd(V:Ev0)(m:Nat)(L:LS)(μ ν:bU)(t w:Nat):Prop:=
 ((L.wt w).x=false/\(L.wt w).l=V.nl/\∃y ch,(L.wt w).b.ch=y::ch/\Lc V m L μ ν t V.nl (some ⟨(L.wt w).b.k,(L.wt w).b.n,ch⟩))\/
 ∃k:Nat,k<V.nl/\(L.wt w).l=k/\Lc V m L μ ν t k (some (c9 5 k 0))/\(((V.ly k).k=1/\((L.wt w).x=true->(L.wt w).z=3)/\Lc V m L μ ν t (k+1) none)\/((V.ly k).k=5/\Lc V m L μ ν t (k+1) none)\/((V.ly k).k=6/\((L.wt w).x=true->(L.wt w).z=2->Sw m (L.wt w).b)))
def Si(V:Ev0)(m:Nat)(L:LS)(μ ν:bU)(t:Nat)(e:qy):Prop:=
 (e.c=0/\Lc V m L μ ν t (L.tk t).p none)\/∃w:Nat,e.w=w/\w<L.wl/\(L.wt w).t=t/\(L.wt w).e=false/\((e.c=1/\(L.wt w).x=false)\/((e.c=2\/e.c=3)/\(L.wt w).x=true/\(L.wt w).z=e.c))/\Fwd V m L μ ν t w
structure uW(V:Ev0)(m:Nat)(L:LS)(X:Int)(μ ν:bU)(E:Nat->Option Nat)(cur:oQ):Prop where
 nc:V.nc<=L.tl
 tl:L.tl+wG ν L.tl<9990
 el:L.el+3*m<1000000
 wl:L.wl+m<1000000
 al:L.al+W6 L+3*m<1000000
 now:0<=L.now/\L.now<=X
 x:X+10000*m<1000000000000
 tk:∀t:Nat,t<L.tl->mC V L t
 fi:∀t u:Nat,t<L.tl->u<L.tl->0<(L.tk t).p->(L.tk t).f=(L.tk u).f->t=u
 tf:∀t:Nat,t<L.tl->(E t≠none\/cur=some t)->∀w:Nat,(L.tk t).f=w->(L.wt w).x=true->(L.wt w).z=3
 us:∀c:Nat,c<V.nc->0<=L.us c/\L.us c+m<1000000
 ta:∀i,i<L.al->(L.ag i).o=false->0<=(L.ag i).a/\(L.ag i).a<=X
 pd:∀i,i<L.al->(L.ag i).o=false->∃t:Nat,t<L.tl/\(L.ag i).t=t/\(E t=some i\/((L.ag i).c=1/\∃w:Nat,(L.ag i).w=w/\w<L.wl/\((L.wt w).x=true\/(L.wt w).e=true)))
 lv:∀t i,t<L.tl->E t=some i->i<L.al/\(L.ag i).o=false/\(L.ag i).t=t/\Si V m L μ ν t (L.ag i)
 wa:∀w,w<L.wl->(L.wt w).x=false->(L.wt w).e=false->∃t i:Nat,t<L.tl/\(L.wt w).t=t/\E t=some i/\(L.ag i).c=1/\(L.ag i).w=w
 cu:∀t,cur=some t->t<L.tl/\E t=none
 en:∀t,t<L.tl->E t=none->cur≠some t->(L.tk t).e=true
 sm:wG μ L.tl+opn L+W6 L<=m
 gt:fq V L X m
def Lc.mv{g:Nat}{L L':LS}{c a:bU}{Q:Option Bk}(h:Lc V m L μ ν t k Q)(d:g<=m)(i:(L'.tk t).a=(L.tk t).a)(f:(L'.tk t).p=(L.tk t).p)(e:c t=μ t)(d:a t=ν t):Lc V g L' c a t k Q:=
 ⟨h.kl,by rw[f];exact h.pk,λj a a=>by have:=h.a j ω a;unfold Oy at*;simp_all,λb a=>⟨by have:=(h.b b a).1;omega,(h.b b a).2⟩,by rw[i,f,e];exact h.μ,by rw[i,f,d];exact h.ν⟩
def Si.mv{V:Ev0}{m l:Nat}{L L':LS}{μ ν f d:bU}{u:Nat}{e:qy}(h:Si V m L μ ν u e)(j:(L'.tk u).a=(L.tk u).a)(c:(L'.tk u).p=(L.tk u).p)(a:L.wl<=L'.wl)(a:∀w,w<L.wl->(L.wt w).t=u->(L.wt w).e=false->L'.wt w=L.wt w\/∃i,L'.wt w={L.wt w with i:=i})(g:l<=m)(b:f u=μ u)(a:d u=ν u):Si V l L' f d u e:=by
 rcases h with ⟨d,e⟩|⟨w,d,e,f,f,f,l⟩
 .exact .inl ⟨d,by rw[c];exact e.mv g j c b a⟩
 .have q:(L'.wt w).t=(L.wt w).t/\(L'.wt w).e=(L.wt w).e/\(L'.wt w).x=(L.wt w).x/\(L'.wt w).z=(L.wt w).z/\(L'.wt w).l=(L.wt w).l/\(L'.wt w).b=(L.wt w).b:=by
   grind
  let⟨_,_,i,h,f,e⟩:=q;refine .inr ⟨w,d,ω,ω,ξ,ξ,?_⟩;unfold Fwd;rw[i,h,f,e];rcases l with ⟨h,f,y,ch,e,d⟩|⟨k,h,f,e,d⟩
  .exact .inl ⟨h,f,y,ch,e,d.mv g j c b a⟩
  .refine .inr ⟨k,h,f,e.mv g j c b a,?_⟩;rcases d with ⟨e,d,f⟩|⟨e,d⟩|⟨e,d⟩
   .exact .inl ⟨e,d,f.mv g j c b a⟩
   .exact .inr (.inl ⟨e,d.mv g j c b a⟩)
   .exact .inr (.inr ⟨e,λb a=>⟨by have:=(d b a).1;omega,(d b a).2⟩⟩)
def uW.Ua{L:LS}{cur:oQ}(h:uW V m L X μ ν E cur)(a:t<L.tl)(d:E t≠none\/cur=some t):qm V t L where
 tl:=by have:=h.tl;omega
 nc:=h.nc
 tn:=a
 el:=by have:=h.el;omega
 wl:=by have:=h.wl;omega
 al:=by have:=h.al;omega
 now:=by have:=h.now;have:=h.x;omega
 us:=λc d=>by have:=h.us c d;omega
 gt:=λk b c=>((h.gt.g k b c).x (by have:=h.x;omega)).less ω
 q:=λk b c e=>by have:=(h.gt.q.1 t k a b c).2 e;omega
 tf:=h.tf t a d
def LS.I3(L:LS)(w:Nat)(z:Int)(b:Bk):(L.fix w z b).tl=L.tl/\(L.fix w z b).tk=L.tk/\(L.fix w z b).wl=L.wl/\(L.fix w z b).al=L.al+1/\(L.fix w z b).wt w={L.wt w with x:=true,z:=z,b:=b}/\(∀j,j≠w->(L.fix w z b).wt j=L.wt j)/\(∀j,j≠L.al->(L.fix w z b).ag j=L.ag j)/\(L.fix w z b).ag L.al=⟨L.now,(L.wt w).t,w,z,false⟩:=
 ⟨rfl,rfl,rfl,rfl,by simp[LS.fix,LS.put,upd],λj a=>by simp[LS.fix,LS.put,upd,a],λj a=>by simp[LS.fix,LS.put,upd,a],by simp[LS.fix,LS.put,upd]⟩
def uW.fix{V:Ev0}{m:Nat}{L:LS}{X:Int}{μ ν:bU}{E:Nat->Option Nat}{cur:oQ}{w k:Nat}{z:Int}{b:Bk}(h:uW V m L X μ ν E cur)(H:w<L.wl)(O:k<V.nl)(O:(L.wt w).l=k)(M:(L.wt w).x=false)(I:(L.wt w).e=false)(O:z=3\/z=2/\((V.ly k).k=5\/(V.ly k).k=6/\Sw m b))(O:z=2->∀u,u<L.tl->(E u≠none\/cur=some u)->(L.tk u).f≠(w:Int)):
 ∃O,uW V m (L.fix w z b) X μ ν O cur/\∀u,O u=none↔E u=none:=by
 let⟨u,i,N,J,G,_,m⟩:=h.wa w H M I;have m:∀t,cur=some t->u≠t:=λt y e=>by subst e;rw[(h.cu u y).2]at G;cases G
 let⟨_,_,m,Q⟩:=h.lv u i N G;let⟨_,_,_,i,f,g,l,n⟩:=L.I3 w z b;let⟨_,i⟩:=KR (z:=z) (b:=b) H M I;have s:∀j,((L.fix w z b).wt j).l=(L.wt j).l/\((L.fix w z b).wt j).t=(L.wt j).t/\((L.fix w z b).wt j).e=(L.wt j).e:=λj=>by
  grind
 have F:∀v,upd E u (some L.al) v=none↔E v=none:=λv=>by
  by_cases e:v=u
  .subst e;simp[upd,G]
  .simp[upd,e]
 have st:∀D:Nat,((L.wt D).x=true\/(L.wt D).e=true)->(((L.fix w z b).wt D).x=true\/((L.fix w z b).wt D).e=true):=λD q=>by
  grind
 refine⟨upd E u (some L.al),{nc:=h.nc,tl:=h.tl,el:=h.el,wl:=h.wl,al:=by have:=h.al;omega,now:=h.now,x:=h.x,tk:=λt y=>?_,fi:=h.fi,tf:=λt y m D x a=>?_,us:=h.us,ta:=λj d A=>?_,pd:=λj d A=>?_,lv:=λv j p d=>?_,wa:=λj d a B=>?_,cu:=λv p=>?_,en:=λv p i b=>h.en v p ((F v).1 i) b,sm:=by have:=h.sm;grind,gt:=⟨h.gt.1,h.gt.2.1,h.gt.2.2⟩},F⟩
 .have T:=h.tk t y;refine⟨T.c,?_,?_⟩
  .refine T.p.imp id ?_;simp_all
  .refine T.o.imp id ?_;simp_all
 .have b:E t≠none\/cur=some t:=m.imp_left λq e=>q ((F t).2 e);by_cases e:D=w
  .grind
  .rw[g D e]at a ⊢;exact h.tf t y b D x a
 .by_cases e:j=L.al
  .rw[e,n];exact h.now
  .rw[l j e]at A ⊢;exact h.ta j ω A
 .by_cases e:j=L.al
  .rw[e,n];exact⟨u,N,J,.inl (sJ rfl)⟩
  .rw[l j e]at A ⊢;let⟨v,o,r,c⟩:=h.pd j ω A;refine⟨v,o,r,?_⟩;rcases c with c|⟨c,D,C,R,b⟩
   .by_cases b:v=u
    .grind
    .exact .inl (by simp only[upd,af b];exact c)
   grind
 .by_cases e:v=u
  .subst e;simp only[upd,if_true]at d;cases d;rw[n];refine⟨ω,rfl,J,.inr ⟨w,rfl,H,?_⟩⟩;rw[(s w).2.1,(s w).2.2];refine⟨J,I,.inr ⟨χ,by rw[f],by rw[f]⟩,?_⟩;rcases Q with ⟨q,_⟩|⟨D,b,b,b,b,b,P⟩
   .omega
   .have:D=w:=ω
    subst this;rcases P with ⟨_,q,_⟩|⟨K,o,r,c,C⟩
    .omega
    .have:K=k:=ω
     subst this;refine .inr ⟨K,o,ξ,c.mv (az _) rfl rfl rfl rfl,?_⟩;rw[f];rcases C with ⟨b,f,i⟩|⟨b,f⟩|⟨b,f⟩
     .exact .inl ⟨b,λ_=>ξ,i.mv (az _) rfl rfl rfl rfl⟩
     .exact .inr (.inl ⟨b,f.mv (az _) rfl rfl rfl rfl⟩)
     grind
  .simp only[upd,af e]at d;let⟨o,r,c,C⟩:=h.lv v j p d;rw[l j ω];exact⟨ω,r,c,C.mv rfl rfl (az _) (λD _ x _=>.inl (g D χ)) (az _) rfl rfl⟩
 .have e:j≠w:=χ
  rw[g j e]at a B ⊢;let⟨v,b,o,r,c,C,R⟩:=h.wa j d a B;have e:v≠u:=χ
  have f:=(h.lv v b o c).1;exact⟨v,b,o,r,by simp only[upd,af e];exact c,χ,χ⟩
 .exact⟨(h.cu v p).1,(F v).2 (h.cu v p).2⟩
structure Cy(L L':LS):Prop where
 b:L'.tl=L.tl/\L'.el=L.el/\L'.wl=L.wl/\L'.al=L.al/\L'.now=L.now/\L'.us=L.us/\L'.ag=L.ag/\L'.wt=L.wt/\L'.gt=L.gt
 tk:∀t,(L'.tk t).c=(L.tk t).c/\(L'.tk t).f=(L.tk t).f/\(L'.tk t).p=(L.tk t).p/\(L'.tk t).o=(L.tk t).o/\(L'.tk t).a=(L.tk t).a/\(L'.tk t).q=(L.tk t).q
 e:∀t,(L.tk t).e=true->(L'.tk t).e=true
def mC.mv{L L':LS}(h:mC V L t)(e:(L'.tk t).c=(L.tk t).c/\(L'.tk t).f=(L.tk t).f/\(L'.tk t).p=(L.tk t).p/\(L'.tk t).o=(L.tk t).o)(a:L.wl<=L'.wl)(a:∀w,w<L.wl->(L'.wt w).l=(L.wt w).l):mC V L' t:=by
 let⟨d,c,b,a⟩:=e;refine⟨by rw[d];exact h.c,?_,?_⟩
 .rw[c,b];refine h.p.imp id ?_;grind
 .rw[a];refine h.o.imp id ?_;grind
def uW.irr{L L':LS}{cur:oQ}(h:uW V m L X μ ν E cur)(O:Cy L L'):uW V m L' X μ ν E cur:=by
 let⟨b,m,f,e,c,l,d,a,g⟩:=O.b;have j:W6 L'=W6 L:=by unfold W6;rw[f,a]
 have n:opn L'=opn L:=by unfold opn;rw[e,d]
 refine{nc:=by rw[b];exact h.nc,tl:=by rw[b];exact h.tl,el:=by rw[m];exact h.el,wl:=by rw[f];exact h.wl,al:=by rw[e,j];exact h.al,now:=by rw[c];exact h.now,x:=h.x,tk:=λt c=>(h.tk t ω).mv ⟨(O.tk t).1,(O.tk t).2.1,(O.tk t).2.2.1,(O.tk t).2.2.2.1⟩ ω (λw _=>by rw[a]),fi:=λt u c m=>?_,tf:=λt c=>?_,us:=by rw[l];exact h.us,ta:=by rw[e,d];exact h.ta,pd:=by rw[b,f,e,d,a];exact h.pd,lv:=λt i c m=>?_,wa:=by rw[b,f,d,a];exact h.wa,cu:=by rw[b];exact h.cu,en:=λt c l f=>O.e t (h.en t ω l f),sm:=by rw[b,n,j];exact h.sm,gt:=⟨by rw[g];exact h.gt.1,λt k c b c=>by rw[g,(O.tk t).2.2.2.2.2];exact h.gt.2.1 t k ω b c,by rw[g];exact h.gt.2.2⟩}
 .rw[(O.tk t).2.1,(O.tk u).2.1,(O.tk t).2.2.1];exact h.fi t u ω ω
 .rw[(O.tk t).2.1,a];exact h.tf t ω
 .let⟨g,f,c,b⟩:=h.lv t i ω m;rw[e,d];exact⟨g,f,c,b.mv (O.tk t).2.2.2.2.1 (O.tk t).2.2.1 ω (λw _ _ _=>.inl (by rw[a])) (az _) rfl rfl⟩
def Cy.bY{L:LS}:Cy L L:=⟨τ,λ_=>τ,λ_ h=>h⟩
def Cy.iC{L:LS}(j:Nat):Cy L (L.iC j):=by
 unfold LS.iC;split
 .exact Cy.bY
 .refine⟨τ,λt=>?_,λt h=>?_⟩
  .by_cases e:t=j
   .subst e;simp[upd]
   .simp[upd,e]
  .by_cases e:t=j
   .simp_all
   .simpa [upd,e]using h
def Cy.done{L:LS}(j:Nat):Cy L (L.done j):=by
 refine⟨τ,λt=>?_,λt h=>?_⟩
 .by_cases e:t=j
  .subst e;simp[LS.done,upd]
  .simp[LS.done,upd,e]
 .by_cases e:t=j
  .subst e;simp[LS.done,upd]
  .simpa [LS.done,upd,e]using h
def uW.Aj{V:Ev0}{m:Nat}{X:Int}{μ ν:bU}{E:Nat->Option Nat}{cur:oQ}:∀(a:aN)(L:LS),uW V m L X μ ν E cur->uW V m (a.foldl LS.iC L) X μ ν E cur/\(a.foldl LS.iC L).tl=L.tl
 |[],L,h=>⟨h,rfl⟩
 |j::a,L,h=>by
  have:=uW.Aj a (L.iC j) (h.irr (Cy.iC j));exact⟨this.1,this.2.trans (Cy.iC j).b.1⟩
def uW.jv{V:Ev0}{m:Nat}{L:LS}{X:Int}{μ ν:bU}{E:Nat->Option Nat}{cur:oQ}{j:Nat}(h:uW V m L X μ ν E cur)(c:j<L.tl):∃a,uW V m (L.jv j) X μ ν a cur/\(∀u,a u=none↔E u=none)/\(L.jv j).tl=L.tl:=by
 unfold LS.jv;split
 .grind
 .rename_i n;rcases(h.tk j c).o with z|⟨w,k,l,i,g,f⟩
  .omega
  .rw[l,mY];unfold LS.qA;split
   .rename_i b;let⟨a,e,d⟩:=h.fix (z:=3) (b:=⟨0,0,[]⟩) i f g b.1 b.2 (.inl rfl) (λz=>ω);exact⟨a,e,d,rfl⟩
   grind
def uW.AG{V:Ev0}{m:Nat}{X:Int}{μ ν:bU}{cur:oQ}:∀(a:aN)(L:LS)(E:Nat->Option Nat),(∀j∈a,j<L.tl)->uW V m L X μ ν E cur->∃b,uW V m (a.foldl LS.jv L) X μ ν b cur/\(∀u,b u=none↔E u=none)/\(a.foldl LS.jv L).tl=L.tl
 |[],L,E,_,h=>⟨E,h,λ_=>Iff.rfl,rfl⟩
 |j::a,L,E,c,h=>by
  let⟨d,b,_,e⟩:=h.jv (c j (bI ..));let⟨_,_,_,c⟩:=uW.AG a (L.jv j) d (λi a=>ξ) b;grind
def uW.cancel{V:Ev0}{m:Nat}{L:LS}{X:Int}{μ ν:bU}{E:Nat->Option Nat}{cur:oQ}(h:uW V m L X μ ν E cur){oL:aN}(a:∀j∈oL,j<L.tl):∃a,uW V m (L.cancel oL) X μ ν a cur/\(∀u,a u=none↔E u=none)/\(L.cancel oL).tl=L.tl:=by
 let⟨f,e⟩:=uW.Aj oL L h;let⟨a,d,c,b⟩:=uW.AG oL _ E (λj g=>ξ) f;exact⟨a,d,c,b.trans e⟩
structure Sm(V:Ev0)(t:Nat)(L L':LS):Prop where
 b:L'.tl=L.tl/\L'.wl=L.wl/\L'.al=L.al/\L'.now=L.now/\L'.ag=L.ag/\L'.wt=L.wt
 el:L'.el<=L.el+3
 tk:∀j,(L'.tk j).c=(L.tk j).c/\(L'.tk j).f=(L.tk j).f/\(L'.tk j).p=(L.tk j).p/\(L'.tk j).o=(L.tk j).o
 ot:∀j,j≠t->(L'.tk j).a=(L.tk j).a
 us:∀c,L.us c<=L'.us c/\L'.us c<=L.us c+1
 gt:∀(X:Int)(m:Nat),(0<=L.now/\L.now<=X)->fq V L X (m+1)->fq V L' X m
 e:∀j,(L'.tk j).e=(L.tk j).e
section
variable{L L':LS}
def uW.mv{v n:Nat}{cur:oQ}(h:uW V (m+1) L X μ ν E (some t))(O:Sm V t L L')(g:v<μ t)(g:n<=ν t)(j:cur=some t\/cur=none/\(L.tk t).e=true):uW V m L' X (upd μ t v) (upd ν t n) E cur:=by
 let⟨l,k,f,r,d,a⟩:=O.b;let⟨b,g⟩:=h.cu t rfl;have g:W6 L'=W6 L:=by unfold W6;rw[k,a]
 have s:opn L'=opn L:=by unfold opn;rw[f,d]
 have p:=l5 μ t v L.tl;have o:=l5 ν t n L.tl;simp only[b,if_true]at p o;have b:=h.sm;have b:=h.tl;refine{nc:=by rw[l];exact h.nc,tl:=χ,el:=by have:=O.el;have:=h.el;omega,wl:=by have:=h.wl;omega,al:=by rw[f,g];have:=h.al;omega,now:=by rw[r];exact h.now,x:=by have:=h.x;omega,tk:=λu b=>(h.tk u ω).mv (O.tk u) ω (λw _=>by rw[a]),fi:=λu n b g=>?_,tf:=λu b g=>?_,us:=λc j=>by have:=h.us c j;have:=O.us c;omega,ta:=by rw[f,d];exact h.ta,pd:=by rw[l,k,f,d,a];exact h.pd,lv:=λu i b c=>?_,wa:=by rw[l,k,d,a];exact h.wa,cu:=λu b=>?_,en:=λu b b k=>?_,sm:=χ,gt:=O.gt X m h.now h.gt}
 .rw[(O.tk u).2.1,(O.tk n).2.1,(O.tk u).2.2.1];exact h.fi u n ω ω
 .rw[(O.tk u).2.1,a];refine h.tf u ω (g.imp_right λz=>?_);simp_all
 .let⟨m,l,k,g⟩:=h.lv u i ω c;have e:u≠t:=χ
  rw[f,d];exact⟨m,l,k,g.mv (O.ot u e) (O.tk u).2.2.1 ω (λw _ _ _=>.inl (by rw[a])) ω (af e) (af e)⟩
 .simp_all
 .rw[O.e u];rcases j with e|⟨e,z⟩
  .exact h.en u ω b ξ
  .by_cases a:u=t
   .simp_all
   .exact h.en u ω b (λq=>a (Option.some.inj q).symm)
structure Pk(V:Ev0)(t:Nat)(L L':LS)(a l:Int)(b:Bk):Prop where
 b:L'.tl=L.tl/\L'.wl=L.wl+1/\L'.al=L.al+1/\L'.now=L.now/\L'.ag=upd L.ag L.al ⟨a,t,L.wl,1,false⟩/\L'.wt=upd L.wt L.wl ⟨t,l,false,false,b,0,0⟩
 el:L'.el<=L.el+3
 tk:∀j,(L'.tk j).c=(L.tk j).c/\(L'.tk j).f=(L.tk j).f/\(L'.tk j).p=(L.tk j).p
 ot:∀j,j≠t->(L'.tk j).a=(L.tk j).a/\(L'.tk j).o=(L.tk j).o
 o:(L'.tk t).o=(L.tk t).o\/((L'.tk t).o=L.wl/\∃k:Nat,l=k/\k<V.nl)
 us:∀c,L.us c<=L'.us c/\L'.us c<=L.us c+1
 gt:∀(X:Int)(m:Nat),(0<=L.now/\L.now<=X)->fq V L X (m+1)->fq V L' X m
 e:∀j,(L'.tk j).e=(L.tk j).e
def uW.pk{a l:Int}(h:uW V (m+1) L X μ ν E (some t))(O:Pk V t L L' a l b)(ha:0<=a/\a<=X+10000)(hv:v+3<=μ t)(hn:n<=ν t)(U:Fwd V m L' (upd μ t v) (upd ν t n) t L.wl):uW V m L' (X+10000) (upd μ t v) (upd ν t n) (upd E t (some L.al)) none:=by
 let⟨b1,b3,M,Z,K,J⟩:=O.b;let⟨S,E⟩:=h.cu t rfl;have j:∀w,w<L.wl->L'.wt w=L.wt w:=λw o=>by rw[J];simp[upd,iS o]
 have d:L'.wt L.wl=⟨t,l,false,false,b,0,0⟩:=by rw[J];simp[upd]
 have r:∀i,i<L.al->L'.ag i=L.ag i:=λi g=>by rw[K];simp[upd,iS g]
 have f:L'.ag L.al=⟨a,t,L.wl,1,false⟩:=by rw[K];simp[upd]
 have b:W6 L'=W6 L+1:=by
  unfold W6;rw[b3];simp only[wG];rw[oM (g:=λi=>if(L.wt i).x=false/\(L.wt i).e=false then 1 else 0) L.wl λi g=>ξ,d];simp
 have a:opn L'=opn L+1:=by
  unfold opn;rw[M];simp only[wG];rw[oM (g:=λi=>if(L.ag i).o=true then 0 else 1) L.al λi g=>ξ,f];simp
 have R:=l5 μ t v L.tl;have Q:=l5 ν t n L.tl;simp only[S,if_true]at R Q;have a:=h.sm;have a:=h.tl;refine{nc:=by rw[b1];exact h.nc,tl:=χ,el:=by have:=O.el;have:=h.el;omega,wl:=by have:=h.wl;omega,al:=by rw[M,b];have:=h.al;omega,now:=by rw[Z];have:=h.now;omega,x:=by have:=h.x;omega,tk:=λu s=>?_,fi:=λu F s a=>?_,tf:=λu s B w o y=>?_,us:=λc a=>by have:=h.us c a;have:=O.us c;omega,ta:=λi g A=>?_,pd:=λi g A=>?_,lv:=λu i s g=>?_,wa:=λw o y H=>?_,cu:=nofun,en:=λu s G _=>?_,sm:=χ,gt:=(O.gt X m h.now h.gt).x ω}
 .have T:=h.tk u ω;let⟨c,b,a⟩:=O.tk u;refine⟨by rw[c];exact T.c,?_,?_⟩
  .rw[b,a];refine T.p.imp id ?_;grind
  .have old:(L'.tk u).o=(L.tk u).o->(L'.tk u).o=-1\/∃w k:Nat,(L'.tk u).o=w/\w<L'.wl/\(L'.wt w).l=k/\k<V.nl:=λe=>by
    rw[e];refine T.o.imp id ?_;grind
   by_cases e:u=t
   .subst e;rcases O.o with z|⟨z,k,a,a⟩
    .exact old z
    grind
   .exact old (O.ot u e).2
 .rw[(O.tk u).2.1,(O.tk F).2.1,(O.tk u).2.2];exact h.fi u F ω ω
 .rw[(O.tk u).2.1]at o;have a:w<L.wl:=by
   rcases(h.tk u ω).p with ⟨_,z⟩|⟨D,k,P,N,_⟩<;>omega
  rw[j w a]at y ⊢;refine h.tf u ω ?_ w o y;by_cases e:u=t
  .simp_all
  .rcases B with z|z
   .exact .inl (by simpa [upd,e]using z)
   .cases z
 .by_cases e:i=L.al
  .simp_all
  .rw[r i ω]at A ⊢;have:=h.ta i ω A;omega
 .by_cases e:i=L.al
  .rw[e,f];exact⟨t,ω,rfl,.inl (by simp[upd])⟩
  .rw[r i ω]at A ⊢;let⟨u,I,C,p⟩:=h.pd i ω A;refine⟨u,ω,C,?_⟩;rcases p with p|⟨p,w,Y,W,a⟩
   .have x:u≠t:=χ
    exact .inl (by simp only[upd,af x];exact p)
   grind
 .by_cases e:u=t
  .subst e;simp only[upd,if_true]at g;cases g;rw[f];exact⟨ω,rfl,rfl,.inr ⟨L.wl,rfl,ω,by rw[d],by rw[d],.inl ⟨rfl,by rw[d]⟩,U⟩⟩
  .simp only[upd,af e]at g;let⟨P,N,b,a⟩:=h.lv u i ω g;rw[r i P];exact⟨ω,N,b,a.mv (O.ot u e).1 (O.tk u).2.2 ω (λw o _ _=>.inl (j w o)) ω (af e) (af e)⟩
 .by_cases e:w=L.wl
  .subst e;rw[d];exact⟨t,L.al,ω,rfl,by simp[upd],by rw[f],by rw[f]⟩
  .rw[j w ω]at y H ⊢;let⟨u,i,I,C,p,Y,W⟩:=h.wa w ω y H;have x:u≠t:=χ
   have a:=(h.lv u i I p).1;exact⟨u,i,ω,C,by simp only[upd,af x];exact p,ξ,ξ⟩
 .have x:u≠t:=by rintro rfl;simp[upd]at G
  rw[O.e u];exact h.en u ω (by simpa [upd,x]using G) (λq=>x (Option.some.inj q).symm)
def uW.nH{w:Nat}(h:uW V m L X μ ν E none)(P:t<L.tl)(R:k<V.nl)(T:(V.ly k).k=6)(O:w<L.wl)(O:(L.wt w).l=k)(O:(L.wt w).x=false)(O:∀u,u<L.tl->(L.tk u).f≠(w:Int))(O:L.tl+1+(wG ν L.tl+n)<9990)(O:L.al+1+W6 L+3*m<1000000)(O:wG μ L.tl+v+(opn L+1)+W6 L<=m)(N:jo 0 3 V (k+1) (λ_=>0) (k+1) none<=v)(Q:jo 1 0 V (k+1) (λ_=>0) (k+1) none<=n):
 uW V m (L.begin t w k) X (upd μ L.tl v) (upd ν L.tl n) (upd E L.tl (some L.al)) none:=by
 obtain⟨L',d⟩:∃L',L'=L.begin t w k:=⟨_,rfl⟩;have G:L'.tl=L.tl+1:=by rw[d];rfl
 have O:L'.wl=L.wl:=by rw[d];rfl
 have v:L'.al=L.al+1:=by rw[d];rfl
 have g:∀j,j<L.tl->L'.tk j=L.tk j:=λj m=>by rw[d];simp[LS.begin,LS.put,upd,iS m]
 have c:L'.tk L.tl=⟨(L.tk t).c,w,k+1,-1,false,false,-1,λ_=>0,λ_=>0⟩:=by rw[d];simp[LS.begin,LS.put,upd]
 have n:∀j,j≠w->L'.wt j=L.wt j:=λj m=>by rw[d];simp[LS.begin,LS.put,upd,m]
 have m:L'.wt w={L.wt w with i:=L.tl}:=by rw[d];simp[LS.begin,LS.put,upd]
 have f:∀j,(L'.wt j).l=(L.wt j).l/\(L'.wt j).t=(L.wt j).t/\(L'.wt j).e=(L.wt j).e/\(L'.wt j).x=(L.wt j).x/\(L'.wt j).z=(L.wt j).z:=λj=>by
  grind
 have s:∀i,i<L.al->L'.ag i=L.ag i:=λi p=>by rw[d];simp[LS.begin,LS.put,upd,iS p]
 have q:L'.ag L.al=⟨L.now,L.tl,0,0,false⟩:=by rw[d];simp[LS.begin,LS.put,upd]
 have U:W6 L'=W6 L:=by
  unfold W6;simp_all
 have W:opn L'=opn L+1:=by
  unfold opn;rw[v];simp only[wG];rw[oM (g:=λi=>if(L.ag i).o=true then 0 else 1) L.al λi p=>ξ,q];simp
 have K:∀u,u<L.tl->upd E L.tl (some L.al) u=E u:=λu o=>by simp[upd,iS o]
 rw[<-d];refine{nc:=by have:=h.nc;omega,tl:=by rw[G,JR];omega,el:=by rw[d];exact h.el,wl:=by rw[O];exact h.wl,al:=ω,now:=by rw[d];exact h.now,x:=h.x,tk:=λu o=>?_,fi:=λu A o a H e=>?_,tf:=λu o C D r l=>?_,us:=by rw[d];exact h.us,ta:=λi p x=>?_,pd:=λi p x=>?_,lv:=λu i o p=>?_,wa:=λD r l y=>?_,cu:=nofun,en:=λu o B M=>?_,sm:=by rw[G,JR,W,U];omega,gt:=h.gt.new (by rw[d];rfl) G (λu o=>ξ) (by rw[c])}
 .by_cases e:u=L.tl
  .subst e;refine⟨by rw[c];exact(h.tk t P).c,.inr ⟨w,k,by rw[c],ω,ξ,R,T,by rw[c]⟩,.inl (by rw[c])⟩
  .have a:u<L.tl:=ω
   exact(h.tk u a).mv ξ ω (λj _=>(f j).1)
 .by_cases d:u=L.tl
  .grind
  .by_cases Y:A=L.tl
   .grind
   .rw[g u ω,g A ω]at e;rw[g u ω]at H;exact h.fi u A ω ω H e
 .rw[(f D).2.2.2.1]at l;rw[(f D).2.2.2.2];by_cases e:u=L.tl
  .grind
  .have a:u<L.tl:=ω
   rw[g u a]at r;refine h.tf u a (C.imp_left λz=>?_) D r l;simp_all
 .by_cases e:i=L.al
  .rw[e,q];exact h.now
  .rw[s i ω]at x ⊢;exact h.ta i ω x
 .by_cases e:i=L.al
  .rw[e,q];exact⟨L.tl,ω,rfl,.inl (by simp[upd])⟩
  .rw[s i ω]at x ⊢;let⟨u,F,J,I⟩:=h.pd i ω x;grind
 .by_cases e:u=L.tl
  .subst e;simp only[upd,if_true]at p;cases p;rw[q];refine⟨ω,rfl,rfl,.inl ⟨rfl,?_⟩⟩;rw[c];exact⟨χ,ξ,λj F J=>χ,nofun,(by rw[c];simpa [upd]using N),(by rw[c];simpa [upd]using Q)⟩
  .have a:u<L.tl:=ω
   rw[K u a]at p;let⟨k,d,c,b⟩:=h.lv u i a p;rw[s i k];exact⟨ω,d,c,b.mv ξ ξ ω (λj _ _ _=>by
    grind) (az _) (af e) (af e)⟩
 .rw[(f D).2.2.2.1]at l;rw[(f D).2.2.1]at y;let⟨u,i,F,J,I,_,b⟩:=h.wa D ω l y;have Y:=(h.lv u i F I).1;grind
 .have b:u≠L.tl:=by rintro rfl;simp[upd]at B
  have a:u<L.tl:=ω
  rw[K u a]at B;rw[g u a];exact h.en u a B M
end
def x9{f g:bU}:∀n,(∀i,i<n->f i<=g i)->wG f n<=wG g n
 |0,_=>az _
 |n+1,h=>by simp only[wG];have:=x9 n λi a=>h i ω;grind
section
variable{L L':LS}
structure Pp(V:Ev0)(i:Nat)(L L':LS):Prop where
 b:L'.tl=L.tl/\L'.wl=L.wl/\L'.al=L.al/\L'.now=(L.ag i).a/\L'.ag=upd L.ag i {L.ag i with o:=true}
 el:L'.el<=L.el+3
 tk:∀j,(L'.tk j).c=(L.tk j).c/\(L'.tk j).f=(L.tk j).f/\(L'.tk j).p=(L.tk j).p/\(L'.tk j).o=(L.tk j).o
 ta:∀j,(L'.tk j).a=(L.tk j).a
 us:L'.us=L.us
 gt:∀(X:Int)(m:Nat),fq V L X (m+1)->fq V L' X m
 e:∀j,(L'.tk j).e=(L.tk j).e
def uW.pop{v n:Nat}(h:uW V (m+1) L X μ ν E none)(F:t<L.tl)(H:E t=some i)(O:Pp V i L L')(f:(L'.wt=L.wt/\(L.ag i).c=0)\/∃w:Nat,(L.ag i).w=w/\L'.wt=upd L.wt w {L.wt w with e:=true}/\(L.wt w).t=t)(Y:v<=μ t)(s:n<=ν t):uW V m L' X (upd μ t v) (upd ν t n) (upd E t none) (some t):=by
 let⟨C,B,_,E⟩:=h.lv t i F H;let⟨U,K,J,T,y⟩:=O.b;have wn:∀w,w<L.wl->(L.wt w).t≠t->L'.wt w=L.wt w:=λw _ d=>by
  rcases f with ⟨z,_⟩|⟨D,_,z,E⟩
  .rw[z]
  .rw[z];simp only[upd];grind
 have r:∀w,(L'.wt w).x=(L.wt w).x/\((L.wt w).e=true->(L'.wt w).e=true)/\(L'.wt w).t=(L.wt w).t/\(L'.wt w).l=(L.wt w).l/\(L'.wt w).z=(L.wt w).z:=λw=>by
  rcases f with ⟨z,_⟩|⟨D,_,z,_⟩
  .simp_all
  .rw[z];simp only[upd];grind
 have k:∀j,j≠i->L'.ag j=L.ag j:=λj a=>by rw[y];simp[upd,a]
 have p:∀j,(L'.ag j).o=false->j≠i:=λj a e=>by subst e;rw[y]at a;simp[upd]at a
 have E:W6 L'<=W6 L:=by
  unfold W6;rw[K];refine x9 _ λw _=>?_;grind
 have E:opn L'+1=opn L:=by
  have:opn L'=opn (L.pop i):=by unfold opn;rw[J,y];rfl
  rw[this];exact vI C B
 have Q:=l5 μ t v L.tl;have P:=l5 ν t n L.tl;simp only[F,if_true]at Q P;have n:=h.sm;have n:=h.tl;refine{nc:=by rw[U];exact h.nc,tl:=χ,el:=by have:=O.el;have:=h.el;omega,wl:=by have:=h.wl;omega,al:=by rw[J];have:=h.al;omega,now:=by rw[T];exact h.ta i C B,x:=by have:=h.x;omega,tk:=λu l=>(h.tk u ω).mv (O.tk u) ω (λw _=>(r w).2.2.2.1),fi:=λu v l n=>?_,tf:=λu l n w d o=>?_,us:=λc y=>by rw[O.us];have:=h.us c y;omega,ta:=λj a g=>?_,pd:=λj a g=>?_,lv:=λu j l a=>?_,wa:=λw d o G=>?_,cu:=λu l=>?_,en:=λu l S R=>?_,sm:=χ,gt:=O.gt X m h.gt}
 .rw[(O.tk u).2.1,(O.tk v).2.1,(O.tk u).2.2.1];exact h.fi u v ω ω
 .rw[(r w).2.2.2.2];rw[(r w).1]at o;rw[(O.tk u).2.1]at d;refine h.tf u ω (.inl ?_) w d o;rcases n with z|z
  .by_cases e:u=t
   .simp_all
   .simpa [upd,e]using z
  simp_all
 .have e:=p j g;rw[k j e]at g ⊢;exact h.ta j ω g
 .have e:=p j g;rw[k j e]at g ⊢;let⟨u,M,x,b⟩:=h.pd j ω g;refine⟨u,ω,x,?_⟩;rcases b with b|⟨b,w,A,W,c⟩
  .have s:u≠t:=χ
   exact .inl (by simp only[upd,af s];exact b)
  grind
 .by_cases e:u=t
  .subst e;simp[upd]at a
  .simp only[upd,af e]at a;let⟨M,x,b,A⟩:=h.lv u j ω a;have I:j≠i:=χ
   rw[k j I];exact⟨ω,x,b,A.mv (O.ta u) (O.tk u).2.2.1 ω (λw d z _=>.inl (wn w d ω)) ω (af e) (af e)⟩
 .rw[K]at d;rw[(r w).1]at o;have c:(L.wt w).e=false:=by
   grind
  let⟨u,j,M,x,b,A,W⟩:=h.wa w d o c;have s:u≠t:=by
   rintro rfl;rw[H]at b;cases b;rcases f with ⟨_,z⟩|⟨D,c,N,_⟩
   .omega
   .have:D=w:=ω
    subst this;rw[N]at G;simp[upd]at G
  have I:j≠i:=χ
  exact⟨u,j,ω,ξ,by simp only[upd,af s];exact b,ξ,ξ⟩
 .cases l;exact⟨ω,by simp[upd]⟩
 .have c:u≠t:=λq=>R (by rw[q]);rw[O.e u];exact h.en u ω (by simpa [upd,c]using S) nofun
def uW.off(h:uW V (m+1) L X μ ν E none)(q:i<L.al)(p:(L.ag i).o=false)(x:∀t,t<L.tl->E t≠some i):uW V m (L.pop i) X μ ν E none:=by
 have d:∀j,j≠i->(L.pop i).ag j=L.ag j:=λj a=>by simp[LS.pop,upd,a]
 have g:∀j,((L.pop i).ag j).o=false->j≠i:=λj a e=>by subst e;simp[LS.pop,upd]at a
 have t:=vI q p;have t:=h.al;refine{nc:=h.nc,tl:=h.tl,el:=by have:=h.el;show L.el+3*m<1000000;omega,wl:=by have:=h.wl;show L.wl+m<1000000;omega,al:=by show L.al+W6 L+3*m<1000000;omega,now:=h.ta i q p,x:=by have:=h.x;omega,tk:=λu f=>(h.tk u f).mv τ (az _) (λ_ _=>rfl),fi:=h.fi,tf:=h.tf,us:=λc p=>by have:=h.us c p;show 0<=L.us c/\L.us c+m<1000000;omega,ta:=λj a b=>?_,pd:=λj a b=>?_,lv:=λu j f a=>?_,wa:=λw v s y=>?_,cu:=nofun,en:=h.en,sm:=?_,gt:=⟨λk c p=>(h.gt.g k c p).less ω,h.gt.q⟩}
 .have e:=g j b;rw[d j e]at b ⊢;exact h.ta j a b
 .have e:=g j b;rw[d j e]at b ⊢;exact h.pd j a b
 .let⟨o,n,l,r⟩:=h.lv u j f a;have e:j≠i:=by rintro rfl;exact x u f a
  rw[d j e];exact⟨o,n,l,r.mv rfl rfl (az _) (λ_ _ _ _=>.inl rfl) ω rfl rfl⟩
 .let⟨u,j,o,n,l,r,c⟩:=h.wa w v s y;have e:j≠i:=χ
  exact⟨u,j,o,n,l,ξ,ξ⟩
 .have:=h.sm;show wG μ L.tl+opn (L.pop i)+W6 L<=m;omega
def Sm.id:Sm V t L L:=⟨τ,ω,λ_=>τ,λ_ _=>rfl,λ_=>ω,λ_ _ _ h=>h.less,λ_=>rfl⟩
def uW.end_{b:Bk}(h:uW V (m+1) L X μ ν E (some t))(d:0<μ t)(o:Sw m b):∃c a j,uW V m (L.end_ t b) X c a j none:=by
 let⟨f,p⟩:=h.cu t rfl;have n:((L.done t).tk t).e=true:=by simp[LS.done,upd]
 have r:=h.irr (Cy.done t);have i:=r.mv (v:=0) (n:=0) (cur:=none) Sm.id d (gl _) (.inr ⟨rfl,n⟩);unfold LS.end_;split
 .exact⟨_,_,_,i.irr ⟨τ,λ_=>τ,λ_ h=>h⟩⟩
 .rename_i B;rcases(h.tk t f).p with ⟨z,_⟩|⟨w,k,A,y,x,v,s,F⟩
  .omega
  .rw[A,mY];unfold LS.qA;split
   .rename_i g;let⟨j,q,_⟩:=i.fix (z:=2) (b:=b) y v x g.1 g.2 (.inr ⟨rfl,.inr ⟨s,o⟩⟩) (λ_ u l C e=>by
     have D:(L.tk u).f=(w:Int):=by rw[<-((Cy.done (L:=L) t).tk u).2.1];exact e
     have:=h.fi t u f l ω ω;simp_all)
    exact⟨_,_,_,q⟩
   grind
end
def eT(V:Ev0)(m t:Nat)(r:LS×Option (Nat×Option Bk)):Prop:=match r with
 |(L',none)=>∃X μ ν E,uW V m L' X μ ν E none
 |(L',some (k,Q))=>∃X μ ν E,uW V m L' X μ ν E (some t)/\Lc V m L' μ ν t k Q
section
variable{L L':LS}{Q:Option Bk}
def eT.go{c:Nat}{a:Option Bk}(h:uW V (m+1) L X μ ν E (some t))(O:Sm V t L L')(d:c<=V.nl)(f:(L.tk t).p<=c)(g:∀j,(L.tk t).p<=j->j<c->Oy V L' t j)(f:∀b,a=some b->Sw m b)(b:jo 0 3 V (L.tk t).p (L'.tk t).a c a+1<=μ t)(b:jo 1 0 V (L.tk t).p (L'.tk t).a c a<=ν t):eT V m t (L',some (c,a)):=by
 have e:=(O.tk t).2.2.1;refine⟨X,_,_,E,h.mv (v:=jo 0 3 V (L.tk t).p (L'.tk t).a c a) (n:=jo 1 0 V (L.tk t).p (L'.tk t).a c a) O ω b (.inl rfl),d,ω,λj a a=>g j ω a,f,?_,?_⟩
 .rw[e];simp[upd]
 .rw[e];simp[upd]
def Lc.as{L':LS}(C:Lc V (m+1) L μ ν t k Q)(a:(L'.tk t).a=(L.tk t).a){a:Nat}(b:a<=k):∀j,(L.tk t).p<=j->j<a->Oy V L' t j:=λj a b=>by
 have:=C.a j a ω;unfold Oy at*;simp_all
def Sm.of(h:L'.tk=L.tk)(b:L'.tl=L.tl/\L'.wl=L.wl/\L'.al=L.al/\L'.now=L.now/\L'.ag=L.ag/\L'.wt=L.wt)(el:L'.el<=L.el+3)(us:L'.us=L.us)(gt:∀(X:Int)(m:Nat),(0<=L.now/\L.now<=X)->fq V L X (m+1)->fq V L' X m):Sm V t L L':=
 ⟨b,el,λj=>ξ,λj _=>by rw[h],λc=>χ,gt,λj=>by rw[h]⟩
def Sm.say(q n:Int)(l:Int):Sm V t L (L.say t l q n):=Sm.of rfl τ (by simp[LS.say]) rfl λX m _ h=>h.same rfl rfl rfl
def Gl.sm(G:Gl V L L'):Sm V t L L':=Sm.of G.tk ⟨G.tl,G.wl,G.al,G.now,G.ag,G.wt⟩ (by have:=G.el;omega) G.us G.gt
def eT.E3(a:wM V)(h:uW V (m+1) L X μ ν E (some t))(C:Lc V (m+1) L μ ν t k none)(a:k<V.nl)(c:¬(V.ly k).k=1)(O:Sm V t L L')(f:(L'.tk t).a=(L.tk t).a):eT V m t (L',some (k+1,none)):=by
 have l:=yy (α:=0) (β:=3) (a:=(L.tk t).a) C.pk a c;have l:=yy (α:=1) (β:=0) (a:=(L.tk t).a) C.pk a c;have:=C.μ;have:=C.ν;refine eT.go h O ω (by have:=C.pk;omega) (λj i a g=>?_) nofun χ χ;by_cases e:j=k
 .simp_all
 .rw[f];exact C.a j i ω g
def eT.err(h:uW V (m+1) L X μ ν E (some t))(C:Lc V (m+1) L μ ν t k none)(O:Sm V t L L')(c:(L'.tk t).a=(L.tk t).a)(q:Int):eT V m t (L',some (k,some (c9 q k 0))):=by
 have d:=mw (α:=0) (β:=3) (V:=V) (p:=(L.tk t).p) (a:=(L.tk t).a) (k:=k) (b:=c9 q k 0);have d:=mw (α:=1) (β:=0) (V:=V) (p:=(L.tk t).p) (a:=(L.tk t).a) (k:=k) (b:=c9 q k 0);have:=C.μ;have:=C.ν;have d:=h.el;exact eT.go h O C.kl C.pk (C.as c (az _)) (λb a=>by cases a;exact⟨by simp[c9];omega,by simp[c9],.inr (.inl ⟨rfl,rfl,by simp[c9]⟩)⟩) χ χ
def Jw(d:wM V)(h:uW V (m+1) L X μ ν E (some t))(C:Lc V (m+1) L μ ν t k none)(a:k<V.nl)(g:(V.ly k).k=3):eT V m t (L.jg (V.ly k) t k):=by
 unfold LS.jg;split
 .exact eT.err h C (Sm.say _ _ _) rfl 3
 .rename_i f;refine eT.E3 d h C a ω ?_ rfl;refine Sm.of rfl τ (by simp[LS.say,LS.aO]) rfl λX m e c=>fq.set (k:=k) c (λb=>?_) (.inr τ);have q:=c.g k a b;have r:=Ik (d.ra k a g) e q.nx q.sm f;exact⟨r,nofun,q.st,by have:=q.pd;grind,q.si,by have:=q.pr;grind,by have:=q.tn;grind⟩
def Xk(g:wM V)(h:uW V (m+1) L X μ ν E (some t))(C:Lc V (m+1) L μ ν t k none)(a:k<V.nl)(b:(V.ly k).k=4):eT V m t (L.pass (V.ly k) t k):=by
 have f:=g.br k a b;have b:=F4 (V:=V) (L:=L) t a f.2.2.2.2;have c:=EZ t a f.2.2.2.2 b;unfold LS.pass;split
 .exact eT.err h C (Sm.say _ _ _) rfl 3
 .split
  .refine eT.err h C ?_ (by show((L.aM t k).tk t).a=_;rw[b.tk]) 3;have S:=b.sm (t:=t);exact⟨S.b,by have:=b.el;simp[LS.say];omega,S.tk,S.ot,S.us,S.gt,S.e⟩
  .refine eT.E3 g h C a ω ?_ ?_
   .have S:=c.sm (t:=t);refine⟨S.b,by have:=c.el;simp[LS.say,LS.mark];omega,λj=>?_,λj d=>?_,S.us,λX m i l=>?_,λj=>?_⟩
    .show(upd ((L.aM t k).cz k).tk t _ j).c=_/\_;by_cases e:j=t
     .subst e;have:=S.tk j;simpa [LS.say,LS.mark,upd]using this
     .have:=S.tk j;simpa [LS.say,LS.mark,upd,e]using this
    .have:=S.ot j d;simpa [LS.say,LS.mark,upd,d]using this
    .exact(S.gt X m i l).mark F3
    .have:=S.e j;by_cases e:j=t
     .subst e;simpa [LS.say,LS.mark,upd]using this
     .simpa [LS.say,LS.mark,upd,e]using this
   .show(upd ((L.aM t k).cz k).tk t _ t).a=_;have:=c.tk;simp[upd,this]
end
section
variable{L L':LS}{Q:Option Bk}
def Pk.wait(l d:Int)(a:Bool)(S:Sm V t L L')(b:a=true->∃k:Nat,l=k/\k<V.nl):Pk V t L (L'.wait t l d a) (L.now+d) l ⟨0,0,[]⟩:=by
 let⟨q,c,p,o,_,n⟩:=S.b;refine⟨⟨q,by show L'.wl+1=_;rw[c],by show L'.al+1=_;rw[p],o,?_,?_⟩,S.el,λj=>?_,λj f=>?_,?_,S.us,λX m h i=>?_,λj=>?_⟩
 .show upd L'.ag L'.al ⟨L'.now+d,t,L'.wl,1,false⟩=_;simp_all
 .show upd L'.wt L'.wl ⟨t,l,false,false,⟨0,0,[]⟩,0,0⟩=_;rw[c,n]
 .have:=S.tk j;show(upd L'.tk t _ j).c=_/\(upd L'.tk t _ j).f=_/\(upd L'.tk t _ j).p=_;by_cases e:j=t
  .subst e;simp only[upd,if_true];omega
  .simp only[upd,af e];omega
 .show(upd L'.tk t _ j).a=_/\(upd L'.tk t _ j).o=_;simp only[upd,af f];exact⟨S.ot j f,(S.tk j).2.2.2⟩
 .show(upd L'.tk t _ t).o=_\/_;simp only[upd,if_true];cases a with
  |false=>exact .inl (S.tk t).2.2.2
  |true=>exact .inr ⟨by simp[LS.wait,LS.cB,LS.put,upd,c],b rfl⟩
 .have g:=S.gt X m h i;refine⟨g.1,λu k b c f=>?_,g.2.2⟩;have:=g.2.1 u k b c f;have eq:((L'.wait t l d a).tk u).q=(L'.tk u).q:=by
   by_cases e:u=t
   .subst e;simp[LS.wait,LS.cB,LS.put,upd]
   .simp[LS.wait,LS.cB,LS.put,upd,e]
  rw[eq];exact this
 .have:=S.e j;by_cases e:j=t
  .subst e;simpa [LS.wait,LS.cB,LS.put,upd]using this
  .simpa [LS.wait,LS.cB,LS.put,upd,e]using this
def Gg(L':LS)(l d:Int)(a:Bool):((L'.wait t l d a).tk t).a=(L'.tk t).a/\((L'.wait t l d a).tk t).p=(L'.tk t).p:=by
 simp[LS.wait,LS.cB,LS.put,upd]
def vg(L':LS)(l d:Int)(a:Bool):(L'.wait t l d a).wt L'.wl=⟨t,l,false,false,⟨0,0,[]⟩,0,0⟩:=by
 simp[LS.wait,LS.cB,LS.put,upd]
def eT.slp{d:Int}(h:uW V (m+1) L X μ ν E (some t))(S:Sm V t L L')(o:k<V.nl)(g:(V.ly k).k=1\/(V.ly k).k=5)(g:0<=d/\d<=10000)(r:(L.tk t).p<=k)(p:∀j,(L.tk t).p<=j->j<k+1->Oy V L' t j)(i:jo 0 3 V (L.tk t).p (L'.tk t).a (k+1) none+3<=μ t)(g:jo 1 0 V (L.tk t).p (L'.tk t).a (k+1) none<=ν t):eT V m t (L'.wait t k d true,none):=by
 let⟨f,a⟩:=Gg (t:=t) L' k d true;have n:=vg (t:=t) L' k d true;rw[S.b.2.1]at n;have c:=(S.tk t).2.2.1;have s:=h.now;have s:=h.el;have s:∀(α β:Nat)(b:Bk),jo α β V (L.tk t).p (L'.tk t).a k (some b)<=jo α β V (L.tk t).p (L'.tk t).a (k+1) none:=λα β b=>by
  have s:=jd (α:=α) (β:=β) (V:=V) (a:=(L'.tk t).a) (b:=b) (b':=b) r;have r:=mw (α:=α) (β:=β) (V:=V) (p:=(L.tk t).p) (a:=(L'.tk t).a) (k:=k+1) (b:=b);omega
 refine⟨X+10000,_,_,_,h.pk (v:=jo 0 3 V (L.tk t).p (L'.tk t).a (k+1) none) (n:=jo 1 0 V (L.tk t).p (L'.tk t).a (k+1) none) (Pk.wait k d true S λ_=>⟨k,rfl,o⟩) ω i g (.inr ⟨k,o,by rw[n],⟨ω,ω,λj e q=>?_,λb l=>?_,?_,?_⟩,?_⟩)⟩
 .rw[a,c]at e;have:=p j e ω;unfold Oy at*;simp_all
 .cases l;exact⟨by simp[c9];omega,by simp[c9],.inr (.inl ⟨rfl,rfl,by simp[c9]⟩)⟩
 .rw[f,a,c];simp only[upd,if_true];simp_all
 .rw[f,a,c];simp only[upd,if_true];simp_all
 .have g:Lc V m (L'.wait t k d true) (upd μ t (jo 0 3 V (L.tk t).p (L'.tk t).a (k+1) none)) (upd ν t (jo 1 0 V (L.tk t).p (L'.tk t).a (k+1) none)) t (k+1) none:=⟨ω,ω,λj e q=>by
   rw[a,c]at e;have:=p j e q;unfold Oy at*;simp_all,nofun,by rw[f,a,c];simp[upd],by rw[f,a,c];simp[upd]⟩
  grind
def HI(f:wM V)(h:uW V (m+1) L X μ ν E (some t))(C:Lc V (m+1) L μ ν t k none)(a:k<V.nl)(d:(V.ly k).k=1):eT V m t ({L with tk:=upd L.tk t {L.tk t with a:=upd (L.tk t).a k 1}},some (k+1,none)):=by
 have g:=RJ (α:=0) (β:=3) (a:=(L.tk t).a) C.pk a d (f.rt k a d).1;have g:=RJ (α:=1) (β:=0) (a:=(L.tk t).a) C.pk a d (f.rt k a d).1;have:=C.μ;have:=C.ν;have o:(({L with tk:=upd L.tk t {L.tk t with a:=upd (L.tk t).a k 1}}:LS).tk t).a=upd (L.tk t).a k 1:=by simp[upd]
 have O:Sm V t L {L with tk:=upd L.tk t {L.tk t with a:=upd (L.tk t).a k 1}}:=by
  refine⟨τ,ψ,λj=>?_,λj g=>by simp[upd,g],λc=>⟨Int.le_refl _,χ⟩,λX m _ c=>c.rW rfl rfl λu=>?_,λu=>?_⟩
  .by_cases e:j=t
   .subst e;simp[upd]
   .simp[upd,e]
  .by_cases e:u=t
   .subst e;simp[upd]
   .simp[upd,e]
  .by_cases e:u=t
   .subst e;simp[upd]
   .simp[upd,e]
 refine eT.go h O ω (by have:=C.pk;omega) (λj n c l=>?_) nofun χ χ;rw[o];by_cases e:j=k
 .subst e;simp only[upd,if_true];have:=(f.rt j a d).1;omega
 .simp only[upd,af e];exact C.a j n ω l
def J8(b:wM V)(h:uW V (m+1) L X μ ν E (some t))(C:Lc V (m+1) L μ ν t k none)(a:k<V.nl)(c:(V.ly k).k=5):eT V m t (L.take (V.ly k) t k):=by
 have d:=b.ro k a c;unfold LS.take;split
 .refine eT.E3 b h C a ω ?_ rfl;refine Sm.of rfl τ (by simp[LS.say,LS.aO]) rfl λX m b b=>fq.set (k:=k) b (λd=>?_) (.inr τ);have q:=b.g k a d;exact⟨q.nx,q.sm,q.st,by have:=q.pd;grind,q.si,by have:=q.pr;grind,by have:=q.tn;grind⟩
 .split
  .exact eT.err h C (Sm.say _ _ _) rfl 3
  .split
   .exact eT.err (L':=(L.say t k 12 0).say t k 16 0) h C (Sm.of rfl τ (by simp[LS.say]) rfl λX m _ b=>b.same rfl rfl rfl) rfl 5
   .have b:=yy (α:=0) (β:=3) (a:=(L.tk t).a) C.pk a ω;have b:=yy (α:=1) (β:=0) (a:=(L.tk t).a) C.pk a ω;have:=C.μ;have:=C.ν;refine eT.slp h (Sm.say 12 0 k) a (.inr c) ω C.pk (λj b d a=>?_) (by show jo 0 3 V _ (L.tk t).a _ _+3<=_;omega) (by show jo 1 0 V _ (L.tk t).a _ _<=_;omega);by_cases e:j=k
    .simp_all
    .exact C.a j b ω a
def Ir(p:wM V)(h:uW V (m+1) L X μ ν E (some t))(C:Lc V (m+1) L μ ν t k none)(a:k<V.nl)(c:(V.ly k).k=6):eT V m t (L.uX (V.ly k) t k):=by
 have s:=p.li k a c;unfold LS.uX;split
 .exact eT.err h C (Sm.say _ _ _) rfl 5
 .let⟨l,p⟩:=h.cu t rfl;have S:Sm V t L L:=Sm.id;let⟨g,d⟩:=Gg (t:=t) L k (V.ly k).a true;have f:=vg (t:=t) L k (V.ly k).a true;have p:=Ow (α:=0) (β:=3) (p:=(L.tk t).p) (a:=(L.tk t).a) (a':=λ_=>0) (b:=c9 5 k 0) a c;have p:=Ow (α:=1) (β:=0) (p:=(L.tk t).p) (a:=(L.tk t).a) (a':=λ_=>0) (b:=c9 5 k 0) a c;have p:=C.μ;have p:=C.ν;have p:=h.now;have p:=h.el;have P:=Pk.wait (V:=V) k (V.ly k).a true S λ_=>⟨k,rfl,a⟩
  have r:=h.pk (v:=jo 0 3 V (L.tk t).p (L.tk t).a k (some (c9 5 k 0))) (n:=jo 1 0 V (L.tk t).p (L.tk t).a k (some (c9 5 k 0))) P ω ω ω (.inr ⟨k,a,by rw[f],⟨ω,by rw[d];exact C.pk,λj i p=>by
   rw[d]at i;have:=C.a j i ω;unfold Oy at*;simp_all,λb q=>by cases q;exact⟨by simp[c9];omega,by simp[c9],.inr (.inl ⟨rfl,rfl,by simp[c9]⟩)⟩,by rw[g,d];simp[upd],by rw[g,d];simp[upd]⟩,.inr (.inr ⟨c,λz=>ξ⟩)⟩)
  have o:=l5 μ t (jo 0 3 V (L.tk t).p (L.tk t).a k (some (c9 5 k 0))) L.tl;have n:=l5 ν t (jo 1 0 V (L.tk t).p (L.tk t).a k (some (c9 5 k 0))) L.tl;simp only[l,if_true]at o n;have g:W6 (L.wait t k (V.ly k).a true)=W6 L+1:=by
   have:W6 (L.wait t k (V.ly k).a true)=W6 (L.cB t k true):=rfl;rw[this];exact KQ
  have d:opn (L.wait t k (V.ly k).a true)=opn L+1:=A0 (L:=L.cB t k true) rfl;have b:=h.sm;have b:=h.tl;have b:=h.al;refine⟨X+10000,_,_,_,r.nH (v:=jo 0 3 V (k+1) (λ_=>0) (k+1) none) (n:=jo 1 0 V (k+1) (λ_=>0) (k+1) none) l a c (gr _) (by rw[f]) (by rw[f]) (λu a e=>?_) ?_ ?_ ?_ (az _) (az _)⟩
  .have b:(L.tk u).f=(L.wl:Int):=by rw[<-(P.tk u).2.1];exact e
   rcases(h.tk u a).p with ⟨_,z⟩|⟨w,a,a,a,_⟩<;>omega
  .show L.tl+1+(wG (upd ν t _) L.tl+_)<9990;omega
  .show L.al+1+1+W6 (L.wait t k (V.ly k).a true)+3*m<1000000;omega
  .rw[g,d];show wG (upd μ t _) L.tl+_+_+_<=m;omega
def Mw(r:wM V)(h:uW V (m+1) L X μ ν E (some t))(C:Lc V (m+1) L μ ν t V.nl none):eT V m t (L.step V t V.nl none):=by
 let⟨c,l,k⟩:=(h.tk t (h.cu t rfl).1).c;have p:=C.μ;have p:=C.ν;have p:=h.el;have p:=h.now;unfold LS.step;simp only[if_true];rw[l,mY];have l:=Ke r k (L.us c).toNat;have s:=Pc (aU V c (L.us c).toNat) m ω;have k:=Pc (aU V c (L.us c).toNat) (m+1) ω;have S:Sm V t L (({L with us:=upd L.us c (L.us c+1)}:LS).say t (-1) 1 (L.us c)):=by
  refine⟨τ,by simp[LS.say],λ_=>τ,λ_ _=>rfl,λk=>?_,λX m _ l=>l.same rfl rfl rfl,λ_=>rfl⟩;show L.us k<=upd L.us c (L.us c+1) k/\_;by_cases e:k=c
  .subst e;simp[upd,LS.say];omega
  .simp[upd,LS.say,e];omega
 split
 .have v:=mw (α:=0) (β:=3) (V:=V) (p:=(L.tk t).p) (a:=(L.tk t).a) (k:=V.nl) (b:=cN (aU V c (L.us c).toNat));have u:=mw (α:=1) (β:=0) (V:=V) (p:=(L.tk t).p) (a:=(L.tk t).a) (k:=V.nl) (b:=cN (aU V c (L.us c).toNat));refine eT.go h ⟨S.b,by simp[LS.say],S.tk,S.ot,S.us,S.gt,S.e⟩ (az _) C.pk (C.as rfl (az _)) (λb n=>ξ) (by show jo 0 3 V _ (L.tk t).a _ _+1<=_;omega) (by show jo 1 0 V _ (L.tk t).a _ _<=_;omega)
 .generalize q:cN (aU V c (L.us c).toNat)=f at*;have P:=Pk.wait (V:=V) V.nl (aU V c (L.us c).toNat).t false S nofun;generalize o:(({L with us:=upd L.us c (L.us c+1)}:LS).say t (-1) 1 (L.us c)).wait t V.nl (aU V c (L.us c).toNat).t false=a at*;have k:(({L with us:=upd L.us c (L.us c+1)}:LS).say t (-1) 1 (L.us c)).wl=L.wl:=rfl;rw[k];have i:a.wt L.wl=⟨t,V.nl,false,false,⟨0,0,[]⟩,0,0⟩:=by rw[P.b.2.2.2.2.2];simp[upd]
  have w:Pk V t L {a with wt:=upd a.wt L.wl {a.wt L.wl with b:=⟨f.k,f.n,⟨0,0,L.us c⟩::f.ch⟩}} (L.now+(aU V c (L.us c).toNat).t) V.nl ⟨f.k,f.n,⟨0,0,L.us c⟩::f.ch⟩:=by
   refine⟨⟨P.b.1,P.b.2.1,P.b.2.2.1,P.b.2.2.2.1,P.b.2.2.2.2.1,?_⟩,P.el,P.tk,P.ot,P.o,P.us,P.gt,P.e⟩;show upd a.wt L.wl {a.wt L.wl with b:=_}=_;rw[i,P.b.2.2.2.2.2];funext j;by_cases e:j=L.wl
   .subst e;simp[upd]
   .simp[upd,e]
  have d:(a.tk t).a=(L.tk t).a/\(a.tk t).p=(L.tk t).p:=by rw[<-o];simp[LS.wait,LS.cB,LS.put,LS.say,upd]
  have v:=mw (α:=0) (β:=3) (V:=V) (p:=(L.tk t).p) (a:=(L.tk t).a) (k:=V.nl) (b:=f);have u:=mw (α:=1) (β:=0) (V:=V) (p:=(L.tk t).p) (a:=(L.tk t).a) (k:=V.nl) (b:=f);refine⟨X+10000,_,_,_,h.pk (v:=jo 0 3 V (L.tk t).p (L.tk t).a V.nl (some f)) (n:=jo 1 0 V (L.tk t).p (L.tk t).a V.nl (some f)) w ω ω ω (.inl ⟨?_,?_,⟨0,0,L.us c⟩,f.ch,?_,?_⟩)⟩
  .simp[upd,i]
  .simp[upd,i]
  .simp[upd,i]
  .have c:∀b':Bk,b'=f->jo 0 3 V (L.tk t).p (L.tk t).a V.nl (some b')=jo 0 3 V (L.tk t).p (L.tk t).a V.nl (some f):=λb' e=>by rw[e]
   refine⟨az _,by show(a.tk t).p<=_;rw[d.2];exact C.pk,λj f e c=>?_,λb n=>?_,?_,?_⟩
   .have g:(a.tk t).p<=j:=f;rw[d.2]at g;show 1<=(a.tk t).a j/\(a.tk t).a j<=_;rw[d.1];exact C.a j g e c
   .simp only[upd,if_true,Option.some.injEq]at n;subst n;exact s
   .show jo 0 3 V (a.tk t).p (a.tk t).a V.nl _<=_;rw[d.1,d.2];simp only[upd,if_true,jo];omega
   .show jo 1 0 V (a.tk t).p (a.tk t).a V.nl _<=_;rw[d.1,d.2];simp only[upd,if_true,jo];omega
end
def wh(q l n:Int)(a:m+1<1000000):Sw m (c9 q l n):=⟨by simp[c9];omega,by simp[c9],.inr (.inl ⟨rfl,rfl,by simp[c9]⟩)⟩
def Sw.less(h:Sw (m+1) b):Sw m b:=⟨by have:=h.1;omega,h.2⟩
section
variable{L L':LS}
def eT.out(h:uW V (m+1) L X μ ν E (some t))(C:Lc V (m+1) L μ ν t (j+1) (some b))(a:(L.tk t).p<=j)(O:Sm V t L L')(c:(L'.tk t).a=(L.tk t).a)(d:Sw m b'):eT V m t (L',some (j,some b')):=by
 have d:=jd (α:=0) (β:=3) (V:=V) (a:=(L.tk t).a) (b:=b) (b':=b') a;have d:=jd (α:=1) (β:=0) (V:=V) (a:=(L.tk t).a) (b:=b) (b':=b') a;have:=C.μ;have:=C.ν;have:=C.kl;exact eT.go h O ω a (C.as c ω) (λb a=>ξ) χ χ
def ER(G:wM V)(h:uW V (m+1) L X μ ν E (some t))(C:Lc V (m+1) L μ ν t (j+1) (some b))(f:(L.tk t).p<=j)(k:(V.ly j).k=1)(J:¬(b.k≠2\/cE b 2=true\/cE b 5=true)):
 eT V m t (if(L.tk t).a j=(V.ly j).a then(L.say t j 4 0,some (j,some ⟨2,0,⟨7,j,0⟩::b.ch⟩))else
  if(L.tk t).x=true then LS.drop t j {L.say t j 3 (aI (V.ly j) ((L.tk t).a j))with tk:=upd (L.say t j 3 (aI (V.ly j) ((L.tk t).a j))).tk t {(L.say t j 3 (aI (V.ly j) ((L.tk t).a j))).tk t with a:=upd ((L.say t j 3 (aI (V.ly j) ((L.tk t).a j))).tk t).a j ((L.tk t).a j+1)}}
  else if aI (V.ly j) ((L.tk t).a j)>0 then(LS.wait {L.say t j 3 (aI (V.ly j) ((L.tk t).a j))with tk:=upd (L.say t j 3 (aI (V.ly j) ((L.tk t).a j))).tk t {(L.say t j 3 (aI (V.ly j) ((L.tk t).a j))).tk t with a:=upd ((L.say t j 3 (aI (V.ly j) ((L.tk t).a j))).tk t).a j ((L.tk t).a j+1)}} t j (aI (V.ly j) ((L.tk t).a j)) true,none)
  else({L.say t j 3 (aI (V.ly j) ((L.tk t).a j))with tk:=upd (L.say t j 3 (aI (V.ly j) ((L.tk t).a j))).tk t {(L.say t j 3 (aI (V.ly j) ((L.tk t).a j))).tk t with a:=upd ((L.say t j 3 (aI (V.ly j) ((L.tk t).a j))).tk t).a j ((L.tk t).a j+1)}},some (j+1,none))):=by
 have r:j<V.nl:=by have:=C.kl;omega
 have o:=C.b b rfl;have K:=h.el;have A:=G.rt j r k;have M:=C.a j f (gr _) k;split
 .refine eT.out h C f (Sm.say _ _ _) rfl ?_;rcases o.2.2 with z|⟨_,_,z⟩|z
  .omega
  .exact⟨by have:=o.1;simp;omega,Jr o.2.1 z,.inr (.inl ⟨rfl,rfl,ψ⟩)⟩
  .omega
 .rename_i D;have B:=AW (V.ly j) ((L.tk t).a j) A.2.2.2;generalize aI (V.ly j) ((L.tk t).a j)=a at*;have q:(({L.say t j 3 a with tk:=upd (L.say t j 3 a).tk t {(L.say t j 3 a).tk t with a:=upd ((L.say t j 3 a).tk t).a j ((L.tk t).a j+1)}}:LS).tk t).a=upd (L.tk t).a j ((L.tk t).a j+1):=by simp[upd,LS.say]
  have S:Sm V t L {L.say t j 3 a with tk:=upd (L.say t j 3 a).tk t {(L.say t j 3 a).tk t with a:=upd ((L.say t j 3 a).tk t).a j ((L.tk t).a j+1)}}:=by
   refine⟨τ,by simp[LS.say],λu=>?_,λu y=>by simp[LS.say,upd,y],λc=>⟨Int.le_refl _,by show L.us c<=L.us c+1;omega⟩,λX m _ F=>F.rW rfl rfl λu=>?_,λu=>?_⟩
   .by_cases e:u=t
    .subst e;simp[upd,LS.say]
    .simp[upd,LS.say,e]
   .by_cases e:u=t
    .subst e;simp[upd,LS.say]
    .simp[upd,LS.say,e]
   .by_cases e:u=t
    .subst e;simp[upd,LS.say]
    .simp[upd,LS.say,e]
  have P:=RL (α:=0) (β:=3) (V:=V) (a:=(L.tk t).a) (b:=b) f k ω;have O:=RL (α:=1) (β:=0) (V:=V) (a:=(L.tk t).a) (b:=b) f k ω;have:=C.μ;have:=C.ν;have g:∀{d:LS},(d.tk t).a=upd (L.tk t).a j ((L.tk t).a j+1)->∀i,(L.tk t).p<=i->i<j+1->Oy V d t i:=fun{d} e i p I H=>by
   rw[e];by_cases v:i=j
   .subst v;simp only[upd,if_true];omega
   .simp only[upd,af v];exact C.a i p ω H
  generalize n:({L.say t j 3 a with tk:=upd (L.say t j 3 a).tk t {(L.say t j 3 a).tk t with a:=upd ((L.say t j 3 a).tk t).a j ((L.tk t).a j+1)}}:LS)=d at*;split
  .have s:∀α β,jo α β V (L.tk t).p (upd (L.tk t).a j ((L.tk t).a j+1)) j (some (c9 5 j 0))<=jo α β V (L.tk t).p (upd (L.tk t).a j ((L.tk t).a j+1)) (j+1) none:=λα β=>by
    have x:=jd (α:=α) (β:=β) (V:=V) (a:=upd (L.tk t).a j ((L.tk t).a j+1)) (b:=b) (b':=c9 5 j 0) f;have w:=mw (α:=α) (β:=β) (V:=V) (p:=(L.tk t).p) (a:=upd (L.tk t).a j ((L.tk t).a j+1)) (k:=j+1) (b:=b);omega
   have x:=s 0 3;have w:=s 1 0
   exact eT.go (L':=d.say t j 16 0) h ⟨S.b,by have:=S.el;have N:d.el=L.el+1:=by rw[<-n];rfl
                                              show d.el+1<=_;omega,S.tk,S.ot,S.us,S.gt,S.e⟩ ω f (λi p I=>g q i p ω) (λb l=>by cases l;exact wh 5 j 0 ω) (by show jo 0 3 V _ (d.tk t).a _ _+1<=_;grind) (by show jo 1 0 V _ (d.tk t).a _ _<=_;grind)
  .split
   .exact eT.slp h S r (.inl k) ω f (g q) χ χ
   .exact eT.go h S ω ω (g q) nofun χ χ
def Ln(h:uW V (m+1) L X μ ν E (some t))(C:Lc V (m+1) L μ ν t (j+1) (some b))(d:(L.tk t).p<=j)(s:(V.ly j).k=5):eT V m t (L.fC t j,some (j,some b)):=by
 have f:j<V.nl:=by have:=C.kl;omega
 have i:=(C.b b rfl).less;unfold LS.fC;split
 .rename_i w p;let⟨o,n,l,k⟩:=Kz p;let⟨A,c,a,P,y,F⟩:=eT.out (b':=b) h C d (Sm.say 14 0 j) rfl i;let⟨B,x,_⟩:=y.fix (z:=2) (b:=⟨0,0,[]⟩) (w:=w) o f n l k (.inr ⟨rfl,.inl s⟩) (λ_ u r _ e=>by
   rcases(h.tk u r).p with ⟨_,z⟩|⟨D,G,O,N,M,K,J,_⟩
   .have:(L.tk u).f=(w:Int):=e;omega
   .have I:(L.tk u).f=(w:Int):=e;grind)
  exact⟨A,c,a,B,x,F.mv (az _) rfl rfl rfl rfl⟩
 .refine eT.out h C d (Sm.of rfl τ (by simp[LS.say,LS.aO]) rfl λX m H g=>?_) rfl i;refine fq.set (k:=j) g (λv=>?_) (.inr τ);have q:=g.g j f v;exact⟨q.nx,q.sm,q.st,by have:=q.pd;grind,q.si,by have:=q.pr;grind,by have:=q.tn;grind⟩
def Kw(c:wM V){Q:Option Bk}(h:uW V (m+1) L X μ ν E (some t))(C:Lc V (m+1) L μ ν t k Q):eT V m t (L.step V t k Q):=by
 have p:=(h.cu t rfl).1;have u:=h.el;cases Q with
 |none=>
  by_cases n:k=V.nl
  .subst n;exact Mw c h C
  .have a:k<V.nl:=by have:=C.kl;omega
   unfold LS.step;simp only[af n];split
   .exact HI c h C a (by assumption)
   .rename_i e;split
    .exact Jw c h C a (by assumption)
    .split
     .exact Xk c h C a (by assumption)
     .split
      .exact J8 c h C a (by assumption)
      .split
       .exact Ir c h C a (by assumption)
       .exact eT.E3 c h C a e Sm.id rfl
 |some b=>
  have f:=C.b b rfl;unfold LS.step;dsimp only;split
  .have v:=Fo (α:=0) (β:=3) (V:=V) (p:=(L.tk t).p) (a:=(L.tk t).a) k;have r:=C.μ;simp only[jo]at r;let⟨i,g,s,e⟩:=h.end_ (b:=b) ω f.less;exact⟨X,i,g,s,e⟩
  .rename_i q;obtain⟨j,rfl⟩:∃j,k=j+1:=⟨k-1,by have:=C.pk;omega⟩;have d:(L.tk t).p<=j:=by have:=C.pk;omega
   have l:j<V.nl:=by have:=C.kl;omega
   rw[eM];split
   .rename_i e;split
    .exact eT.out h C d Sm.id rfl f.less
    .exact ER c h C d e (by assumption)
   .split
    .rename_i o;have G:=GJ (V:=V) (L:=L) (t:=t) b l (λz=>by have:=(h.gt.q.1 t j p l o).2 z;omega) (c.br j l o);exact eT.out h C d G.sm (by rw[G.tk]) f.less
    .split
     .exact Ln h C d (by assumption)
     .split
      .exact eT.out h C d (Sm.say _ _ _) rfl (wh _ _ _ ω)
      .exact eT.out h C d Sm.id rfl f.less
end
def OnR(V:Ev0)(t w:Nat)(c:Int)(L:LS)(k':Nat)(Q:Option Bk)(L':LS):Prop:=
 (c=1/\(L.wt w).l=V.nl/\∃y ch,(L.wt w).b.ch=y::ch/\k'=V.nl/\Q=some ⟨(L.wt w).b.k,(L.wt w).b.n,ch⟩/\L'=L.say t (-1) 2 y.n)\/
 ∃k:Nat,k<V.nl/\(L.wt w).l=k/\((c=3/\((V.ly k).k=1\/(V.ly k).k=5\/(V.ly k).k=6)/\k'=k/\Q=some (c9 5 k 0)/\L'=L.say t k 16 0)\/
  (c=1/\(V.ly k).k=1/\k'=k+1/\Q=none/\L'=L)\/
  ((V.ly k).k=5/\c=1/\k'=k/\Q=some (c9 3 k 0)/\L'=L.say t k 7 0)\/
  ((V.ly k).k=5/\c=2/\k'=k+1/\Q=none/\L'=L.say t k 13 0)\/
  ((V.ly k).k=6/\c=1/\k'=k/\Q=some (c9 4 k 0)/\∃oL:List Nat,(∀j∈oL,j<L.tl/\V.nc<=j)/\L'=(L.say t k 15 0).cancel oL)\/
  ((V.ly k).k=6/\c=2/\k'=k/\Q=some (L.wt w).b/\L'=L))
structure Xb(V:Ev0)(J:Option (Nat×Nat×Option Bk)->LS->Prop):Prop where
 step:∀t k Q L,J (some (t,k,Q)) L->qm V t L->(∀u,u<L.tl->mC V L u)->k<=V.nl->(L.tk t).p<=k->J ((L.step V t k Q).2.map λq=>(t,q.1,q.2)) (L.step V t k Q).1
 start:∀(i t:Nat) L,J none L->t<L.tl->cj L.ag L.al=i->(L.ag i).t=t->(L.ag i).c=0->J (some (t,(L.tk t).p,none)) (L.pop i)
 late:∀(i w:Nat) L,J none L->cj L.ag L.al=i->(L.ag i).c=1->(L.ag i).w=w->(L.wt w).x=true\/(L.wt w).e=true->J none (L.pop i)
 JB:∀(i t w:Nat) L k Q L',J none L->(∀u,u<L.tl->mC V L u)->t<L.tl->w<L.wl->((L.ag i).c=1/\(L.wt w).x=false\/((L.ag i).c=2\/(L.ag i).c=3)/\(L.wt w).x=true/\(L.wt w).z=(L.ag i).c)->cj L.ag L.al=i->(L.ag i).t=t->(L.ag i).w=w->(L.wt w).t=t->(L.wt w).e=false->qm V t ((L.pop i).bV t w)->OnR V t w (L.ag i).c ((L.pop i).bV t w) k Q L'->J (some (t,k,Q)) L'
section
variable{L L':LS}{w:Nat}
def Pp.pop(V:Ev0)(L:LS)(i:Nat):Pp V i L (L.pop i):=⟨τ,by show L.el<=_;omega,λ_=>τ,λ_=>rfl,rfl,λX m a=>a.same rfl rfl rfl,λ_=>rfl⟩
def Pp.bV(V:Ev0)(L:LS)(i t w:Nat):Pp V i L ((L.pop i).bV t w):=by
 refine⟨τ,by show L.el<=_;omega,λj=>?_,λj=>?_,rfl,λX m a=>a.rW rfl rfl λj=>?_,λj=>?_⟩
 .by_cases e:j=t
  .subst e;simp[LS.bV,LS.pop,upd]
  .simp[LS.bV,LS.pop,upd,e]
 .by_cases e:j=t
  .subst e;simp[LS.bV,LS.pop,upd]
  .simp[LS.bV,LS.pop,upd,e]
 .by_cases e:j=t
  .subst e;simp[LS.bV,LS.pop,upd]
  .simp[LS.bV,LS.pop,upd,e]
 .by_cases e:j=t
  .subst e;simp[LS.bV,LS.pop,upd]
  .simp[LS.bV,LS.pop,upd,e]
def Pp.say(P:Pp V i L L')(a:L'.el<=L.el+2)(t:Nat)(l q n:Int):Pp V i L (L'.say t l q n):=⟨P.b,by show L'.el+1<=_;omega,P.tk,P.ta,P.us,λX m a=>⟨(P.gt X m a).1,(P.gt X m a).2.1,(P.gt X m a).2.2⟩,P.e⟩
def Lc.ob(C:Lc V m L μ ν t k (some b))(a:Sw m b'):Lc V m L μ ν t k (some b'):=⟨C.kl,C.pk,C.a,λx a=>ξ,C.μ,C.ν⟩
def Lc.bok{Q:Option Bk}(C:Lc V m L μ ν t k Q)(T:mC V L t):∀b,Q=some b->G5 b/\(0<k->Oy V L t (k-1)):=λb c=>by
 have a:=C.b b c;refine⟨⟨by have:=a.1;omega,a.2⟩,λa=>?_⟩;by_cases e:(L.tk t).p<=k-1
 .exact C.a (k-1) e ω
 .intro a;have:=C.pk;rcases T.p with ⟨z,_⟩|⟨_,a,_,_,_,_,z,a⟩
  .omega
  grind
def zP(u:Nat):∀(a:aN)(L:LS),((a.foldl LS.iC L).tk u).a=(L.tk u).a/\((a.foldl LS.iC L).tk u).p=(L.tk u).p
 |[],L=>τ
 |j::a,L=>by
  have b:=zP u a (L.iC j);have a:=(Cy.iC (L:=L) j).tk u;simp_all
def Mt(L:LS)(j:Nat):(L.jv j).tk=L.tk:=by
 unfold LS.jv LS.qA;split
 .rfl
 .split<;>rfl
def AD:∀(a:aN)(L:LS),(a.foldl LS.jv L).tk=L.tk
 |[],L=>rfl
 |j::a,L=>(AD a (L.jv j)).trans (Mt L j)
def Fx(L:LS)(a:aN)(u:Nat):((L.cancel a).tk u).a=(L.tk u).a/\((L.cancel a).tk u).p=(L.tk u).p:=by
 unfold LS.cancel;rw[AD];exact zP u a L
def uW.over(h:uW V m L X μ ν E none)(b:∀i,i<L.al->(L.ag i).o=true):∀t,t<L.tl->(L.tk t).e=true:=λt a=>h.en t a (by
 cases e:E t with
 |none=>rfl
 |some i=>
  let⟨_,b,_⟩:=h.lv t i a e;simp_all) nofun
def NQ{J:Option (Nat×Nat×Option Bk)->LS->Prop}(hV:wM V)(HJ:Xb V J):∀(m:Nat)(cur:Option (Nat×Nat×Option Bk))(L:LS)(X:Int)(μ ν:bU)(E:Nat->Option Nat),uW V m L X μ ν E (cur.map (·.1))->(∀t k Q,cur=some (t,k,Q)->Lc V m L μ ν t k Q)->J cur L->Fin V (λL=>J none L/\V.nc<=L.tl/\(∀t,t<L.tl->(L.tk t).e=true)/\L.el<1000000) (m+1) cur L:=by
 intro m;have last:∀L:LS,cj L.ag L.al<0->∀i,i<L.al->(L.ag i).o=true:=λL h=>by
  have:∀n,cj L.ag n<0->∀i,i<n->(L.ag i).o=true:=λn=>by
   induction n with
   |zero=>omega
   |succ n K=>
    intro h i n;unfold cj at h;grind
  grind
 induction m with
 |zero=>
  intro cur L X μ ν E I C B;match cur with
  |none=>
   refine⟨by have:=I.al;omega,?_⟩;rcases rS L.ag L.al with h|⟨k,Y,R⟩
   .rw[sJ ω];exact⟨B,I.nc,I.over (last L ω),by have:=I.el;omega⟩
   .exfalso;have n:=vI Y (qI _ _ _ R).2;have O:=I.sm;omega
  |some (t,k,Q)=>
   exfalso;have u:=C t k Q rfl;have Y:=(I.cu t rfl).1;have s:=Et μ t L.tl Y;have O:=I.sm;have v:=u.μ;have:=Fo (α:=0) (β:=3) (V:=V) (p:=(L.tk t).p) (a:=(L.tk t).a) k;unfold jo at v;omega
 |succ m K=>
  intro cur L X μ ν E I C B;match cur with
  |some (t,k,Q)=>
   have u:=C t k Q rfl;have f:=(I.cu t rfl).1;have T:=I.tk t f;have S:=I.Ua f (.inr rfl);refine⟨S,u.kl,u.pk,u.bok T,?_⟩;have hs:=Kw hV I u;have N:=HJ.step t k Q L B S I.tk u.kl u.pk;revert hs N;generalize L.step V t k Q=r;let⟨L1,o⟩:=r;cases o with
   |none=>
    rintro ⟨X',b,a,G,x⟩ N;exact K none L1 X' b a G x nofun N
   |some q=>
    let⟨g,n⟩:=q;rintro ⟨X',b,a,G,x,o⟩ N;exact K (some (t,g,n)) L1 X' b a G x (λ_ _ _ z=>ξ) N
  |none=>
   have n:L.al<1000000:=by have:=I.al;omega
   refine⟨n,?_⟩;rcases rS L.ag L.al with h|⟨i,Y,R⟩
   .rw[sJ ω];exact⟨B,I.nc,I.over (last L ω),by have:=I.el;omega⟩
   .have ho:=(qI _ _ _ R).2;rw[af ω];dsimp only;rw[show(cj L.ag L.al).toNat=i by omega];by_cases Z:∃t,t<L.tl/\E t=some i
    .let⟨t,f,n⟩:=Z;let⟨_,_,h4,l⟩:=I.lv t i f n;refine⟨t,h4,?_⟩;rcases l with ⟨l,s⟩|⟨w,s,O,v,U,h,l⟩
     .have x:=I.pop (v:=μ t) (n:=ν t) f n (Pp.pop V L i) (.inl ⟨rfl,l⟩) (az _) (az _);refine .inl ⟨l,x.Ua f (.inr rfl),K (some (t,(L.tk t).p,none)) (L.pop i) X _ _ _ x ?_ (HJ.start i t L B f R h4 l)⟩;rintro _ _ _ ⟨⟩;exact s.mv ω rfl rfl (by simp[upd]) (by simp[upd])
     .have F:=Pp.bV V L i t w;have H:((L.pop i).bV t w).wt w={L.wt w with e:=true}:=by simp[LS.bV,LS.pop,upd]
      have go:∀(L':LS)(g:Nat)(Q:Option Bk),Pp V i L L'->L'.wt=((L.pop i).bV t w).wt->Lc V (m+1) L μ ν t g Q->∃b a G,uW V m L' X b a G (some t)/\Lc V m L' b a t g Q:=λL' g Q P e c=>⟨_,_,_,I.pop (v:=μ t) (n:=ν t) f n P (.inr ⟨w,s,e,v⟩) (az _) (az _),c.mv ω (P.ta t) (P.tk t).2.2.1 (by simp[upd]) (by simp[upd])⟩
      have SW:qm V t ((L.pop i).bV t w):=(I.pop (v:=μ t) (n:=ν t) f n F (.inr ⟨w,s,rfl,v⟩) (az _) (az _)).Ua f (.inr rfl);have fin:∀(L':LS)(g:Nat)(Q:Option Bk),Pp V i L L'->L'.wt=((L.pop i).bV t w).wt->Lc V (m+1) L μ ν t g Q->OnR V t w (L.ag i).c ((L.pop i).bV t w) g Q L'->Fin V (λL=>J none L/\V.nc<=L.tl/\(∀t,t<L.tl->(L.tk t).e=true)/\L.el<1000000) (m+1) (some (t,g,Q)) L':=λL' g Q P e c m=>by
       let⟨b,a,G,x,u⟩:=go L' g Q P e c;exact K (some (t,g,Q)) L' X b a G x (λ_ _ _ z=>ξ) (HJ.JB i t w L g Q L' B I.tk f O h R h4 s v U SW m)
      have abc:=h;refine .inr ⟨w,s,O,.inr ⟨v,U,h,SW,?_⟩⟩;have c:((L.pop i).bV t w).el=L.el:=rfl;rcases l with ⟨D,c,y,ch,a3,g⟩|⟨k,D,c,a3,g⟩
      .have d:(L.ag i).c=1:=by
        simp_all
       refine .inl ⟨d,ξ,y,ch,ξ,?_⟩;rw[H];exact fin _ _ _ (F.say ω _ _ _ _) rfl g (.inl ⟨d,ξ,y,ch,ξ,rfl,by rw[H],rfl⟩)
      .have M:(((L.pop i).bV t w).wt w).l=k:=ξ
       have c:=I.el;have kind:(V.ly k).k=1\/(V.ly k).k=5\/(V.ly k).k=6:=by
        omega
       refine .inr ⟨k,D,M,?_⟩;by_cases c:(L.ag i).c=3
       .exact .inl ⟨c,kind,fin _ _ _ (F.say ω _ _ _ _) rfl a3 (.inr ⟨k,D,M,.inl ⟨c,kind,rfl,rfl,rfl⟩⟩)⟩
       .rcases g with ⟨p,b2,c⟩|⟨p,b2⟩|⟨p,b2⟩
        .have d:(L.ag i).c=1:=by
          grind
         exact .inr (.inl ⟨d,p,fin _ _ _ F rfl c (.inr ⟨k,D,M,.inr (.inl ⟨d,p,rfl,rfl,rfl⟩)⟩)⟩)
        .rcases h with ⟨d,_⟩|⟨g,z2,c⟩
         .exact .inr (.inr (.inl ⟨p,d,fin _ _ _ (F.say ω _ _ _ _) rfl (a3.ob (wh 3 k 0 ω)) (.inr ⟨k,D,M,.inr (.inr (.inl ⟨p,d,rfl,rfl,rfl⟩))⟩)⟩))
         .have d:(L.ag i).c=2:=ω
          exact .inr (.inr (.inr (.inl ⟨p,d,fin _ _ _ (F.say ω _ _ _ _) rfl b2 (.inr ⟨k,D,M,.inr (.inr (.inr (.inl ⟨p,d,rfl,rfl,rfl⟩)))⟩)⟩)))
        .rcases h with ⟨d,_⟩|⟨g,z2,c⟩
         .refine .inr (.inr (.inr (.inr (.inl ⟨p,d,λW A=>?_⟩))));let⟨b,a,G,x,u⟩:=go (((L.pop i).bV t w).say t k 15 0) k (some (c9 4 k 0)) (F.say ω _ _ _ _) rfl (a3.ob (wh 4 k 0 ω));let⟨c,I2,_,_⟩:=x.cancel (oL:=W) (λj N=>(A j N).1);refine K (some (t,k,some (c9 4 k 0))) _ X b a c I2 (λ_ _ _ z=>?_) (HJ.JB i t w L k _ _ B I.tk f O abc R h4 s v U SW (.inr ⟨k,D,M,.inr (.inr (.inr (.inr (.inl ⟨p,d,rfl,rfl,W,A,rfl⟩))))⟩));cases z;have a:=Fx (((L.pop i).bV t w).say t k 15 0) W t;exact u.mv (az _) a.1 a.2 rfl rfl
         .have d:(L.ag i).c=2:=ω
          have a:(((L.pop i).bV t w).wt w).b=(L.wt w).b:=by rw[H]
          refine .inr (.inr (.inr (.inr (.inr ⟨p,d,?_⟩))));rw[a];exact fin _ _ _ F rfl (a3.ob (b2 z2 ω)) (.inr ⟨k,D,M,.inr (.inr (.inr (.inr (.inr ⟨p,d,rfl,by rw[a],rfl⟩))))⟩)
    .have a:∀t,t<L.tl->E t≠some i:=λt f e=>Z ⟨t,f,e⟩;let⟨t,h4,b,l⟩:=I.pd i Y ho;rcases l with l|⟨l,w,s,O,v⟩
     .simp_all
     .exact⟨t,b,.inr ⟨w,s,O,.inl ⟨l,v,K none (L.pop i) X μ ν E (I.off Y ho a) nofun (HJ.late i w L B R l s v)⟩⟩⟩
end
def ko(V:Ev0):LS:=⟨0,V.nc,λi=>⟨V.st i,i,0,0,false⟩,V.nc,λi=>⟨i,-1,0,-1,false,false,-1,λ_=>0,λ_=>0⟩,0,λ_=>⟨0,0,false,false,⟨0,0,[]⟩,0,0⟩,λ_=>0,λ_=>⟨0,⟨0,0,[]⟩⟩,0,λ_=>⟨0,0,0,0,0⟩,λ_=>⟨false,0,0,0,0,[],0,0⟩⟩
def UB(a:wM V):uW V 80000 (ko V) 1000 (λ_=>8754) (λ_=>486) (λt=>some t) none:=by
 have m:=a.nc;have m:=DM (f:=λ_=>8754) (c:=8754) V.nc λ_ _=>az _;have m:=DM (f:=λ_=>486) (c:=486) V.nc λ_ _=>az _;have m:opn (ko V)<=V.nc*1:=DM V.nc λi _=>by split<;>omega
 have l:W6 (ko V)=0:=rfl;refine{nc:=az _,tl:=?_,el:=by show 0+3*80000<1000000;omega,wl:=by show 0+80000<1000000;omega,al:=by rw[l];show V.nc+0+3*80000<1000000;omega,now:=by show 0<=(0:Int)/\(0:Int)<=1000;omega,x:=ω,tk:=λt g=>⟨⟨t,rfl,g⟩,.inl τ,.inl rfl⟩,fi:=λt u _ _ m=>absurd m (Ap _),tf:=λt _ _ w f=>?_,us:=λc _=>by show 0<=(0:Int)/\(0:Int)+80000<1000000;omega,ta:=λi e _=>?_,pd:=λi e _=>⟨i,e,rfl,.inl rfl⟩,lv:=λt i g e=>?_,wa:=λw f=>absurd f (uk _),cu:=nofun,en:=nofun,sm:=?_,gt:=⟨λk d m=>?_,λt k _ _ _=>?_,λk _ _=>?_⟩}
 .show V.nc+wG (λ_=>486) V.nc<9990;omega
 .have:(-1:Int)=w:=f;omega
 .have:=a.st i e;show 0<=V.st i/\V.st i<=1000;omega
 .cases e;have c:=Yp a (λ_=>0);exact⟨g,rfl,rfl,.inl ⟨rfl,gl _,gl _,λj _ h=>absurd h (uk _),nofun,c.1,c.2⟩⟩
 .show wG (λ_=>8754) V.nc+opn (ko V)+W6 (ko V)<=80000;rw[l];omega
 .have b:0<=(V.ly k).a:=by
   rcases a.kd k d with z|z|z|z|z|z
   .omega
   .omega
   .have:=a.ra k d z;omega
   .have:=a.br k d z;omega
   .have:=a.ro k d z;omega
   .have:=a.li k d z;omega
  refine⟨by show 0<=(0:Int)/\(0:Int)<=1000+20000;omega,λ_=>rfl,.inl ⟨rfl,?_⟩,by show 0<=(0:Int)/\(0:Int)+80000<1000000;omega,by show 0<=(0:Int)/\(0:Int)<=1000;omega,by show -1000000<(0:Int)-80000/\(0:Int)+80000<1000000;omega,by show -1000000<(0:Int)-80000/\(0:Int)+80000<1000000;omega⟩;show((0:Nat):Int)<=_;simpa using b
 .exact⟨Int.le_refl _,nofun⟩
 .exact⟨Int.le_refl _,nofun⟩
def Rr{J:Option (Nat×Nat×Option Bk)->LS->Prop}(a:wM V)(c:Xb V J)(b:J none (ko V)):Fin V (λL=>J none L/\V.nc<=L.tl/\(∀t,t<L.tl->(L.tk t).e=true)/\L.el<1000000) 80001 none (ko V):=
 NQ a c 80000 none (ko V) 1000 _ _ _ (UB a) nofun b
section
variable{L L':LS}
end
section
variable{L L':LS}
end
section
variable{L L':LS}
end
abbrev V1:Ev0:=⟨0,λ_=>⟨0,0,0,0,0,0⟩,1,λ_=>5,λ_=>1,λ_ _=>⟨1,7,3⟩⟩
def Y1:LS:=(ko V1).pop 0
def Y2:LS:=(Y1.step V1 0 0 none).1
def Y3:LS:=((Y2.pop 1).bV 0 0).say 0 (-1) 2 0
def Y4:LS:=(Y3.step V1 0 0 (some ⟨1,7,[]⟩)).1
def J1(cur:Option (Nat×Nat×Option Bk))(L:LS):Prop:=
 (cur=none/\L=ko V1)\/(cur=some (0,0,none)/\L=Y1)\/(cur=none/\L=Y2)\/(cur=some (0,0,some ⟨1,7,[]⟩)/\L=Y3)\/(cur=none/\L=Y4)
def VD:Xb V1 J1 where
 step:=λt k Q L h _ _ _ _=>by
  rcases h with ⟨e,_⟩|⟨e,rfl⟩|⟨e,_⟩|⟨e,rfl⟩|⟨e,_⟩
  .cases e
  .cases e;exact .inr (.inr (.inl ⟨ρ,rfl⟩))
  .cases e
  .cases e;exact .inr (.inr (.inr (.inr ⟨ρ,rfl⟩)))
  .cases e
 start:=λi t L h _ c d f=>by
  rcases h with ⟨_,rfl⟩|⟨e,_⟩|⟨_,rfl⟩|⟨e,_⟩|⟨_,rfl⟩
  .have:cj (ko V1).ag (ko V1).al=0:=ρ
   have:i=0:=ω
   subst this
   have:t=0:=by have:((ko V1).ag 0).t=0:=ρ
                omega
   subst this;exact .inr (.inl τ)
  .cases e
  .have:cj Y2.ag Y2.al=1:=ρ
   have:i=1:=ω
   subst this;have:(Y2.ag 1).c=1:=ρ
   omega
  .cases e
  .have:cj Y4.ag Y4.al=-1:=ρ
   omega
 late:=λi w L h c f f b=>by
  rcases h with ⟨_,rfl⟩|⟨e,_⟩|⟨_,rfl⟩|⟨e,_⟩|⟨_,rfl⟩
  .have:cj (ko V1).ag (ko V1).al=0:=ρ
   have:i=0:=ω
   subst this;have:((ko V1).ag 0).c=0:=ρ
   omega
  .cases e
  .have:cj Y2.ag Y2.al=1:=ρ
   have:i=1:=ω
   subst this;have:(Y2.ag 1).w=0:=ρ
   have:w=0:=ω
   subst this;have g:(Y2.wt 0).x=false:=ρ
   have f:(Y2.wt 0).e=false:=ρ
   rw[g,f]at b;rcases b with z|z<;>cases z
  .cases e
  .have:cj Y4.ag Y4.al=-1:=ρ
   omega
 JB:=λi t w L k Q L' h _ d _ d c c c _ _ _ O=>by
  rcases h with ⟨_,rfl⟩|⟨e,_⟩|⟨_,rfl⟩|⟨e,_⟩|⟨_,rfl⟩
  .have:cj (ko V1).ag (ko V1).al=0:=ρ
   have:i=0:=ω
   subst this;have:((ko V1).ag 0).c=0:=ρ
   omega
  .cases e
  .have:cj Y2.ag Y2.al=1:=ρ
   have:i=1:=ω
   subst this;have:(Y2.ag 1).w=0:=ρ
   have:w=0:=ω
   subst this;have:(Y2.ag 1).t=0:=ρ
   have:t=0:=ω
   subst this;rcases O with ⟨_,_,y,ch,a,rfl,rfl,rfl⟩|⟨c,ok,_⟩
   .have c:(((Y2.pop 1).bV 0 0).wt 0).b=⟨1,7,[⟨0,0,0⟩]⟩:=ρ
    rw[c]at a ⊢;cases a;exact .inr (.inr (.inr (.inl τ)))
   .exact absurd ok (uk _)
  .cases e
  .have:cj Y4.ag Y4.al=-1:=ρ
   omega
def Xs:Fin V1 (λL=>J1 none L/\V1.nc<=L.tl/\(∀t,t<L.tl->(L.tk t).e=true)/\L.el<1000000) 80001 none (ko V1):=
 Rr ⟨δ,δ,λk a=>absurd a (uk _),δ,λk a=>absurd a (uk _),λk a=>absurd a (uk _),λk a=>absurd a (uk _),λk a=>absurd a (uk _),λk a=>absurd a (uk _),λc a=>(by decide:0<=(5:Int)/\(5:Int)<=1000),λc a=>(by decide:1<=12),λc a j a=>(by decide:(1<=(1:Int)/\(1:Int)<=4)/\0<=(3:Int)/\(3:Int)<=1000)⟩ VD (.inl τ)
def end_1{L:LS}(h:J1 none L/\V1.nc<=L.tl/\(∀t,t<L.tl->(L.tk t).e=true)/\L.el<1000000):L.ou 0=⟨8,⟨1,7,[]⟩⟩/\L.el=2/\L.ev 1=⟨8,0,-1,2,0⟩:=by
 let⟨d,c,b,_⟩:=h;have a:=b 0 c;rcases d with ⟨_,rfl⟩|⟨e,_⟩|⟨_,rfl⟩|⟨e,_⟩|⟨_,rfl⟩
 .have e:((ko V1).tk 0).e=false:=ρ
  rw[e]at a;cases a
 .cases e
 .have e:(Y2.tk 0).e=false:=ρ
  rw[e]at a;cases a
 .cases e
 .exact⟨ρ,ρ,ρ⟩
abbrev oG(L:oF)(i:Nat):List Value:=[i6 (L i 0),i6 (L i 1),i6 (L i 2),i6 (L i 3),i6 (L i 4),i6 (L i 5)]
def iI(F:aB prog W (DX Ok) U)(o:HB B Ok){w:aj}(n lo d:Int)(m:Sat Ok w M)(a:B<=w.heap.size)(K:∀D,Sat Ok D M->w.heap.size<=D.heap.size->U (G (Z.finish (.bool (eB lo n d))) Y) D):U (G (Frame.enter prog 57 #[i6 lo,i6 n,i6 d] .normal) (Z::Y)) w:=by
 by_cases p:lo<=n
 .have j:decide (lo<=n)=true:=ξ
  refine cJ func57 m 15 λr s t q b c a l h=>ZI F o b c a l 16 [] 126 [] 6 (.bool (decide (n<=d))) 16 1 [] [] [(decide (lo<=n),true)] [] [] λf k g i=>?_;have e:eB lo n d=decide (n<=d):=by unfold eB;simp[p]
  rw[e]at K;exact K f k.sat ω
 .have j:decide (lo<=n)=false:=ξ
  refine cJ func57 m 15 λr s t q b c a l h=>ZI F o b c a l 16 [] 84 [] 6 (.bool false) 16 1 [] [] [(decide (lo<=n),false)] [] [] λf k g i=>?_;have e:eB lo n d=false:=by unfold eB;simp[p]
  rw[e]at K;exact K f k.sat ω
def F8(F:aB prog W (DX Ok) U)(h:HB B Ok){w:aj}(k a b c d e:Int)(hS:Sat Ok w M)(yQ:B<=w.heap.size)(K:∀D,Sat Ok D M->w.heap.size<=D.heap.size->U (G (Z.finish (.bool (aF k a b c d e))) Y) D):U (G (Frame.enter prog 40 #[.agg #[i6 k,i6 a,i6 b,i6 c,i6 d,i6 e]] .normal) (Z::Y)) w:=by
 by_cases k1:k=1
 .subst k1;refine cJ func40 hS 79 λbb a0 p hn f g l O L=>aq (λM=>bR (p) [i6 1,i6 a,i6 b,i6 c,i6 d,i6 e]::(M)) 1 F h f l O 22 [0,0,0,2] 7 [] [(8,i6 a),(1,ptr p)] 22 3 [] λa1 w1 t s J N o9=>ah F f s t 9 57 #[i6 1,i6 a,i6 9] λyS i=>iI F h a 1 9 t.sat ω λw2 h2 X=>i _ _ _ h2 λa2 B2 y j V=>?_;cases m:eB 1 a 9<;>rw[m]at y
  .refine UF F h f g j y 17 [] 349525 [] 2 (.bool false) 40 3 [] λI q u v=>?_;rw[show aF 1 a b c d e=false by simp[aF,m]]at K;exact K I q.sat.tail ω
  refine Rb F h f j y 3 [0,0,2,1] 31 [] [(12,i6 b),(10,.bool true),(1,ptr p)] 26 3 [] λa3 I q C u v mH=>ah F f C q 13 57 #[i6 0,i6 b,i6 1000] λDl o=>iI F h b 0 1000 q.sat ω λw4 h4 FO=>o _ _ _ h4 λa4 B4 E n Bj=>?_;cases r:eB 0 b 1000<;>rw[r]at E
  .refine UF F h f g n E 13 [] 5461 [] 2 (.bool false) 40 3 [] λH x z A=>?_;rw[show aF 1 a b c d e=false by simp[aF,m,r]]at K;exact K H x.sat.tail ω
  refine Rb F h f n E 4 [0,0,3,1] 31 [] [(17,i6 c),(15,.bool true),(1,ptr p)] 31 3 [] λa5 H x Yv z A qO=>ah F f Yv x 18 57 #[i6 1,i6 c,i6 9] λcf5 S=>iI F h c 1 9 x.sat ω λw6 h6 Hf=>S _ _ _ h6 λa6 B6 S6 Q YG=>?_;cases T:eB 1 c 9<;>rw[T]at S6
  .refine UF F h f g Q S6 8 [] 85 [] 2 (.bool false) 40 3 [] λw7 S7 OD YQ=>?_;rw[show aF 1 a b c d e=false by simp[aF,m,r,T]]at K;exact K w7 S7.sat.tail ω
  refine Rb F h f Q S6 4 [0,0,4,1] 31 [] [(22,i6 d),(20,.bool true)] 36 3 [] λa7 w7 S7 CI OD YQ DJ=>ah F f CI S7 23 57 #[i6 0,i6 d,i6 10000] λRU R=>iI F h d 0 10000 S7.sat ω λw8 h8 IV=>R _ _ _ h8 λa8 B8 S8 P FN=>?_;cases q4:eB 0 d 10000<;>rw[q4]at S8
  .refine UF F h f g P S8 3 [] 1 [] 2 (.bool false) 40 3 [] λw9 S9 Tl He=>?_;rw[show aF 1 a b c d e=false by simp[aF,m,r,T,q4]]at K;exact K w9 S9.sat.tail ω
  refine UF F h f g P S8 3 [] 1 [] 2 (.bool true) 40 3 [] λw9 S9 Tl He=>?_;rw[show aF 1 a b c d e=true by simp[aF,m,r,T,q4]]at K;exact K w9 S9.sat.tail ω
 have w:(k==1)=false:=ξ
 by_cases k2:k=2
 .subst k2;refine cJ func40 hS 79 λbb a0 p hn f g l O L=>bB (λM=>bR (p) [i6 2,i6 a,i6 b,i6 c,i6 d,i6 e]::(M)) 1 F h f g l O 28 [0,0,0,1] 29 [] 2 (.bool true) 28 6 [] λw1 t J N=>K w1 t.sat.tail ω
 have w:(k==2)=false:=ξ
 by_cases k3:k=3
 .subst k3;refine cJ func40 hS 79 λbb a0 p hn f g l O L=>aq (λM=>bR (p) [i6 3,i6 a,i6 b,i6 c,i6 d,i6 e]::(M)) 1 F h f l O 34 [0,0,0,2] 117 [] [(30,i6 a),(1,ptr p)] 34 12 [] λa1 w1 t s J N o9=>ah F f s t 31 57 #[i6 1,i6 a,i6 1000] λyS i=>iI F h a 1 1000 t.sat ω λw2 h2 X=>i _ _ _ h2 λa2 B2 y j V=>?_;cases m:eB 1 a 1000<;>rw[m]at y
  .refine UF F h f g j y 7 [] 85 [] 2 (.bool false) 42 12 [] λI q u v=>?_;rw[show aF 3 a b c d e=false by simp[aF,m]]at K;exact K I q.sat.tail ω
  refine Rb F h f j y 3 [0,0,2,1] 31 [] [(34,i6 b),(32,.bool true)] 38 12 [] λa3 I q C u v mH=>ah F f C q 35 57 #[i6 1,i6 b,i6 20] λDl o=>iI F h b 1 20 q.sat ω λw4 h4 FO=>o _ _ _ h4 λa4 B4 E n Bj=>?_;cases r:eB 1 b 20<;>rw[r]at E
  .refine UF F h f g n E 3 [] 1 [] 2 (.bool false) 42 12 [] λH x z A=>?_;rw[show aF 3 a b c d e=false by simp[aF,m,r]]at K;exact K H x.sat.tail ω
  refine UF F h f g n E 3 [] 1 [] 2 (.bool true) 42 12 [] λH x z A=>?_;rw[show aF 3 a b c d e=true by simp[aF,m,r]]at K;exact K H x.sat.tail ω
 have w:(k==3)=false:=ξ
 by_cases k4:k=4
 .subst k4;refine cJ func40 hS 79 λbb a0 p hn f g l O L=>aq (λM=>bR (p) [i6 4,i6 a,i6 b,i6 c,i6 d,i6 e]::(M)) 1 F h f l O 40 [0,0,0,2] 469 [] [(40,i6 a),(1,ptr p)] 40 24 [] λa1 w1 t s J N o9=>ah F f s t 41 57 #[i6 1,i6 a,i6 20] λyS i=>iI F h a 1 20 t.sat ω λw2 h2 X=>i _ _ _ h2 λa2 B2 y j V=>?_;cases m:eB 1 a 20<;>rw[m]at y
  .refine UF F h f g j y 24 [] 357913941 [] 2 (.bool false) 65 24 [] λI q u v=>?_;rw[show aF 4 a b c d e=false by simp[aF,m]]at K;exact K I q.sat.tail ω
  refine Rb F h f j y 5 [0,0,2,1,0,0,1,1] 511 [] [(46,i6 a),(42,.bool true),(44,i6 b),(1,ptr p)] 46 24 [] λa3 I q C u v mH=>ah F f C q 47 57 #[i6 1,i6 b,i6 a] λDl o=>iI F h b 1 a q.sat ω λw4 h4 FO=>o _ _ _ h4 λa4 B4 E n Bj=>?_;cases r:eB 1 b a<;>rw[r]at E
  .refine UF F h f g n E 18 [] 349525 [] 2 (.bool false) 65 24 [] λH x z A=>?_;rw[show aF 4 a b c d e=false by simp[aF,m,r]]at K;exact K H x.sat.tail ω
  refine Rb F h f n E 4 [0,0,3,1] 31 [] [(51,i6 c),(49,.bool true),(1,ptr p)] 51 24 [] λa5 H x Yv z A qO=>ah F f Yv x 52 57 #[i6 1,i6 c,i6 100] λcf5 S=>iI F h c 1 100 x.sat ω λw6 h6 Hf=>S _ _ _ h6 λa6 B6 S6 Q YG=>?_;cases T:eB 1 c 100<;>rw[T]at S6
  .refine UF F h f g Q S6 13 [] 5461 [] 2 (.bool false) 65 24 [] λw7 S7 OD YQ=>?_;rw[show aF 4 a b c d e=false by simp[aF,m,r,T]]at K;exact K w7 S7.sat.tail ω
  refine Rb F h f Q S6 4 [0,0,4,1] 31 [] [(56,i6 d),(54,.bool true),(1,ptr p)] 56 24 [] λa7 w7 S7 CI OD YQ DJ=>ah F f CI S7 57 57 #[i6 0,i6 d,i6 1000] λRU R=>iI F h d 0 1000 S7.sat ω λw8 h8 IV=>R _ _ _ h8 λa8 B8 S8 P FN=>?_;cases q4:eB 0 d 1000<;>rw[q4]at S8
  .refine UF F h f g P S8 8 [] 85 [] 2 (.bool false) 65 24 [] λw9 S9 Tl He=>?_;rw[show aF 4 a b c d e=false by simp[aF,m,r,T,q4]]at K;exact K w9 S9.sat.tail ω
  refine Rb F h f P S8 4 [0,0,5,1] 31 [] [(61,i6 e),(59,.bool true)] 61 24 [] λw w9 S9 w Tl He B=>ah F f w S9 62 57 #[i6 1,i6 e,i6 9] λw w=>iI F h e 1 9 S9.sat ω λB B G=>w _ _ _ B λw w yU Zl w=>?_;cases q5:eB 1 e 9<;>rw[q5]at yU
  .refine UF F h f g Zl yU 3 [] 1 [] 2 (.bool false) 65 24 [] λw B G P=>?_;rw[show aF 4 a b c d e=false by simp[aF,m,r,T,q4,q5]]at K;exact K w B.sat.tail ω
  refine UF F h f g Zl yU 3 [] 1 [] 2 (.bool true) 65 24 [] λw B G P=>?_;rw[show aF 4 a b c d e=true by simp[aF,m,r,T,q4,q5]]at K;exact K w B.sat.tail ω
 have w:(k==4)=false:=ξ
 by_cases k5:k=5
 .subst k5;refine cJ func40 hS 79 λbb a0 p hn f g l O L=>aq (λM=>bR (p) [i6 5,i6 a,i6 b,i6 c,i6 d,i6 e]::(M)) 1 F h f l O 46 [0,0,0,2] 1877 [] [(67,i6 a),(1,ptr p)] 46 48 [] λa1 w1 t s J N o9=>ah F f s t 68 57 #[i6 1,i6 a,i6 9] λyS i=>iI F h a 1 9 t.sat ω λw2 h2 X=>i _ _ _ h2 λa2 B2 y j V=>?_;cases m:eB 1 a 9<;>rw[m]at y
  .refine UF F h f g j y 7 [] 85 [] 2 (.bool false) 54 48 [] λI q u v=>?_;rw[show aF 5 a b c d e=false by simp[aF,m]]at K;exact K I q.sat.tail ω
  refine Rb F h f j y 3 [0,0,2,1] 31 [] [(71,i6 b),(69,.bool true)] 50 48 [] λa3 I q C u v mH=>ah F f C q 72 57 #[i6 0,i6 b,i6 1000] λDl o=>iI F h b 0 1000 q.sat ω λw4 h4 FO=>o _ _ _ h4 λa4 B4 E n Bj=>?_;cases r:eB 0 b 1000<;>rw[r]at E
  .refine UF F h f g n E 3 [] 1 [] 2 (.bool false) 54 48 [] λH x z A=>?_;rw[show aF 5 a b c d e=false by simp[aF,m,r]]at K;exact K H x.sat.tail ω
  refine UF F h f g n E 3 [] 1 [] 2 (.bool true) 54 48 [] λH x z A=>?_;rw[show aF 5 a b c d e=true by simp[aF,m,r]]at K;exact K H x.sat.tail ω
 have n:(k==5)=false:=ξ
 by_cases hk:k=6
 .subst hk;refine cJ func40 hS 79 λbb a0 p hn f g l O L=>aq (λM=>bR (p) [i6 6,i6 a,i6 b,i6 c,i6 d,i6 e]::(M)) 1 F h f l O 52 [0,0,0,2] 7509 [] [(77,i6 a)] 52 96 [] λa1 w1 t s J N o9=>ah F f s t 78 57 #[i6 1,i6 a,i6 1000] λyS i=>iI F h a 1 1000 t.sat ω λw2 h2 X=>i _ _ _ h2 λa2 B2 y j V=>UF F h f g j y 2 [] 1 [] 2 (.bool (eB 1 a 1000)) 55 96 [] λI q u v=>?_;rw[show aF 6 a b c d e=eB 1 a 1000 by simp[aF]]at K;exact K I q.sat.tail ω
 have i:(k==6)=false:=ξ
 refine cJ func40 hS 79 λbb a0 p hn f g l O L=>oH (λM=>bR (p) [i6 k,i6 a,i6 b,i6 c,i6 d,i6 e]::(M)) 1 F h f g l O 54 [0,0,0,1] 4096 [] 2 (.bool false) 54 64 [] [] [(k==6,false),(k==5,false),(k==4,false),(k==3,false),(k==2,false),(k==1,false)] [] [] λw1 t J N=>?_;have e:aF k a b c d e=false:=by simp only[aF,af k1,af k2,af k3,af k4,af k5,af hk]
 rw[e]at K;exact K w1 t.sat.tail ω
def IG(F:aB prog W (DX Ok) U)(d:HB B Ok){A:aC}(b:A.kind=.normal)(c:A.fn=41){Z:aC}{Y:cO}{M:aW}{s:eP}{n k:Nat}{T:oF}(N:n<=12)(l:0<n->∃a,s=some a){B1:Nat}(y:B<=B1):
 ∀(m i:Nat)(q:Act)(w:aj)(f:Nat),i+m=n->q.defers=[]->B1<=f->w.heap.size=f->St Ok f 33 [(18,i6 i),(17,i6 n),(16,.slice s n k)] (fR (s.getD ⟨0,0,none⟩) 3 (λj=>[i6 (T j 0),i6 (T j 1),i6 (T j 2)]) n false::M) 0 q w->
   (∀D,Sat Ok D M->w.heap.size<=D.heap.size->U (G (Z.finish (.bool (lQ T m i))) Y) D)->U (G (A.at q (pc prog 41 31 [false] [])) (Z::Y)) w
 |0,i,q,w,f,O,h,z,v,H,K=>by
  have a:decide ((i:Int)<(n:Int))=false:=θ
  refine ZI F d b c h H 11 [] 4 [] 2 (.bool true) 42 4 [] [] [(decide ((↑i:Int)<(↑n:Int)),false)] [] [] λI r t x=>K I r.sat.tail ω
 |m+1,i,q,w,f,O,h,z,v,H,K=>by
  obtain⟨u,rfl⟩:=l ω;have e:lQ T (m+1) i=(eB 1 (T i 0) 4&&eB 0 (T i 2) 1000&&lQ T m (i+1)):=rfl;rw[e]at K;refine aX (λM=>bR (f) [i6 (T i 0),i6 (T i 1),i6 (T i 2)]::(M)) 1 F d b h H 20 [0,i,0,103,0,0,0,3,0,0,0,1] 26 [] [(23,i6 (T i 0)),(4,ptr f),(18,i6 i),(17,i6 n),(16,.slice (some u) n k)] 51 6 [] [] [(decide ((↑i:Int)<(↑n:Int)),true)] [((↑i:Int),n)] [(3,(i,n))] λa I r a t x e=>ah F b a r 24 57 #[i6 1,i6 (T i 0),i6 4] λa a=>iI F d (T i 0) 1 4 r.sat ω λe h e=>a _ _ _ h λa a E p a=>?_;cases L:eB 1 (T i 0) 4<;>rw[L]at E K
  .refine UF F d b c p E 13 [] 2047 [] 2 (.bool false) 65 14 [] λj e a h=>K j e.sat.tail.tail ω
  refine Rb F d b p E 4 [0,0,2,1] 21 [] [(28,i6 (T i 2)),(26,.bool false),(27,.pointer (some (Addr.mk f 2 none))),(18,i6 i),(17,i6 n),(16,.slice (some u) n k)] 56 6 [] λp j e j a h a=>ah F b j e 29 57 #[i6 0,i6 (T i 2),i6 1000] λa a=>iI F d (T i 2) 0 1000 e.sat ω λe h e=>a _ _ _ h λa P C o a=>?_;cases J:eB 0 (T i 2) 1000<;>rw[J]at C K
  .refine UF F d b c o C 8 [] 29 [] 2 (.bool false) 65 14 [] λa g e h=>K a g.sat.tail.tail ω
  have j:wp i=((i+1:Nat):Int):=j6;refine Rb F d b o C 11 [] 21 [] [(18,i6 (wp i)),(30,.bool false),(29,.bool true),(28,i6 (T i 2)),(27,.pointer (some (Addr.mk f 2 none))),(17,i6 n),(16,.slice (some u) n k)] 68 10 [] λo a g f e h e=>?_;rw[j]at g;replace g:=g.dB [(18,i6 ((i+1:Nat):Int)),(17,i6 n),(16,.slice (some u) n k)] rfl;rw[show pc prog 41 68 (Bo 10) []=pc prog 41 31 [false] [] by kernel_rfl];exact IG F d b c N l y m (i+1) o a P ω f ω ω ⟨g.env,g.sat.tail,g.sz⟩ λD a b=>K D a ω
def NJ(F:aB prog W (DX Ok) U)(g:HB B Ok){w:aj}{st:Int}{f:eP}{k:Nat}{T:oF}(h:0<n->∃a,f=some a/\Has M (fR a 3 (λj=>[i6 (T j 0),i6 (T j 1),i6 (T j 2)]) n false))(l:Sat Ok w M)(a:B<=w.heap.size)(K:∀D,Sat Ok D M->w.heap.size<=D.heap.size->U (G (Z.finish (.bool (iF st n T))) Y) D):U (G (Frame.enter prog 41 #[.agg #[i6 st,.slice f n k]] .normal) (Z::Y)) w:=by
 replace l:Sat Ok w (fR (f.getD ⟨0,0,none⟩) 3 (λj=>[i6 (T j 0),i6 (T j 1),i6 (T j 2)]) n false::M):=by
  by_cases z:0<n
  .obtain⟨u,rfl,i⟩:=h z;exact l.get i
  .exact l.qj ξ rfl
 refine cJ func41 l 33 λa a h a b e a j i=>aq (λM=>bR (h) [i6 st,.slice f n k]::(M)) 1 F g b a j 10 [0,0,0,1] 1 [] [(6,i6 st),(1,ptr h)] 10 1 [] λa a h a i i i=>ah F b a h 7 57 #[i6 0,i6 st,i6 1000] λa a=>iI F g st 0 1000 h.sat ω λh i h=>a _ _ _ i λa o m d a=>?_;unfold iF at K;cases q:eB 0 st 1000<;>rw[q]at m K
 .refine UF F g b e d m 13 [] 2047 [] 2 (.bool false) 24 3 [] λa c h i=>K a c.sat.tail.tail ω
 by_cases p:n<=12
 .have j:decide ((n:Int)>12)=false:=θ
  rw[show decide (12<n)=false by simp;omega]at K;refine TP F g b d m 20 [0,0,1,1,0,0,1,1] 1109 [] [(18,i6 0),(17,i6 n),(16,.slice f n k)] 31 2 [] [] [(decide ((↑n:Int)>12),false)] [] [] λs a c j h i r=>?_;replace c:=c.dB [(18,i6 ((0:Nat):Int)),(17,i6 n),(16,.slice f n k)] rfl;exact IG F g b e p (λz=>χ) (B1:=o) ω n 0 s a o (bK _) j (az _) ω ⟨c.env,c.sat.tail,c.sz⟩ λD f j=>K D f ω
 .rw[show decide (12<n)=true by simp;omega]at K;refine ZI F g b e d m 13 [0,0,1,1] 1621 [] 2 (.bool false) 24 3 [] [] [(decide ((↑n:Int)>12),true)] [] [] λa c h i=>K a c.sat.tail.tail ω
def KZ(F:aB prog W (DX Ok) U)(h:HB B Ok){y:aC}(b:y.kind=.normal)(f:y.fn=27){Z:aC}{Y:cO}{M:aW}{sa:eP}{n cap:Nat}{g:Nat->Cl}(L:n<=9)(l:0<n->∃a,sa=some a)(I:∀j,j<n->0<(g j).nt->∃a,(g j).ta=some a/\Has M (fR a 3 (λi=>[i6 ((g j).T i 0),i6 ((g j).T i 1),i6 ((g j).T i 2)]) (g j).nt false)):
 ∀(m i:Nat)(p:Act)(w:aj)(k:Nat),i+m=n->p.defers=[]->B<=k->w.heap.size=k->St Ok k 19 [(7,i6 i),(6,i6 n),(5,.slice sa n cap),(0,.slice sa n cap)] (fR (sa.getD ⟨0,0,none⟩) 2 (λj=>[i6 (g j).st,.slice (g j).ta (g j).nt (g j).tc]) n false::M) 0 p w->
   (∀D,Sat Ok D M->w.heap.size<=D.heap.size->U (G (Z.finish (i6 (fY g m i))) Y) D)->U (G (y.at p (pc prog 27 13 [] [])) (Z::Y)) w
 |0,i,p,w,k,N,d,x,t,C,K=>by
  have j:decide ((i:Int)<(n:Int))=false:=θ
  have e:fY g 0 i=n:=by show i=n;omega
  rw[e]at K;refine ZI F h b f d C 13 [] 4 [] 2 (i6 n) 26 2 [] [] [(decide ((↑i:Int)<(↑n:Int)),false)] [] [] λH q s v=>K H q.sat.tail ω
 |m+1,i,p,w,k,N,d,x,t,C,K=>by
  obtain⟨u,rfl⟩:=l ω;refine aX (λM=>bR (k) [i6 (g i).st,.slice (g i).ta (g i).nt (g i).tc]::(M)) 1 F h b d C 21 [0,i,0,102,0,0,0,2,0,0,0,2] 26 [] [(12,.agg #[i6 (g i).st,.slice (g i).ta (g i).nt (g i).tc]),(3,i6 i),(7,i6 i),(6,i6 n),(5,.slice (some u) n cap),(0,.slice (some u) n cap)] 34 3 [] [] [(decide ((↑i:Int)<(↑n:Int)),true)] [((↑i:Int),n)] [(2,(i,n))] λd H q d s v j=>ah F b d q 13 41 #[.agg #[i6 (g i).st,.slice (g i).ta (g i).nt (g i).tc]] λd d=>?_;have j:=I i ω;refine NJ F h (λz=>by let⟨a,r,E⟩:=j z;exact⟨a,r,E.cons.cons⟩) q.sat ω λa j a=>d _ _ _ j λa O A o a=>?_;have e:fY g (m+1) i=if iF (g i).st (g i).nt (g i).T=false then i else fY g m (i+1):=rfl;rw[e]at K;cases J:iF (g i).st (g i).nt (g i).T<;>rw[J]at A K
  .refine UF F h b f o A 8 [] 7 [] 2 (i6 i) 43 7 [] λa c d e=>K a c.sat.tail.tail ω
  have j:IntKind.wrap .i64 ((i:Int)+1)=((i+1:Nat):Int):=by rw[aA ω ω];rfl
  refine Rb F h b o A 10 [] 5 [] [(7,i6 (IntKind.wrap .i64 ((↑i:Int)+1))),(6,i6 n),(5,.slice (some u) n cap),(0,.slice (some u) n cap)] 45 5 [] λk a c g d e d=>?_;rw[j]at c;replace c:=c.dB [(7,i6 ((i+1:Nat):Int)),(6,i6 n),(5,.slice (some u) n cap),(0,.slice (some u) n cap)] rfl;rw[show pc prog 27 45 (Bo 5) []=pc prog 27 13 [] [] by kernel_rfl];exact KZ F h b f L l I m (i+1) k a O ω g ω ω ⟨c.env,c.sat.tail,c.sz⟩ λD r E=>K D r ω
def Ge(F:aB prog W (DX Ok) U)(f:HB B Ok){bb:aC}(b:bb.kind=.normal)(d:bb.fn=26){Z:aC}{Y:cO}{M:aW}{sL:eP}{n cap:Nat}{L:oF}(hn:n<=6)(v:0<n->∃a,sL=some a):
 ∀(m i:Nat)(r:Int)(I:Act)(w:aj)(l:Nat),i+m=n->0<=r->r<=2->I.defers=[]->B<=l->w.heap.size=l->St Ok l 29 [(8,i6 i),(7,i6 n),(6,.slice sL n cap),(3,i6 r),(0,.slice sL n cap)] (fR (sL.getD ⟨0,0,none⟩) 6 (oG L) n false::M) 0 I w->
   (∀D,Sat Ok D M->w.heap.size<=D.heap.size->U (G (Z.finish (i6 (cZ L m i r))) Y) D)->U (G (bb.at I (pc prog 26 17 [] [])) (Z::Y)) w
 |0,i,r,I,w,l,hi,V,hr,h,Rg,P,J,K=>by
  have g1:decide ((i:Int)<(n:Int))=false:=θ
  have e:cZ L 0 i r=n:=by show i=n;omega
  rw[e]at K;refine ZI F f b d h J 13 [] 4 [] 2 (i6 n) 30 2 [] [] [(decide ((↑i:Int)<(↑n:Int)),false)] [] [] λC k q t=>K C k.sat.tail ω
 |m+1,i,r,I,w,l,hi,V,hr,h,Rg,P,J,K=>by
  have g1:decide ((i:Int)<(n:Int))=true:=θ
  obtain⟨u,rfl⟩:=v ω;have e:cZ L (m+1) i r=if 2<(if L i 0=1 then r+1 else r)\/aF (L i 0) (L i 1) (L i 2) (L i 3) (L i 4) (L i 5)=false then i else cZ L m (i+1) (if L i 0=1 then r+1 else r):=rfl;rw[e]at K;have hw:IntKind.wrap .i64 ((i:Int)+1)=((i+1:Nat):Int):=by rw[aA ω ω];rfl
  have R:IntKind.wrap .i64 (r+1)=r+1:=aA ω ω;by_cases H:L i 0=1
  .have E:(L i 0==1)=true:=ξ
   rw[sJ H]at K;by_cases T:r=2
   .subst T;rw[sJ (.inl δ)]at K;refine oH (λM=>bR (l) [i6 (L i 0),i6 (L i 1),i6 (L i 2),i6 (L i 3),i6 (L i 4),i6 (L i 5)]::(M)) 1 F f b d h J 47 [0,i,0,106,0,0,0,6,0,0,0,1] 32746 [] 2 (i6 i) 64 15 [] [] [(L i 0==1,true),(decide ((↑i:Int)<(↑n:Int)),true)] [((↑i:Int),n)] [(6,(i,n))] λC k q t=>K C k.sat.tail.tail ω
   have a:decide (r+1>2)=false:=θ
   have S:decide (IntKind.wrap .i64 (r+1)>2)=false:=ξ
   refine aX (λM=>bR (l) [i6 (L i 0),i6 (L i 1),i6 (L i 2),i6 (L i 3),i6 (L i 4),i6 (L i 5)]::(M)) 1 F f b h J 37 [0,i,0,106,0,0,0,6,0,0,0,1,0,0,0,6] 298 [] [(21,.agg #[i6 (L i 0),i6 (L i 1),i6 (L i 2),i6 (L i 3),i6 (L i 4),i6 (L i 5)]),(20,.bool false),(3,i6 (IntKind.wrap .i64 (r+1))),(4,i6 i),(8,i6 i),(7,i6 n),(6,.slice (some u) n cap),(0,.slice (some u) n cap)] 54 7 [] [] [(decide (IntKind.wrap .i64 (r+1)>2),false),(L i 0==1,true),(decide ((↑i:Int)<(↑n:Int)),true)] [((↑i:Int),n)] [(6,(i,n))] λa1 C k y q t o9=>ah F b y k 22 40 #[.agg #[i6 (L i 0),i6 (L i 1),i6 (L i 2),i6 (L i 3),i6 (L i 4),i6 (L i 5)]] λyS j=>F8 F f (L i 0) (L i 1) (L i 2) (L i 3) (L i 4) (L i 5) k.sat ω λw2 z Q=>j _ _ _ z λa2 B3 A g O=>?_;cases X:aF (L i 0) (L i 1) (L i 2) (L i 3) (L i 4) (L i 5)<;>rw[X]at A K
   .rw[sJ (.inr rfl)]at K;refine UF F f b d g A 9 [] 29 [] 2 (i6 i) 64 15 [] λo c p s=>K o c.sat.tail.tail ω
   rw[af ξ]at K;refine Rb F f b g A 11 [] 21 [] [(8,i6 (IntKind.wrap .i64 ((↑i:Int)+1))),(23,.bool false),(22,.bool true),(21,.agg #[i6 (L i 0),i6 (L i 1),i6 (L i 2),i6 (L i 3),i6 (L i 4),i6 (L i 5)]),(3,i6 (IntKind.wrap .i64 (r+1))),(7,i6 n),(6,.slice (some u) n cap),(0,.slice (some u) n cap)] 66 11 [] λa3 o c x p s mH=>?_;rw[hw,R]at c;replace c:=c.dB [(8,i6 ((i+1:Nat):Int)),(7,i6 n),(6,.slice (some u) n cap),(3,i6 (r+1)),(0,.slice (some u) n cap)] rfl;rw[show pc prog 26 66 (Bo 11) []=pc prog 26 17 [] [] by kernel_rfl];exact Ge F f b d hn v m (i+1) (r+1) a3 o B3 ω ω ω x ω ω ⟨c.env,c.sat.tail,c.sz⟩ λD N z2=>K D N ω
  .have E:(L i 0==1)=false:=ξ
   rw[af H]at K;have S:decide (r>2)=false:=θ
   refine aX (λM=>bR (l) [i6 (L i 0),i6 (L i 1),i6 (L i 2),i6 (L i 3),i6 (L i 4),i6 (L i 5)]::(M)) 1 F f b h J 33 [0,i,0,106,0,0,0,6,0,0,0,1,0,0,0,6] 266 [] [(21,.agg #[i6 (L i 0),i6 (L i 1),i6 (L i 2),i6 (L i 3),i6 (L i 4),i6 (L i 5)]),(20,.bool false),(4,i6 i),(8,i6 i),(7,i6 n),(6,.slice (some u) n cap),(3,i6 r),(0,.slice (some u) n cap)] 50 5 [] [] [(decide (r>2),false),(L i 0==1,false),(decide ((↑i:Int)<(↑n:Int)),true)] [((↑i:Int),n)] [(6,(i,n))] λa1 C k y q t o9=>ah F b y k 22 40 #[.agg #[i6 (L i 0),i6 (L i 1),i6 (L i 2),i6 (L i 3),i6 (L i 4),i6 (L i 5)]] λyS j=>F8 F f (L i 0) (L i 1) (L i 2) (L i 3) (L i 4) (L i 5) k.sat ω λw2 z Q=>j _ _ _ z λa2 B3 A g O=>?_;cases X:aF (L i 0) (L i 1) (L i 2) (L i 3) (L i 4) (L i 5)<;>rw[X]at A K
   .rw[sJ (.inr rfl)]at K;refine UF F f b d g A 9 [] 29 [] 2 (i6 i) 60 13 [] λo c p s=>K o c.sat.tail.tail ω
   rw[af ξ]at K;refine Rb F f b g A 11 [] 21 [] [(8,i6 (IntKind.wrap .i64 ((↑i:Int)+1))),(23,.bool false),(22,.bool true),(21,.agg #[i6 (L i 0),i6 (L i 1),i6 (L i 2),i6 (L i 3),i6 (L i 4),i6 (L i 5)]),(7,i6 n),(6,.slice (some u) n cap),(3,i6 r),(0,.slice (some u) n cap)] 62 9 [] λa3 o c x p s mH=>?_;rw[hw]at c;replace c:=c.dB [(8,i6 ((i+1:Nat):Int)),(7,i6 n),(6,.slice (some u) n cap),(3,i6 r),(0,.slice (some u) n cap)] rfl;rw[show pc prog 26 62 (Bo 9) []=pc prog 26 17 [] [] by kernel_rfl];exact Ge F f b d hn v m (i+1) r a3 o B3 ω ω ω x ω ω ⟨c.env,c.sat.tail,c.sz⟩ λD N z2=>K D N ω
def Rj(F:aB prog W (DX Ok) U)(f:HB B Ok){w:aj}{L:oF}(i:n<=6)(c:0<n->∃a,sL=some a/\Has M (fR a 6 (oG L) n false))(b:Sat Ok w M)(a:B<=w.heap.size)(K:∀D,Sat Ok D M->w.heap.size<=D.heap.size->U (G (Z.finish (i6 (cZ L n 0 0))) Y) D):U (G (Frame.enter prog 26 #[.slice sL n cap] .normal) (Z::Y)) w:=by
 replace b:Sat Ok w (fR (sL.getD ⟨0,0,none⟩) 6 (oG L) n false::M):=by
  by_cases z:0<n
  .obtain⟨u,rfl,d⟩:=c z;exact b.get d
  .exact b.qj ξ rfl
 refine cJ func26 b 29 λa a k a a d c h g=>Rb F f a c h 17 [] 1 [] [(8,i6 0),(7,i6 n),(6,.slice sL n cap),(3,i6 0),(0,.slice sL n cap)] 17 1 [] λj g e c h h h=>?_;replace e:=e.dB [(8,i6 ((0:Nat):Int)),(7,i6 n),(6,.slice sL n cap),(3,i6 0),(0,.slice sL n cap)] rfl;exact Ge F f a d i (λz=>χ) n 0 0 j g k (bK _) ω ω c ω ω e λD a c=>K D a ω
def Rk(F:aB prog W (DX Ok) U)(f:HB B Ok){w:aj}{g:Nat->Cl}(l:n<=9)(d:0<n->∃a,sa=some a/\Has M (fR a 2 (λj=>[i6 (g j).st,.slice (g j).ta (g j).nt (g j).tc]) n false))(k:∀j,j<n->0<(g j).nt->∃a,(g j).ta=some a/\Has M (fR a 3 (λi=>[i6 ((g j).T i 0),i6 ((g j).T i 1),i6 ((g j).T i 2)]) (g j).nt false))(b:Sat Ok w M)(a:B<=w.heap.size)(K:∀D,Sat Ok D M->w.heap.size<=D.heap.size->U (G (Z.finish (i6 (fY g n 0))) Y) D):U (G (Frame.enter prog 27 #[.slice sa n cap] .normal) (Z::Y)) w:=by
 replace b:Sat Ok w (fR (sa.getD ⟨0,0,none⟩) 2 (λj=>[i6 (g j).st,.slice (g j).ta (g j).nt (g j).tc]) n false::M):=by
  by_cases z:0<n
  .obtain⟨u,rfl,c⟩:=d z;exact b.get c
  .exact b.qj ξ rfl
 refine cJ func27 b 19 λa a j a a d c h g=>Rb F f a c h 13 [] 1 [] [(7,i6 0),(6,i6 n),(5,.slice sa n cap),(0,.slice sa n cap)] 13 1 [] λi g e c h h h=>?_;replace e:=e.dB [(7,i6 ((0:Nat):Int)),(6,i6 n),(5,.slice sa n cap),(0,.slice sa n cap)] rfl;exact KZ F f a d l (λz=>χ) k n 0 i g j (bK _) c ω ω e λD a c=>K D a ω
def r8(F:aB prog W (DX Ok) U)(d:HB B Ok){w:aj}{L:oF}{g:Nat->Cl}(s:0<n->∃a,sL=some a/\Has M (fR a 6 (oG L) n false))(u:0<m->∃a,sa=some a/\Has M (fR a 2 (λj=>[i6 (g j).st,.slice (g j).ta (g j).nt (g j).tc]) m false))(t:∀j,j<m->0<(g j).nt->∃a,(g j).ta=some a/\Has M (fR a 3 (λi=>[i6 ((g j).T i 0),i6 ((g j).T i 1),i6 ((g j).T i 2)]) (g j).nt false))(p:Sat Ok w M)(a:B<=w.heap.size)(K:∀D,Sat Ok D M->w.heap.size<=D.heap.size->U (G (Z.finish (.tuple #[i6 (jG n L m g).1,i6 (jG n L m g).2])) Y) D):U (G (Frame.enter prog 16 #[.slice sL n cA,.slice sa m cap] .normal) (Z::Y)) w:=by
 unfold jG at K;by_cases q:6<n
 .have a:decide ((n:Int)>6)=true:=θ
  rw[sJ q]at K;refine cJ func16 p 28 λv x y r a b e l i=>TP F d a e l 18 [] 6 [] [(5,i6 0),(4,i6 1)] 18 3 [] [] [(decide ((↑n:Int)>6),true)] [] [] λw o f c h j k=>cC F f a b c [] (.tuple #[i6 1,i6 0]) ?_;exact K o f.sat ω
 rw[af q]at K;refine cJ func16 p 28 λv x y r a b e l i=>TP F d a e l 18 [] 4 [] [(11,.slice sL n cA),(0,.slice sL n cA),(1,.slice sa m cap)] 18 2 [] [] [(decide ((↑n:Int)>6),false)] [] [] λw o f c h j k=>ah F a c f 12 26 #[.slice sL n cA] λc c=>Rj F d ω s f.sat ω λe f e=>c _ _ _ f λc c o f c=>?_;by_cases p:cZ L n 0 0<n
 .have l:decide (((cZ L n 0 0:Nat):Int)<(n:Int))=true:=ξ
  rw[sJ p]at K;refine TP F d a f o 16 [] 6 [] [(5,i6 (↑(cZ L n 0 0):Int)),(4,i6 2)] 35 6 [] [] [(decide ((↑(cZ L n 0 0):Int)<(↑n:Int)),true)] [] [] λq k e c h i j=>cC F e a b c [] (.tuple #[i6 2,i6 (↑(cZ L n 0 0):Int)]) ?_;exact K k e.sat ω
 have l:decide (((cZ L n 0 0:Nat):Int)<(n:Int))=false:=ξ
 rw[af p]at K;by_cases l:9<m
 .have p:decide ((m:Int)>9)=true:=θ
  rw[sJ l]at K;refine TP F d a f o 24 [] 24 [] [(5,i6 0),(4,i6 3)] 43 12 [] [] [(decide ((↑m:Int)>9),true),(decide ((↑(cZ L n 0 0):Int)<(↑n:Int)),false)] [] [] λq k e c h i j=>cC F e a b c [] (.tuple #[i6 3,i6 0]) ?_;exact K k e.sat ω
 rw[af l]at K;refine TP F d a f o 24 [] 16 [] [(21,.slice sa m cap),(1,.slice sa m cap)] 43 8 [] [] [(decide ((↑m:Int)>9),false),(decide ((↑(cZ L n 0 0):Int)<(↑n:Int)),false)] [] [] λq k e c h i j=>ah F a c e 22 27 #[.slice sa m cap] λc c=>Rk F d ω u t e.sat ω λe f e=>c _ _ _ f λc c o e c=>?_;by_cases h:fY g m 0<m
 .have f:decide (((fY g m 0:Nat):Int)<(m:Int))=true:=ξ
  rw[sJ h]at K;refine TP F d a e o 16 [] 6 [] [(5,i6 (↑(fY g m 0):Int)),(4,i6 4)] 60 24 [] [] [(decide ((↑(fY g m 0):Int)<(↑m:Int)),true)] [] [] λp j i c k l n=>cC F i a b c [] (.tuple #[i6 4,i6 (↑(fY g m 0):Int)]) ?_;exact K j i.sat ω
 have f:decide (((fY g m 0:Nat):Int)<(m:Int))=false:=ξ
 rw[af h]at K;refine TP F d a e o 16 [] 4 [] [(5,i6 0),(4,i6 0)] 60 16 [] [] [(decide ((↑(fY g m 0):Int)<(↑m:Int)),false)] [] [] λp j i c k l n=>cC F i a b c [] (.tuple #[i6 0,i6 0]) ?_;exact K j i.sat ω
def bkU(Z:aW)(alt:List (Nat×List Hint))(F:aB P W (DX Ok) U)(Nd:P.follows .mixedOrders=true)(hB:HB B Ok){b:aC}(hk:b.kind=.normal){f g:Nat}{d:iy}{c:aN}(q:Nat)(T:List Hint)(V:iK)(C E2:Env){E:Env}(cY:iK)(X:List (Int×Nat))(A:List (Nat×Nat))(x:List Hint)(ed:List aH->List aH)(dx:Nat)(vx:ay){a:Act}{ds:wN}(hd:a.defers=ds){w:aj}(ht:mP (pc P f g d c)=true)(r:((aL (pc P f g d c))[q]?).map (λo=>o.guard.isNone&&o.dst.isNone)=some true)(m:((aL (pc P f g d c))[q+1]?).map (λo=>o.guard.isNone&&!lN o&&o.op.operands.all (kn []))=some true)(j:((aL (pc P f g d c))[q+1]?).map (λo=>(o.dst,cV P (execOp (ev []) o)))=some (some dx,some (.value vx)))(h:J6 P Z alt (aL (pc P f g d c)) q E M 0 0 (C.map Prod.fst) (E2.map Prod.fst) [] (ux P B N E M 0 T V (aL (pc P f g d c)) q)=some (⟨C.map (λp=>some p.2),E2.map (λp=>some p.2),M,0,cY,X,A,true⟩,[],true))(hq:K5 Prod.fst (ux P B N E M 0 T V (aL (pc P f g d c)) q)=K5 Prod.snd (ux P B N E M 0 T V (aL (pc P f g d c)) q))(halt:tT P (aL (pc P f g d c)) Z alt true (ux P B N E M 0 T V (aL (pc P f g d c)) q)=tT P (aL (pc P f g d c)) Z alt false (ux P B N E M 0 T V (aL (pc P f g d c)) q))(i:(MF P B C (((aL (pc P f g d c))[q]?).getD default) ⟨[],⟨x,M,0,[],[]⟩,[],[],[]⟩).map (λp=>(p.1,p.2.m.M,p.2.m.c,p.2.m.cW,p.2.cY,p.2.eK))=some (.tuple #[],ed M,0,[],[],[]))(n:(MF P B C (((aL (pc P f g d c))[q]?).getD default) ⟨[],⟨x,M,0,[],[]⟩,[],[],[]⟩).map (λp=>p.2.m.eqs.map Prod.fst)=(MF P B C (((aL (pc P f g d c))[q]?).getD default) ⟨[],⟨x,M,0,[],[]⟩,[],[],[]⟩).map (λp=>p.2.m.eqs.map Prod.snd))(UU:.inRegion (aL (pc P f g d c)) (bP (q+2) ((aL (pc P f g d c)).size-(q+2)))::behind (pc P f g d c)=pc P f (g+1) d (c++[q+2]))(KN:∀p∈cY,p.1=p.2)(Vo:∀p∈X,0<=p.1/\p.1<(p.2:Int))(VE:∀p∈A,p.1<p.2)(hZ:∀w,Sat Ok w (ed M)->Sat Ok w Z)(S:St Ok B N E M 0 a w)(K:∀a' D,St Ok B N ((dx,vx)::E2) (ed M) 0 a' D->a'.defers=ds->D.heap.size=B->U (G (b.at a' (pc P f (g+1) d (c++[q+2]))) Y) D):U (G (b.at a (pc P f g d c)) Y) w:=by
 have Nh:b.kind≠.early:=ξ
 have J:∃id,pc P f g d c=.code (.region id (aL (pc P f g d c)) true)::behind (pc P f g d c):=by
  unfold mP at ht;split at ht
  .rename_i e;rw[e];exact⟨_,rfl⟩
  .cases ht
 let⟨id,J⟩:=J;rw[J];generalize UY:aL (pc P f g d c)=I at*;generalize QX:behind (pc P f g d c)=k at*;cases ho:I[q]? with
 |none=>rw[ho]at r;cases r
 |some o=>
 cases O:I[q+1]? with
 |none=>rw[O]at m;cases m
 |some ox=>
 rw[ho]at r i n;rw[O]at m j;simp only[cQ]at i n;simp only[fI,Option.some.injEq,bZ,Option.isNone_iff_eq_none,mA,Prod.mk.injEq]at r m j;let⟨hg,Nl⟩:=r;let⟨⟨Uw,Qb⟩,UM⟩:=m;let⟨j,Uu⟩:=j;cases L:ux P B N E M 0 T V I q with
 |none=>rw[L]at h;cases h
 |some rr=>
  let⟨gL,al,y⟩:=rr;rw[L]at h hq halt;simp only[J6,Option.some.injEq,Prod.mk.injEq,PX.mk.injEq,bZ]at h;let⟨⟨h1,h2,h3,h4,h5,h6,h7,h8,h9⟩,KW,KV⟩:=h;have hM:oE y:=⟨fB _ hq,ξ,ξ,χ⟩;cases hv:MF P B C o ⟨[],⟨x,M,0,[],[]⟩,[],[],[]⟩with
  |none=>rw[hv]at i;cases i
  |some vy=>
   let⟨v,y2⟩:=vy;rw[hv]at i n;simp only[fI,Option.some.injEq,Prod.mk.injEq]at i n;obtain⟨rfl,ZV,s3,s4,s5,s6⟩:=i;have hm:oE y2:=⟨fB _ n,ξ,ξ,ξ⟩;refine XT (Post:=λv R=>v=.tuple #[]/\Sat Ok R y2.m.M/\R.heap.size=B) (ox:=ox) (Ex:=λ_=>[]) (vx:=λ_=>vx) F Nd hB Nh (az 1) ho L hM h8 h9 halt S (λv R hp=>⟨hZ _ ξ,ω⟩) (λ_=>⟨O,KV,Uw⟩) (λv R Ze _ a hA w=>?_) nofun (λa1 w1 rest z1 H z3 z4=>?_) (λM5 v R l a' w3 z1 H z3 z4 z5=>?_)
   .have Q:execOp a.eval ox=execOp (ev []) ox:=execOp_congr Qb λy hy=>hA.eval (yJ.1 UM y hy);have Na:=fV _ _ Uu;exact⟨by rw[Q,<-fH (es:=#[]),Na],by unfold raw Sem.events;simp_all⟩
   .have S1:St Ok B N C M 0 a1 w1:=⟨⟨z1.sz,λe u t=>z1.val e u (fy C _ h1 e u t)⟩,by rw[<-h3];exact H.fg _,by rw[z3,h4]⟩
    refine Fe F hB Nh ho (by simp[Region.wanted,hg]) hv hm S1.env ⟨S1.sat,S1.sz⟩ λD hI _ _=>z4 _ _ ⟨rfl,hI.sat,by have:=hI.sz;omega⟩
   .rw[UU];refine K a' w3 ⟨⟨H.sz,λe u t=>?_⟩,by rw[<-ZV];exact z1.2.1.keep z4,ω⟩ (H.DL.trans hd) ω;simp only[look]at t;cases he:(dx==e)with
    |true=>rw[he]at t;simp at he t;subst he;subst t;exact H.ext rfl (z3 (q+1) ω) _ j
    |false=>
     rw[he]at t;have:=fy E2 _ h2 e u t;rcases lM _ _ _ _ this with ⟨s,s1,s2,s3⟩|z
     .rw[<-s3];exact H.val s s1 (z3 s.i χ) e s2
     .exact H.old e u z
abbrev sK(e:eP)(ev:Nat->OZ)(el:Nat):aH:=fR (e.getD ⟨0,0,none⟩) 5 (λj=>yt (ev j)) el false
abbrev nv(o:eP)(ou:Nat->Se)(oh:yX)(n:Nat):aH:=fR (o.getD ⟨0,0,none⟩) 4 (λj=>yL (ou j,oh j)) n false
abbrev Ru:aH:=oR 0 0 [.iface 217 (.agg #[.pointer (some ⟨1,121,none⟩)])] false
abbrev Yt(sa:eP)(m:Nat)(g:Nat->Cl):aH:=fR (sa.getD ⟨0,0,none⟩) 2 (λj=>[i6 (g j).st,.slice (g j).ta (g j).nt (g j).tc]) m false
abbrev Kd(g:Nat->Cl)(j:Nat):aH:=fR ((g j).ta.getD ⟨0,0,none⟩) 3 (λi=>[i6 ((g j).T i 0),i6 ((g j).T i 1),i6 ((g j).T i 2)]) (g j).nt false
def cM(sa:eP)(m:Nat)(g:Nat->Cl):List aH:=Ru::Yt sa m g::(List.range m).map (Kd g)
abbrev El(R:eP)(n:Nat)(L:oF):aH:=fR (R.getD ⟨0,0,none⟩) 6 (oG L) n false
def pY{g:Nat->Cl}:∀r∈cM sa m g,r.wr=false:=λr a=>by
 simp only[cM,ak,gV]at a;grind
def GP{g:Nat->Cl}:Flat (cM sa m g):=by
 rw[bO];intro r a;simp only[cM,ak,gV]at a;grind
def Yn(h:r∈C)(a:r.wr=false):Has C r:=mq.2 ⟨a,h⟩
section
variable{w:aj}
def lD(h:∀r∈M,xE Ok w r/\r.wr=false):Sat Ok w M:=by
 refine sat_iff.2 ⟨λr a=>(h r a).1,?_⟩;refine WE λr a a a a=>?_;simp_all
def nU(a:r.wr=false)(a:r.row=none)(a:∀j,r.has j->w.cell? (r.ad j)=some (r.get j))(b:∀j,r.has j->Ok (r.ad j) false):xE Ok w r:=
 ⟨a,λj a=>⟨b j a,λz=>ξ⟩,λz=>ξ,λg e n z=>ξ⟩
def vD{L:oF}(h:nF w R n L)(k:∀p:Addr,R=some p->∀a:Addr,a.block=p.block->Ok a false):xE Ok w (El R n L):=by
 refine nU rfl rfl (λj c=>?_) (λj c=>?_)
 .let⟨i,f⟩:=j;let⟨g,e⟩:=c;obtain⟨b,o,rfl,d⟩:=h i g;simp only at g e;have:=d f e;simp only[cQ,ey];rw[show o+i*6+f=o+i*6+f from rfl,this];rcases f with _|_|_|_|_|_|f
  .rfl
  .rfl
  .rfl
  .rfl
  .rfl
  .rfl
  .omega
 .let⟨i,f⟩:=j;obtain⟨b,o,rfl,d⟩:=h i c.1;exact k _ rfl _ (by simp only[cQ,ey])
def zv{g:Nat->Cl}(h:sG w sa m g)(u:w.cell? ⟨0,0,none⟩=some (.iface 217 (.agg #[.pointer (some ⟨1,121,none⟩)])))(t:TO Ok sa m g)(q:Ok ⟨0,0,none⟩ false):Sat Ok w (cM sa m g):=by
 refine lD λr p=>?_;refine⟨?_,pY r p⟩;simp only[cM,ak,gV]at p;rcases p with rfl|rfl|⟨j,a,rfl⟩
 .refine nU rfl rfl (λj a=>?_) (λj a=>?_)
  .let⟨i,f⟩:=j;let⟨c,d⟩:=a;simp only[gB,iT]at c d;have s:f=0:=ω
   subst s;exact u
  .let⟨i,f⟩:=j;let⟨c,d⟩:=a;simp only[gB,iT]at c d;have s:f=0:=ω
   subst s;exact q
 .refine nU rfl rfl (λj a=>?_) (λj a=>?_)
  .let⟨i,f⟩:=j;let⟨c,d⟩:=a;obtain⟨b,o,rfl,n,l,_⟩:=h i c;simp only at c d;simp only[cQ,ey];rcases f with _|_|f
   .exact n
   .exact l
   .omega
  .let⟨i,f⟩:=j;obtain⟨b,o,rfl,n,l,_⟩:=h i a.1;exact t.1 _ rfl _ (by simp only[cQ,ey])
 .have l:j<m:=aZ.1 a;let⟨_,a,_,_,_,m⟩:=h j l;refine nU rfl rfl (λk a=>?_) (λk a=>?_)
  .let⟨i,f⟩:=k;let⟨c,d⟩:=a;let⟨b,o,e,h⟩:=m i c;simp only at c d;have:=h f d;show w.cell? ((((g j).ta.getD ⟨0,0,none⟩).add (i*3)).add f)=some (List.getD [i6 ((g j).T i 0),i6 ((g j).T i 1),i6 ((g j).T i 2)] f undef);rw[e];simp only[cQ,ey];grind
  .let⟨i,f⟩:=k;let⟨b,o,e,h⟩:=m i a.1;have b:=a.1;show Ok ((((g j).ta.getD ⟨0,0,none⟩).add (i*3)).add f) false;rw[e];exact t.2 j l χ _ e _ (by simp only[cQ,ey])
def Sat.ZL{s:PS}(h:Sat Ok w (pM s++C)):Sat Ok w (sK s.ea s.l.ev s.l.el::nv (some ⟨s.k.O,0,none⟩) s.l.ou s.oh s.k.V.nc::C):=by
 have c:Sat Ok w ([vR s.ea 5 (λj=>yt (s.l.ev j)) s.l.el s.ec 55,fR ⟨s.k.O,0,none⟩ 4 (λj=>yL (s.l.ou j,s.oh j)) s.k.V.nc true]++C):=h.sub (D7 (by
  show List.Sublist [_,_] [_,_,_,_,_,_,_];exact .cons _ (.cons _ (.cons _ (.cons_cons _ (.cons _ (.cons _ (.cons_cons _ .slnil))))))) C)
 have b:=c.G7 0 rfl (sK s.ea s.l.ev s.l.el) (λj a=>⟨a,rfl,rfl⟩) nofun rfl;exact b.G7 1 rfl (nv (some ⟨s.k.O,0,none⟩) s.l.ou s.oh s.k.V.nc) (λj a=>⟨a,rfl,rfl⟩) nofun rfl
end
def Sat.Wp{w:aj}{b:Nat}(h:Sat Ok w M)(l:∀j,j<vs.length->w.cell? ⟨b,j,none⟩=some (vs.getD j undef))(k:∀j wr,Ok ⟨b,j,none⟩ wr)(m:∀j,j<vs.length->w.frozen? ⟨b,j,none⟩=false)(o:∀r∈M,∀j,r.has j->∀i,i<vs.length->r.ad j≠⟨b,i,none⟩):Sat Ok w (bR b vs::M):=by
 refine sat_iff.2 ⟨λr d=>?_,iG.2 ⟨λr d i j f a c e=>?_,(sat_iff.1 h).2⟩⟩
 .rcases ak.1 d with rfl|d
  .refine⟨λj a=>?_,λj a=>⟨k _ _,λ_=>⟨k _ _,m _ a.2⟩⟩,λ_ j f a c e=>?_,nofun⟩
   .rw[show(bR b vs).ad j=⟨b,j.2,none⟩from rfl,l j.2 a.2];congr 1;have b:j.2<vs.length:=a.2;unfold aH.get;grind
   .have b:j.1<1:=a.1;have b:f.1<1:=c.1;grind
  .exact(sat_iff.1 h).1 r d
 .exact o r d f c j.2 a.2 e.symm
def Sat.abf{w:aj}{b:Nat}(h:Sat Ok w M)(a:∀j,j<vs.length->w.cell? ⟨b,j,none⟩=some (vs.getD j undef))(c:∀j wr,Ok ⟨b,j,none⟩ wr)(d:∀j,j<vs.length->w.frozen? ⟨b,j,none⟩=false):∃C,Sat Ok w (bR b vs::C)/\∀r,Has M r->(∀j,r.has j->∀i,i<vs.length->r.ad j≠⟨b,i,none⟩)->Has C r:=by
 classical
 refine⟨M.filter λr=>decide (∀j,r.has j->∀i,i<vs.length->r.ad j≠⟨b,i,none⟩),(h.sub List.filter_sublist).Wp a c d λr a=>?_,λr a b=>?_⟩
 .simp_all
 .let⟨c,b⟩:=mq.1 a;exact mq.2 ⟨c,mK.2 ⟨b,ξ⟩⟩
def Ba:∀{E:Env}{n:Nat}{v:ay},look E n=some v->(n,v)∈E
 |[],n,v,h=>by cases h
 |(d,u)::E,n,v,h=>by
  simp only[look]at h;by_cases e:d=n
  .simp_all
  .have a:(d==n)=false:=ξ
   rw[a]at h;exact aP _ (Ba h)
def aR.sub{E b:Env}{a:Act}(h:aR E N a)(c:∀p∈b,look E p.1=some p.2):aR b N a:=⟨h.sz,λn v a=>h.val n v (c (n,v) (Ba a))⟩
def Iw(w:aj):Old w w:=⟨rfl,rfl,rfl,az _,λ_ _=>rfl⟩
def Fg{a b c:aj}(h:Old a b)(k:Old b c):Old a c:=⟨k.1.trans h.1,k.2.1.trans h.2.1,k.2.2.1.trans h.2.2.1,aT h.2.2.2.1 k.2.2.2.1,λi a=>(k.2.2.2.2 i (ga a h.2.2.2.1)).trans (h.2.2.2.2 i a)⟩
theorem zw{L:LS}{v:LS->Prop}(R:wM V)(S:yI V L)(Q:Fin V v m none L)(m:0<ng){w:aj}(L:∀x∈l,x<w.heap.size){dL:p9}{eu:bU}(E:Sj V sa dL eu M)(u:0<V.nl->∃c,sL=some c/\Has M (fR c 6 (λi=>EV (V.ly i)) V.nl false))(x:Sat (cP wI.heap.size l []) w M)(q:O3 (cP w.heap.size l []) (nM prog Post (Old w) (jq l) ng) w.heap.size M 16 #[.slice sL V.nl cA,.slice sa V.nc cap] (.tuple #[i6 0,i6 0]))(K:∀(c:LS),v c->∀(b A:Nat)(o:Nat)(i:eP)(U:Nat)(v:yX)(C:aW)(D:aj),0<b->w.heap.size<=A->A<D.heap.size->(0<V.nc->w.heap.size<=o)->Old w D->Old wI D->(0<c.el->∃a,i=some a)->Sat (cP wI.heap.size (A::l) []) D (sK i c.ev c.el::nv (some ⟨o,0,none⟩) c.ou v V.nc::C)->(∀r,Has M r->Has C r)->(∀j,j<V.nc->fu C (v j) (c.ou j).b.ch)->
 nM prog Post (Old wI) (jq (A::l)) b (G (Z.finish (.tuple #[.agg #[.slice (some ⟨o,0,none⟩) V.nc V.nc,.slice i c.el U],i6 0,i6 0])) Y) D):
 nM prog Post (Old wI) (jq l) ng (G (Frame.enter prog 24 #[.slice sL V.nl cA,.slice sa V.nc cap] .normal) (Z::Y)) w:=by
 refine At.assume gN λt=>At.keep (K':=Old w) (λd=>Iw w) ?_;have p:wI.heap.size<=w.heap.size:=t.2.2.2.1;refine Pm R S Q m L E u (x.OB (λr e j B h=>⟨h.1,nofun⟩) (λr e n=>by rw[E.ro r e]at n;cases n)) q λb A s C D P O N J I f y H F k=>?_;subst I;refine At.keep (λd=>Fg t f) ?_;have T:Sat (cP wI.heap.size (A::l) []) D (pM s++C):=y.OB (λr e j B h=>⟨h.1,nofun⟩) (λr e n j B h=>⟨h.1,λz=>⟨aT p (h.2 z).1,(h.2 z).2⟩⟩);exact K s.l J b A s.k.O s.ea s.ec s.oh C D P O N (λz=>(((y.ok 6 (fR ⟨s.k.O,0,none⟩ 4 (λj=>yL (s.l.ou j,s.oh j)) s.k.V.nc true) rfl (0,0) ⟨z,(by decide:0<4)⟩).2 rfl).1.2 rfl).1) f (Fg t f) (λz=>by
  rcases H.jr.row with ⟨_,a,_⟩|⟨g,a,_⟩
  .omega
  simp_all) T.ZL F k
def iX(c:∀A∈l,A<N)(c:N0<=N){a:Addr}(c:N<=a.block)(wr:Bool):cP N0 l [] a wr:=
 ⟨fun⟨A,a,z⟩=>χ,λ_=>⟨ω,fun⟨p,b,z⟩=>by cases b⟩⟩
def RP{L:oF}{g:Nat->Cl}(h:jG n L m g≠(0,0)):(jG n L m g).1≠0:=by
 unfold jG at h ⊢;grind
structure Ds(wI:aj)(R:eP)(n:Nat)(L:oF)(sa:eP)(m:Nat)(g:Nat->Cl):Prop where
 hL:nF wI R n L
 bL:∀p:Addr,R=some p->p.block<wI.heap.size
 hC:sG wI sa m g
 bC:∀p:Addr,sa=some p->p.block<wI.heap.size
 bT:∀i,i<m->0<(g i).nt->∀p:Addr,(g i).ta=some p->p.block<wI.heap.size
 i0:0<wI.heap.size
 hg:wI.cell? ⟨0,0,none⟩=some (.iface 217 (.agg #[.pointer (some ⟨1,121,none⟩)]))
def JA{w:aj}{g:Nat->Cl}(h:sG w sa m g)(a:Old w D):sG D sa m g:=λi c=>by
 let⟨b,o,e,g,d,f⟩:=h i c;exact⟨b,o,e,a.cell _ _ g,a.cell _ _ d,λj c=>by
  let⟨b,o,e,d⟩:=f j c;exact⟨b,o,e,λk b=>a.cell _ _ (d k b)⟩⟩
def IJ{w:aj}{L:oF}(h:nF w sa n L)(c:Old w D):nF D sa n L:=λi a=>by
 let⟨b,o,e,d⟩:=h i a;exact⟨b,o,e,λk a=>c.cell _ _ (d k a)⟩
def jN{a:Addr}(h:a.block∉l):cP N0 l [] a false:=
 ⟨fun⟨A,a,z⟩=>h χ,nofun⟩
section
variable{L:oF}{g:Nat->Cl}
theorem Ds.rd(h:Ds wI R n L sa m g)(b:∀B∈l,wI.heap.size<=B):TO (cP N0 l []) sa m g:=⟨λp b a d=>jN λz=>by have:=h.bC p b;grind,λi c e p b a d=>jN λz=>by have:=h.bT i c e p b;grind⟩
end
def Q3(_ j:Nat):Int:=match j with|0=>1|1=>7|_=>3
abbrev CN(t:Nat)(_:Nat):Cl:=⟨5,some ⟨t,0,none⟩,1,1,Q3⟩
def Xy(t:Nat):jG 0 (λ_ _=>0) 1 (CN t)=(0,0):=ρ
def Oe(V:Ev0):yI V (ko V):=⟨rfl,rfl,λ_ _=>τ,λ_=>rfl,λ_=>rfl,rfl,λ_=>rfl,rfl,rfl,λ_ _=>τ⟩
theorem F5{w:aj}(hg:wI.cell? ⟨0,0,none⟩=some (.iface 217 (.agg #[.pointer (some ⟨1,121,none⟩)])))(i0:0<wI.heap.size)(hO:Old wI w)(K:∀l' C D,0<C->(∀x∈l',wI.heap.size<=x/\x<D.heap.size)->Old wI D->nM prog Post (Old wI) (jq l') C (G (Z.finish (.bool true)) Y) D):nM prog Post (Old wI) (jq []) 1 (G (Frame.enter prog 30 #[] .normal) (Z::Y)) w:=by
 have F:=nA (P:=prog) (Post:=Post) (wI:=wI) (l:=[]) 1;have h:wI.heap.size<=w.heap.size:=hO.2.2.2.1;have u:∀(a:Addr)(wr:Bool),w.heap.size<=a.block->cP wI.heap.size [] [] a wr:=λa wr z=>iX (by nofun) h z wr;have hS:Sat (cP wI.heap.size [] []) w []:=lD nofun
 have n:w.heap.size<=w.heap.size:=az _;generalize hB0:w.heap.size=B at u n h;rw[<-hB0]at n;replace n:B<=w.heap.size:=ω
 refine cJ func30 hS 59 λbb a0 b hn m qh tN S0 P9=>aq (λM=>bR (b+1) [i6 5,.slice (some ⟨b,0,none⟩) 1 1]::(bR (b) [i6 1,i6 7,i6 3]::(M))) 2 F u m tN S0 10 [] 1 [] [(9,.slice (some ⟨b+1,0,none⟩) 1 1)] 10 1 [] λa1 V U Nt zS Dx o9=>?_;have J:sG V (some ⟨b+1,0,none⟩) 1 (CN b):=λi hi=>by
  have e:i=0:=ω
  subst e;refine⟨b+1,0,rfl,U.sat.val 0 _ rfl (0,0) ⟨aD,(by decide:0<2)⟩,U.sat.val 0 _ rfl (0,1) ⟨aD,(by decide:1<2)⟩,λj t=>?_⟩;have e:j=0:=ξ
  subst e;refine⟨b,0,rfl,λk hk=>?_⟩;have:=U.sat.val 1 _ rfl (0,k) ⟨aD,hk⟩;rw[show(⟨b,0+0*3+k,none⟩:Addr)=⟨b,k,none⟩ by simp];refine this.trans (cT some ?_);have Nh:k=0\/k=1\/k=2:=ω
  rcases Nh with rfl|rfl|rfl<;>rfl
 have I:∀N:Nat,TO (cP N [] []) (some ⟨b+1,0,none⟩) 1 (CN b):=λN=>⟨λp S a ha=>jN ψ,λi hi h0 p S a ha=>jN ψ⟩
 refine Af F m 10 24 #[.slice none 0 0,.slice (some ⟨b+1,0,none⟩) 1 1] ρ ρ δ U λcR L=>At.assume gN λhO3=>?_;have VR:Sat (cP wI.heap.size [] []) V (cM (some ⟨b+1,0,none⟩) 1 (CN b)):=zv J (hO3.cell _ _ hg) (I _) (jN ψ);have d:∀r∈cM (some ⟨b+1,0,none⟩) 1 (CN b),Has (cM (some ⟨b+1,0,none⟩) 1 (CN b)) r:=λr s=>Yn s (pY r s);refine zw (V:=nC 0 (λ_ _=>0) 1 (CN b)) (M:=cM (some ⟨b+1,0,none⟩) 1 (CN b)) (dL:=λ_=>some ⟨b,0,none⟩) (eu:=λ_=>1) (sL:=none) (cA:=0) (sa:=some ⟨b+1,0,none⟩) (cap:=1) (zl (Xy b)) (Oe _) Xs δ nofun ⟨λr s=>pY r s,GP,λ_=>⟨_,rfl,d _ (aP _ (bI ..))⟩,λc hc _=>⟨_,rfl,?_⟩,d _ (bI ..)⟩ (λz=>absurd z (Ap 0)) VR (λBL yR D M' O VO LM KK=>?_) λX1 hX1 A Q R ea1 P y C1 f k1 k2' k3 k3o k4 k5 k6 W k8 k9=>L _ _ _ λa4 o l=>?_
 .have e:c=0:=by have:c<1:=hc;omega
  subst e;exact d (Kd (CN b) 0) (aP _ (aP _ (gV.2 ⟨0,aZ.2 δ,rfl⟩)))
 .exact r8 (n:=0) (m:=1) (L:=λ_ _=>0) (g:=CN b) (nA 1) (λa wr z=>iX (N:=V.heap.size) (by nofun) (az _) z wr) (λz=>ω) (λ_=>⟨_,rfl,O _ (d _ (aP _ (bI ..)))⟩) (λj t _=>⟨_,rfl,O _ (by
   have e:j=0:=ω
   subst e;exact d (Kd (CN b) 0) (aP _ (aP _ (gV.2 ⟨0,aZ.2 δ,rfl⟩))))⟩) VO LM (by rw[Xy];exact KK)
 clear F;have F:=nA (P:=prog) (Post:=Post) (wI:=wI) (l:=[Q]) A;let⟨f1,f2,f3⟩:=end_1 hX1;replace l:=l.trans Nt;obtain⟨T,rfl⟩:=k6 ω;obtain⟨q,v,hoh⟩:∃q v,y 0=.slice q 0 v:=by
  have:=k9 0 aD;rw[f1]at this;rcases this with ⟨z,_⟩|⟨ca,cap,i,z,_⟩
  .simp_all
  simp_all
 rw[f2]at o W;have h7:=(W.sub (M':=[_,_]) (.cons_cons _ (.cons_cons _ (List.nil_sublist _)))).G7 0 rfl (fR T 5 (λj=>if j=1 then[i6 8,i6 0,i6 (-1),i6 2,i6 0]else yt (X1.ev j)) 2 false) (λj t=>⟨t,rfl,by
  show(if j.1=1 then[i6 8,i6 0,i6 (-1),i6 2,i6 0]else yt (X1.ev j.1)).getD j.2 undef=(yt (X1.ev j.1)).getD j.2 undef;split
  .rename_i e;rw[e,f3];rfl
  .rfl⟩) nofun rfl
 have h8:=h7.G7 1 rfl (fR ⟨R,0,none⟩ 4 (λ_=>[i6 8,i6 1,i6 7,.slice q 0 v]) 1 false) (λj t=>⟨t,rfl,by
  have e:j.1=0:=by have:j.1<1:=t.1;omega
  show List.getD [i6 8,i6 1,i6 7,.slice q 0 v] j.2 undef=(yL (X1.ou j.1,y j.1)).getD j.2 undef;rw[e,hoh,f1];rfl⟩) nofun rfl
 have S4:St (cP wI.heap.size [Q] []) f.heap.size 59 [(10,.tuple #[.agg #[.slice (some ⟨R,0,none⟩) 1 1,.slice (some T) 2 P],i6 0,i6 0])] [fR T 5 (λj=>if j=1 then[i6 8,i6 0,i6 (-1),i6 2,i6 0]else yt (X1.ev j)) 2 false,fR ⟨R,0,none⟩ 4 (λ_=>[i6 8,i6 1,i6 7,.slice q 0 v]) 1 false] 0 a4 f:=⟨o.sub (by intro p S;simp only[ak,bH,or_false]at S;subst S;rfl),h8,rfl⟩;have H:wI.heap.size<=f.heap.size:=k5.2.2.2.1;clear u;have E:∀x∈[Q],wI.heap.size<=x/\x<f.heap.size:=λx g=>by
  grind
 have u:∀(a:Addr)(wr:Bool),f.heap.size<=a.block->cP wI.heap.size [Q] [] a wr:=λa wr z=>iX (N:=f.heap.size) (λx g=>(E x g).2) H z wr;have X:f.heap.size=f.heap.size:=rfl;clear o W k8 k9 L h7 h8;generalize hB4:f.heap.size=B4 at S4 X u E;refine oH (λM=>bR (B4+1) [i6 8,i6 1,i6 7,.slice q 0 v]::(bR (B4) [.slice (some ⟨R,0,none⟩) 1 1,.slice (some T) 2 P]::(M))) 2 F u m qh l S4 69 [0,0,0,2,0,0,0,2,0,0,0,1,2,0,0,4,0,0,0,4,0,0,0,4,1,0,1,1,2,1,0,5] 35958428274349397 [] 0 (.bool true) 80 2 [] [] [] [(1,2),(0,1)] [] λw5 S5 Y5 Dw=>At.assume gN λXh=>K [Q] A w5 k1 (λx g=>χ) Xh
section
variable{L:oF}{g:Nat->Cl}
theorem Ds.sat(H:Ds wI R n L sa m g)(d:∀x∈l,wI.heap.size<=x){w:aj}(c:Old wI w):Sat (cP wI.heap.size l []) w (El R n L::cM sa m g):=lD λr b=>by
 rcases ak.1 b with rfl|b
 .exact⟨vD (IJ H.hL c) λp e a a=>jN λz=>by have:=H.bL p e;grind,rfl⟩
 .exact⟨(zv (JA H.hC c) (c.cell _ _ H.hg) (H.rd d) (jN λz=>by have h:wI.heap.size<=0:=d _ z;have:=H.i0;omega)).mem b,pY r b⟩
theorem Ds.lt(H:Ds wI R n L sa m g)(b:r∈El R n L::cM sa m g){j:Nat×Nat}(c:r.has j):(r.ad j).block<wI.heap.size:=
 au (((H.sat (l:=[]) nofun (Iw wI)).mem b).val j c)
def Ds.ro(a:r∈El R n L::cM sa m g):r.wr=false:=by
 rcases ak.1 a with rfl|a
 .rfl
 .exact pY r a
theorem Ds.q1(H:Ds wI R n L sa m g):0<n->∃a,R=some a/\Has (El R n L::cM sa m g) (fR a 6 (oG L) n false):=λz=>by
 obtain⟨b,o,rfl,_⟩:=H.hL 0 z;exact⟨_,rfl,Yn (bI ..) rfl⟩
theorem Ds.q2(H:Ds wI R n L sa m g):0<m->∃a,sa=some a/\Has (El R n L::cM sa m g) (fR a 2 (λj=>[i6 (g j).st,.slice (g j).ta (g j).nt (g j).tc]) m false):=λz=>by
 obtain⟨b,o,rfl,_⟩:=H.hC 0 z;exact⟨_,rfl,Yn (aP _ (aP _ (bI ..))) rfl⟩
theorem Ds.q3(H:Ds wI R n L sa m g):∀j,j<m->0<(g j).nt->∃a,(g j).ta=some a/\Has (El R n L::cM sa m g) (fR a 3 (λi=>[i6 ((g j).T i 0),i6 ((g j).T i 1),i6 ((g j).T i 2)]) (g j).nt false):=λj a z=>by
 let⟨_,_,_,_,_,c⟩:=H.hC j a;let⟨b,o,e,_⟩:=c 0 z;refine⟨_,e,?_⟩;have:=Yn (C:=El R n L::cM sa m g) (r:=Kd g j) (aP _ (aP _ (aP _ (gV.2 ⟨j,aZ.2 a,rfl⟩)))) rfl;grind
def Yx(a:jG n L m g≠(0,0)):(1<=(jG n L m g).1/\(jG n L m g).1<=4)/\0<=(jG n L m g).2/\(jG n L m g).2<=8:=by
 unfold jG at a ⊢;grind
def HP(F:aB prog true (DX Ok) U)(o:HB B Ok){m:aC}(b:m.kind=.normal)(l:m.fn=19){n:Act}{g:aj}{f d:Nat}(j:n.defers=[])(p:B<=d){c i:Int}(p:1<=c/\c<=4)(p:0<=i/\i<=8)(e:St Ok d 70 [(12,i6 i),(11,i6 c),(10,ptr d),(9,i6 i),(8,i6 c),(7,.bool true),(4,ptr f)] (bR d [.slice none 0 0,.slice none 0 0]::bR f [.slice none 0 0,.slice none 0 0]::M) 1 n g)(K:∀D,g.heap.size<=D.heap.size->U (G (Z.finish (.tuple #[.agg #[.slice none 0 0,.slice none 0 0],.bool false,.bool true])) Y) D):U (G (m.at n (pc prog 19 44 [true] [])) (Z::Y)) g:=by
 replace e:=St.mk (c:=0) (B:=d+1) e.env e.sat e.sz;have g:i=0\/i=1\/i=2\/i=3\/i=4\/i=5\/i=6\/i=7\/i=8:=ω
 have k:c=1\/c=2\/c=3\/c=4:=ω
 have c:=e.sz;rcases g with rfl|rfl|rfl|rfl|rfl|rfl|rfl|rfl|rfl<;>rcases k with rfl|rfl|rfl|rfl
 all_goals
  refine bkU [oR d 0 [.slice none 0 0,.slice none 0 0] false] [(19,[]),(20,[(0,(0,1),true)]),(21,[]),(22,[]),(23,[])] F aK (λa wr z=>o a wr ω) b 24 (Hq [0,0,0,2,0,0,0,2]) [(true,true),(true,true),(true,true),(true,true),(true,true),(true,true),(true,true),(true,true),(true,true),(true,true),(true,true),(true,true),(true,true),(true,true)] [(30,.agg #[.slice none 0 0,.slice none 0 0]),(4,ptr f)] [(53,.bool true),(4,ptr f)] [] [] [] (Hq [1,0,0,2]) (λM=>bh 1 (0,1) (.slice none 0 0) (bh 1 (0,0) (.slice none 0 0) (M))) 5 (.bool false) j ρ ρ ρ ρ ρ ρ ρ ρ ρ ρ eU eU eU (λw h=>(h.sub (M':=[bR d [.slice none 0 0,.slice none 0 0]]) (.cons_cons _ (List.nil_sublist _))).fix) e λa a d a c=>Rb F o b a d 2 [] 1 [] [(6,.bool true),(5,.bool false),(4,ptr f)] 47 3 [26] λa c f a d d d=>cC F f b l a [1,0,0,2] (.tuple #[.agg #[.slice none 0 0,.slice none 0 0],.bool false,.bool true]) ?_;exact K c ω
theorem ES(H:Ds wI R n L sa m g){zV:LS->Prop}(hZ:jG n L m g=(0,0)->Fin (nC n L m g) zV 80001 none (ko (nC n L m g))){S:Nat}(K0:∀l' O D,0<O->(∀x∈l',wI.heap.size<=x/\x<D.heap.size)->Old wI D->nM prog Post (Old wI) (jq l') O (G (Z.finish (.tuple #[.agg #[.slice none 0 0,.slice none 0 0],.bool false,.bool true])) Y) D)(K1:jG n L m g=(0,0)->∀v,zV v->∀l' O (o:Nat) T ec oh C D,0<O->(∀x∈l',wI.heap.size<=x/\x<D.heap.size)->Old wI D->(0<v.el->∃a,T=some a)->Sat (cP wI.heap.size l' []) D C->Has C (sK T v.ev v.el)->Has C (nv (some ⟨o,0,none⟩) v.ou oh m)->(∀j,j<m->fu C (oh j) (v.ou j).b.ch)->(∀r∈El R n L::cM sa m g,Has C r)->nM prog Post (Old wI) (jq l') O (G (Z.finish (.tuple #[.agg #[.slice (some ⟨o,0,none⟩) m m,.slice T v.el ec],.bool true,.bool true])) Y) D):
 nM prog Post (Old wI) (jq []) 1 (G (Frame.enter prog 19 #[.slice R n S,.slice sa m cap] .normal) (Z::Y)) wI:=by
 have F:=nA (P:=prog) (Post:=Post) (wI:=wI) (l:=[]) 1;have u:∀(a:Addr)(wr:Bool),wI.heap.size<=a.block->cP wI.heap.size [] [] a wr:=λa wr z=>iX (by nofun) (az _) z wr;have hS:Sat (cP wI.heap.size [] []) wI []:=lD nofun
 refine cJ func19 hS 70 λG G k G h qh G S0 O=>aq (λM=>bR (k) [.slice none 0 0,.slice none 0 0]::(M)) 1 F u h G S0 8 [] 1 [] [(4,ptr k),(0,.slice R n S),(1,.slice sa m cap)] 8 1 [] λG G S1 Nt O O O=>Af F h 14 30 #[] ρ ρ δ S1 λcR Q=>At.assume gN λO=>At.keep (K':=Old G) (λd=>Iw G) ?_;refine F5 (wI:=G) (O.cell _ _ H.hg) ω (Iw G) λJ ng1 N W hl1 E=>?_;have hO2:=Fg O E;refine At.keep (K':=Old wI) (λd=>hO2) ?_;refine Q _ _ _ λa2 OR DF=>?_;replace DF:=DF.trans Nt;clear F Q;have F:=nA (P:=prog) (Post:=Post) (wI:=wI) (l:=J) ng1;have d:G.heap.size<=N.heap.size:=E.2.2.2.1;clear u;have u:∀(a:Addr)(wr:Bool),N.heap.size<=a.block->cP wI.heap.size J [] a wr:=λa wr z=>iX (N:=N.heap.size) (λx y=>(hl1 x y).2) ω z wr;have hsB:∀l:List Nat,(∀x∈l,G.heap.size<=x)->∀j wr,cP wI.heap.size l [] ⟨k,j,none⟩ wr:=λl d j wr=>⟨(jN (N0:=0) (l:=l) (a:=⟨k,j,none⟩) λz=>χ).1,λ_=>⟨χ,fun⟨p,hp,z⟩=>by cases hp⟩⟩
 have d:∀j,j<2->N.cell? ⟨k,j,none⟩=some ([Value.slice none 0 0,.slice none 0 0].getD j undef):=λj b=>by
  refine E.cell _ _ ?_;refine(S1.sat.val 0 _ rfl (0,j) ⟨aD,b⟩).trans (cT some ?_);rfl
 have l:∀j,j<2->N.frozen? ⟨k,j,none⟩=false:=λj b=>(World.frozen?_of_block (E.2.2.2.2 k ω)).trans ((S1.sat.ok 0 _ rfl (0,j) ⟨aD,b⟩).2 rfl).2;have h2:Sat (cP wI.heap.size J []) N (bR k [.slice none 0 0,.slice none 0 0]::El R n L::cM sa m g):=(H.sat (λx y=>χ) hO2).Wp d (hsB J λx y=>(hl1 x y).1) l λr t j b i X e=>by
  have:=H.lt t b;grind
 have S2:St (cP wI.heap.size J []) N.heap.size 70 [(14,.bool true),(0,.slice R n S),(1,.slice sa m cap),(4,ptr k)] (bR k [.slice none 0 0,.slice none 0 0]::El R n L::cM sa m g) 0 a2 N:=⟨OR.sub (by intro p hp;simp only[ak,bH,or_false]at hp;rcases hp with rfl|rfl|rfl|rfl<;>rfl),h2,rfl⟩;have tM:N.heap.size=N.heap.size:=rfl;have q1:=H.q1;have q2:=H.q2;have q3:=H.q3;have M6:∀r∈El R n L::cM sa m g,r.wr=false:=λr t=>Ds.ro t;have d:∀r∈El R n L::cM sa m g,∀j,r.has j->(r.ad j).block<wI.heap.size:=λr t j b=>H.lt t b;generalize hM:El R n L::cM sa m g=M at*;generalize hB2:N.heap.size=d at S2 tM u;refine Rb F u h DF S2 6 [] 1 [] [(17,.slice sa m cap),(16,.slice R n S),(7,.bool true),(0,.slice R n S),(1,.slice sa m cap),(4,ptr k)] 15 1 [] λd d l d E E E=>ah F h d l 18 16 #[.slice R n S,.slice sa m cap] λd d=>r8 F u (λz=>by let⟨a,B,w⟩:=q1 z;exact⟨a,B,w.cons⟩) (λz=>by let⟨a,B,w⟩:=q2 z;exact⟨a,B,w.cons⟩) (λj b z=>by let⟨a,B,w⟩:=q3 j b z;exact⟨a,B,w.cons⟩) l.sat ω λl E l=>d _ _ _ E λd d S4 Vx d=>?_;by_cases K:jG n L m g=(0,0)
 .rw[K]at S4;refine Rb F u h Vx S4 10 [] 1 [] [(23,.slice sa m cap),(22,.slice R n S),(9,i6 0),(8,i6 0),(7,.bool true),(1,.slice sa m cap),(4,ptr k)] 26 1 [] λa5 w5 S5 Yv Y5 Dw qO=>Af F h 24 24 #[.slice R n S,.slice sa m cap] ρ ρ δ S5 λcR Q=>At.assume gN λd=>?_;have Xi:Sj (nC n L m g) sa (λj=>(g j).ta) (λj=>(g j).tc) M:=⟨M6,by
   subst hM;rw[bO];intro r t;rcases ak.1 t with rfl|t
   .rfl
   .exact(bO.1 GP) r t,q2,q3,by
   subst hM;exact Yn (aP _ (bI ..)) rfl⟩
  have d:∀x∈J,x<w5.heap.size:=λx y=>χ
  refine zw (V:=nC n L m g) (zl K) (Oe _) (hZ K) W d (sL:=R) (sa:=sa) (cA:=S) (cap:=cap) Xi q1 S5.sat.tail (λBL yR D M' U VO LM KK=>?_) λv hLf W9 A o T ec oh C I k1 l l k3o k4 l k6 k7 k8 k9=>Q _ _ _ λa6 TF P=>?_
  .exact r8 (n:=n) (m:=m) (L:=L) (g:=g) (nA ng1) (λa wr z=>iX (N:=w5.heap.size) d (az _) z wr) (λz=>χ) (λz=>χ) (λj b z=>by let⟨a,B,w⟩:=q3 j b z;grind) VO LM χ
  replace P:=P.trans Yv;clear F Q;have F:=nA (P:=prog) (Post:=Post) (wI:=wI) (l:=A::J) W9;have d:w5.heap.size<=I.heap.size:=k4.2.2.2.1;have hl6:∀x∈A::J,wI.heap.size<=x/\x<I.heap.size:=λx y=>by
   rcases ak.1 y with rfl|y
   .omega
   grind
  clear u;have u:∀(a:Addr)(wr:Bool),I.heap.size<=a.block->cP wI.heap.size (A::J) [] a wr:=λa wr z=>iX (N:=I.heap.size) (λx y=>(hl6 x y).2) ω z wr;have hv6:∀j,j<2->I.cell? ⟨k,j,none⟩=some ([Value.slice none 0 0,.slice none 0 0].getD j undef):=λj b=>by
   refine k4.cell _ _ ?_;refine(S5.sat.val 0 _ rfl (0,j) ⟨aD,b⟩).trans (cT some ?_);rfl
  have hf6:∀j,j<2->I.frozen? ⟨k,j,none⟩=false:=λj b=>(World.frozen?_of_block (k4.2.2.2.2 k ω)).trans ((S5.sat.ok 0 _ rfl (0,j) ⟨aD,b⟩).2 rfl).2;have sl:∀i,i<2->∃s p q,I.cell? ⟨k,i,none⟩=some (Value.slice s p q):=λi X=>by
   rw[hv6 i X];have KG:i=0\/i=1:=ω
   rcases KG with rfl|rfl<;>exact⟨_,_,_,rfl⟩
  let⟨C',h6,V⟩:=Sat.abf (b:=k) (vs:=[.slice none 0 0,.slice none 0 0]) k7 hv6 (hsB (A::J) λx y=>by
   grind) hf6
  have c1:Has C' (sK T v.ev v.el):=V _ (Yn (bI ..) rfl) λj b i X e=>by
   have hv:=(k7.mem (bI ..)).val j b;let⟨s,p,q,z⟩:=sl i X;rw[e,z]at hv;let⟨j,f⟩:=j;have hf:f<5:=b.2;have Wm:f=0\/f=1\/f=2\/f=3\/f=4:=ω
   rcases Wm with rfl|rfl|rfl|rfl|rfl<;>cases hv
  have c2:Has C' (nv (some ⟨o,0,none⟩) v.ou oh m):=V _ (Yn (aP _ (bI ..)) rfl) λj b i X e=>by
   have d:=k3o (by have:j.1<m:=b.1;show 0<m;omega);have hb:(((⟨o,0,none⟩:Addr).add (j.1*4)).add j.2).block=k:=cT Addr.block e;rw[add_add]at hb;grind
  have c3:∀j,j<m->fu C' (oh j) (v.ou j).b.ch:=λj b=>by
   rcases k9 j b with z|⟨ca,cp,i,B,w⟩
   .exact .inl z
   .have d:Has C (gQ ca (v.ou j).b.ch):=⟨rfl,i,w⟩
    let⟨_,i',KG⟩:=V _ d.cons.cons λj b i X e=>by
     have hv:=(k7.mem (aP _ (aP _ (gO w)))).val j b;let⟨s,p,q,z⟩:=sl i X;rw[e,z]at hv;let⟨j,f⟩:=j;have hf:f<3:=b.2;have Wm:f=0\/f=1\/f=2:=ω
     rcases Wm with rfl|rfl|rfl<;>cases hv
    exact .inr ⟨ca,cp,i',B,KG⟩
  have c4:∀r∈M,Has C' r:=λr t=>V _ (k8 r (Yn t (M6 r t))).cons.cons λj b i X e=>by
   grind
  have t1:((m:Int)==(m:Int))=true:=ψ
  have S6:St (cP wI.heap.size (A::J) []) I.heap.size 70 [(24,.tuple #[.agg #[.slice (some ⟨o,0,none⟩) m m,.slice T v.el ec],i6 0,i6 0]),(8,i6 0),(7,.bool true),(1,.slice sa m cap),(4,ptr k)] (bR k [.slice none 0 0,.slice none 0 0]::C') 0 a6 I:=⟨TF.sub (by intro p hp;simp only[ak,bH,or_false]at hp;rcases hp with rfl|rfl|rfl|rfl|rfl<;>rfl),h6,rfl⟩;have YG:I.heap.size=I.heap.size:=rfl;generalize hB6:I.heap.size=B6 at S6 YG u;generalize Ty:v.el=el at S6;refine aq (λM=>bR (B6) [.slice (some ⟨o,0,none⟩) m m,.slice T el ec]::(bh 0 (0,1) (.slice T el ec) (bh 0 (0,0) (.slice (some ⟨o,0,none⟩) m m) (M)))) 1 F u h P S6 43 [0,0,0,2,0,0,0,1,0,0,0,2,1,0,0,2] 131069 [] [(6,.bool ((↑m:Int)==(↑m:Int))),(5,.bool ((↑m:Int)==(↑m:Int))),(4,ptr k)] 70 2 [] λa7 w7 S7 CI OD YQ DJ=>cC F S7 h qh CI [1,0,0,2] (.tuple #[.agg #[.slice (some ⟨o,0,none⟩) m m,.slice T el ec],.bool ((↑m:Int)==(↑m:Int)),.bool ((↑m:Int)==(↑m:Int))]) ?_;subst Ty;rw[t1];exact At.assume gN λXh=>K1 K v hLf (A::J) W9 o T ec oh C' w7 k1 (λx y=>χ) Xh k6 S7.sat.tail.tail c1 c2 c3 c4
 .have W1:=RP K;have aaF:((jG n L m g).1 !=0)=true:=χ
  have t1:((jG n L m g).1==(jG n L m g).1)=true:=ψ
  have t2:((jG n L m g).2==(jG n L m g).2)=true:=ψ
  generalize t:jG n L m g=r at W1 aaF t1 t2 S4;let⟨c,i⟩:=r;dsimp only at W1 aaF t1 t2 S4;refine Rb F u h Vx S4 10 [] 1 [] [(23,.slice sa m cap),(22,.slice R n S),(9,i6 i),(8,i6 c),(7,.bool true),(1,.slice sa m cap),(4,ptr k)] 26 1 [] λa5 w5 S5 Yv Y5 Dw qO=>ah F h Yv S5 24 24 #[.slice R n S,.slice sa m cap] λd d=>Ui (i:=i) F u W1 S5.sat ω (λBL yR D M' U VO LM KK=>?_) λI h6 e=>d _ _ _ h6 λa6 B6 S6 P YG=>?_
  .exact r8 F u (λz=>by let⟨a,B,w⟩:=q1 z;exact⟨a,B,U _ w.cons⟩) (λz=>by let⟨a,B,w⟩:=q2 z;exact⟨a,B,U _ w.cons⟩) (λj b z=>by let⟨a,B,w⟩:=q3 j b z;exact⟨a,B,U _ w.cons⟩) VO LM χ
  refine aX (λM=>bR (B6) [.slice none 0 0,.slice none 0 0]::(M)) 1 F u h P S6 17 [0,0,0,2] 6 [] [(12,i6 i),(11,i6 c),(10,ptr B6),(9,i6 i),(8,i6 c),(7,.bool true),(4,ptr k)] 44 3 [] [] [(c !=0,true)] [] [] λa7 w7 S7 CI OD YQ DJ=>?_;let⟨r1,r2⟩:=Yx K;rw[t]at r1 r2;exact HP F u h qh CI ω r1 r2 (S7.dB _ rfl) λa b=>At.assume gN λXh=>K0 J ng1 a W (λx y=>χ) Xh
end
section
variable{L:oF}{g:Nat->Cl}
theorem Ds.old(H:Ds wI R n L sa m g){w:aj}(c:Old wI w):Ds w R n L sa m g:=
 have b:wI.heap.size<=w.heap.size:=c.2.2.2.1
 ⟨IJ H.hL c,λp a=>ga (H.bL p a) b,JA H.hC c,λp a=>ga (H.bC p a) b,λi d e p a=>ga (H.bT i d e p a) b,ga H.i0 b,c.cell _ _ H.hg⟩
abbrev SY(o:Nat)(ou:Nat->Se)(os:p9)(oc:bU)(m:Nat):aH:=fR ⟨o,0,none⟩ 4 (λj=>[i6 (ou j).a,i6 (ou j).b.k,i6 (ou j).b.n,.slice (os j) (ou j).b.ch.length (oc j)]) m false
def Zt{w:aj}{o:Nat}{a:Nat->Se}{g:yX}(h:Sat Ok w C)(q:Has C (nv (some ⟨o,0,none⟩) a g m))(n:∀j,j<m->fu C (g j) (a j).b.ch):
 ∃os l,Sat Ok w (SY o a os l m::C)/\∀j,j<m->0<(a j).b.ch.length->∃b,os j=some b/\Has C (gQ b (a j).b.ch):=by
 have d:∀j,∃p:Option Addr×Nat,j<m->g j=.slice p.1 (a j).b.ch.length p.2/\(0<(a j).b.ch.length->∃b,p.1=some b/\Has C (gQ b (a j).b.ch)):=λj=>by
  by_cases c:j<m
  .rcases n j c with ⟨k,f⟩|⟨b,cap,i,k,f⟩
   .exact⟨(none,0),λ_=>⟨by rw[k,f];rfl,λz=>by rw[f]at z;cases z⟩⟩
   .exact⟨(some b,cap),λ_=>⟨k,λ_=>⟨b,rfl,rfl,i,f⟩⟩⟩
  .exact⟨(none,0),λz=>absurd z c⟩
 refine⟨λj=>(d j).choose.1,λj=>(d j).choose.2,?_,λj c=>((d j).choose_spec c).2⟩;refine(h.get q).G7 0 rfl (SY o a _ _ m) (λj c=>⟨c,rfl,?_⟩) nofun rfl;have e:=((d j.1).choose_spec c.1).1;show List.getD [i6 (a j.1).a,i6 (a j.1).b.k,i6 (a j.1).b.n,.slice (d j.1).choose.1 (a j.1).b.ch.length (d j.1).choose.2] j.2 undef=(yL (a j.1,g j.1)).getD j.2 undef;rw[<-e];rfl
end
end Go.Proofs.YtobagnjnbmgidaaGreatDoor
