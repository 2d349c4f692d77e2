import Derived.Test.YtobagnjnbmgidabGreatDoorC1
set_option linter.all false
set_option maxHeartbeats 0
set_option maxRecDepth 100000
namespace Go.Proofs.YtobagnjnbmgidabGreatDoor
open Go.Conc Go.RowKit Tryz
variable{a:Act}{c:Int}{N' c0 cap ng o:Nat}{C M R:aW}{w:aj}{O cf:aC}{l:aN}{os:p9}{cs:cO}{ea:eP}
variable{V V':Ev0}{D J L2:LS}{r r':p8}{oL T:aN}{I k N B m el o1 o2 o3 q1 q2 r7 v7 E4 n:Nat}{d x:Int}{b Y:Bool}{st':Nat->Int}{Ok:dh}{Ψ:gi}{Post:qz}{w0:aj}{j4 j5 Cw W U:eP}{ou1 ou2 ou3:Nat->Se}{os1 os2 os3:p9}{oc1 oc2 oc3:bU}{Q:aW}{g:Nat->Cl}
abbrev Cu:=Option (Nat×Nat×Option Bk)
def nu:∀{a b:aN},a.Pairwise (·<·)->b.Pairwise (·<·)->(∀x,x∈a↔x∈b)->a=b
 |[],[],_,_,_=>rfl
 |[],y::b,_,_,h=>by have:=(h y).2 (bI ..);cases this
 |x::a,[],_,_,h=>by have:=(h x).1 (bI ..);cases this
 |x::a,y::b,g,f,h=>by
  let⟨d,q1⟩:=iG.1 g;let⟨c,q2⟩:=iG.1 f;have e:x=y:=by
   rcases ak.1 ((h x).1 (bI ..))with z|z
   .exact z
   .rcases ak.1 ((h y).2 (bI ..))with a|a
    .exact a.symm
    .have:=c x z;have:=d y a;omega
  subst e;rw[nu q1 q2 λz=>?_];constructor
  .intro a;have:=d z a;rcases ak.1 ((h z).1 (aP _ a))with e|e
   .omega
   .exact e
  .intro a;have:=c z a;rcases ak.1 ((h z).2 (aP _ a))with e|e
   .omega
   .exact e
section
variable{L:LS}
def wu.sub(h:wu V L r oL)(c:wu V' D r' T)(d:V'.nc=V.nc)(d:D.tl=L.tl)(b:D.tk=L.tk)(a:D.wt=L.wt)(k:∀x y,x<L.tl->y<L.tl->r x->r' y->x=y)(x:Nat):x∈oL->x∈T:=by
 induction x using Nat.strongRecOn with
 |_ x i=>
 intro d;let⟨l,e⟩:=h.mem x d;rcases h.so x d with z|⟨v,j,h,g,f,e⟩
 .let⟨y,d,q⟩:=c.ro;have:=(c.mem y d).1;rw[k x y l ω z q];exact d
 .exact c.cl x ω ω v j (by rw[b];exact h) (by rw[a];exact g) (i j e f)
def wu.uni(h:wu V L r oL)(d:wu V' D r' T)(f:V'.nc=V.nc)(b:D.tl=L.tl)(c:D.tk=L.tk)(a:D.wt=L.wt)(e:∀x y,x<L.tl->y<L.tl->r x->r' y->x=y):T=oL:=
 nu d.nd h.nd λx=>⟨d.sub h f.symm b.symm c.symm a.symm (λx y g g i g=>(e y x ω ω g i).symm) x,h.sub d f b c a e x⟩
end
def Nx(V:Ev0)(x y:Cu×LS):Prop:=
 (∃t k ob,x.1=some (t,k,ob)/\t<x.2.tl/\y=((x.2.step V t k ob).2.map (λq=>(t,q.1,q.2)),(x.2.step V t k ob).1))\/
 x.1=none/\∃i:Nat,cj x.2.ag x.2.al=i/\
  ((∃t:Nat,(x.2.ag i).t=t/\(x.2.ag i).c=0/\y=(some (t,(x.2.tk t).p,none),x.2.pop i))\/
   (∃w:Nat,(x.2.ag i).c=1/\(x.2.ag i).w=w/\((x.2.wt w).x=true\/(x.2.wt w).e=true)/\y=(none,x.2.pop i))\/
   ∃(t w k:Nat)(ob:Option Bk)(D:LS),(∃m X μ ν E,uW V m x.2 X μ ν E none)/\(x.2.ag i).t=t/\(x.2.ag i).w=w/\(x.2.wt w).e=false/\((x.2.ag i).c=1/\(x.2.wt w).x=false\/(x.2.ag i).c=2\/(x.2.ag i).c=3)/\OnR V t w (x.2.ag i).c ((x.2.pop i).bV t w) k ob D/\y=(some (t,k,ob),D))
def His(V:Ev0)(c:Cu)(L:LS):Prop:=∃(N:Nat)(h:Nat->Cu×LS),h 0=(none,ko V)/\h N=(c,L)/\∀i,i<N->Nx V (h i) (h (i+1))
def His.next{c a:Cu}{L:LS}(H:His V c L)(b:Nx V (c,L) (a,D)):His V a D:=by
 let⟨N,h,c,f,d⟩:=H;refine⟨N+1,upd h (N+1) (a,D),by simp[upd,c],by simp[upd],λi c=>?_⟩;by_cases e:i=N
 .subst e;rw[show upd h (i+1) (a,D) i=h i from af ω,show upd h (i+1) (a,D) (i+1)=(a,D)from sJ rfl,f];exact b
 .rw[show upd h (N+1) (a,D) i=h i from af ω,show upd h (N+1) (a,D) (i+1)=h (i+1)from af ω];exact d i ω
def W3(V:Ev0):Xb V (His V) where
 step t k d L H S _ _ _ _:=H.next (.inl ⟨t,k,d,rfl,S.tn,rfl⟩)
 start i t L H _ c b a:=H.next (.inr ⟨rfl,i,c,.inl ⟨t,b,a,rfl⟩⟩)
 late i w L H c b a f:=H.next (.inr ⟨rfl,i,c,.inr (.inl ⟨w,b,a,f,rfl⟩)⟩)
 JB i t w L k d D H h e e g c b a f f S e:=H.next (.inr ⟨rfl,i,c,.inr (.inr ⟨t,w,k,d,D,h,b,a,f,g.imp id λz=>z.1,e,rfl⟩)⟩)
def aai(V:Ev0):His V none (ko V):=⟨0,λ_=>(none,ko V),rfl,rfl,λi a=>ω⟩
structure GR(d:Int)(g g':Gt):Prop where
 sm:g'.sm=g.sm
 nx:g.sm=true->g'.nx=g.nx+d
 st:g'.st=g.st
 pd:g'.pd=g.pd
 si:g.st=1->g'.si=g.si+d
 la:g'.la=g.la
 pr:g'.pr=g.pr
 tn:g'.tn=g.tn
structure Rl(I:Nat)(d:Int)(b:Bool)(L D:LS):Prop where
 al:D.al=L.al
 ag:∀i,i<L.al->D.ag i=⟨(L.ag i).a+d,(L.ag i).t,(L.ag i).w,(L.ag i).c,(L.ag i).o⟩
 tl:D.tl=L.tl
 tk:D.tk=L.tk
 wl:D.wl=L.wl
 wt:D.wt=L.wt
 us:D.us=L.us
 el:D.el=L.el
 ev:∀i,i<L.el->D.ev i=⟨(L.ev i).a+d,(L.ev i).c,(L.ev i).l,(L.ev i).w,(L.ev i).n⟩
 ou:∀c,c<I->(L.tk c).e=true->D.ou c=⟨(L.ou c).a+d,(L.ou c).b⟩/\0<=(D.ou c).a/\(D.ou c).a<1000000000000/\(L.ou c).b.ch.length<1000000
 eb:∀i,i<L.el->0<=(D.ev i).a/\(D.ev i).a<1000000000000
 nb:b=true->0<=D.now/\D.now<1000000000000
 now:b=true->D.now=L.now+d
 gt:∀k,GR d (L.gt k) (D.gt k)
 tn:I<=L.tl
 ro:∀t,t<I->(L.tk t).c=t/\(L.tk t).p=0
section
variable{L:LS}{t:Nat}
def Rl.say(h:Rl I d true L D)(t:Nat)(l q n:Int):Rl I d true (L.say t l q n) (D.say t l q n):=by
 cases h;constructor<;>simp only[LS.say,upd]<;>grind
def Rl.put(h:Rl I d true L D){e a:qy}(b:a=⟨e.a+d,e.t,e.w,e.c,e.o⟩):Rl I d true (L.put e) (D.put a):=by
 cases h;constructor<;>simp only[LS.put,upd]<;>grind
def Rl.cB(h:Rl I d true L D)(t:Nat)(l:Int)(cb:Bool):Rl I d true (L.cB t l cb) (D.cB t l cb):=by
 cases h;constructor<;>simp only[LS.cB,upd]<;>grind
def Rl.wait(h:Rl I d true L D)(t:Nat)(l a:Int)(b:Bool):Rl I d true (L.wait t l a b) (D.wait t l a b):=
 (h.cB t l b).put (by simp[h.now rfl,h.wl];omega)
def Rl.VE(h:Rl I d true L D)(w:Nat)(f:tU->tU):Rl I d true {L with wt:=upd L.wt w (f (L.wt w))} {D with wt:=upd D.wt w (f (D.wt w))}:=by
 cases h;constructor<;>simp only[upd]<;>grind
def Rl.fix(h:Rl I d true L D)(w:Nat)(z:Int)(b:Bk):Rl I d true (L.fix w z b) (D.fix w z b):=
 (h.VE w λx=>{x with x:=true,z:=z,b:=b}).put (by simp[h.now rfl,h.wt])
def Rl.qA(h:Rl I d true L D)(w:Nat)(z:Int)(b:Bk):Rl I d true (L.qA w z b) (D.qA w z b):=by
 unfold LS.qA;rw[h.wt];split
 .exact h.fix w z b
 .exact h
def Rl.D2(h:Rl I d true L D)(t:Nat)(f:Ot->Ot)(a:(f (L.tk t)).c=(L.tk t).c/\(f (L.tk t)).p=(L.tk t).p)(a:(f (L.tk t)).e=(L.tk t).e\/I<=t):Rl I d true {L with tk:=upd L.tk t (f (L.tk t))} {D with tk:=upd D.tk t (f (D.tk t))}:=by
 cases h;constructor<;>simp only[upd]<;>grind
def Rl.end_(h:Rl I d true L D)(t:Nat)(b:Bk)(e:b.ch.length<1000000):Rl I d true (L.end_ t b) (D.end_ t b):=by
 unfold LS.end_;rw[h.tk];split
 .cases h;constructor<;>simp only[LS.done,upd]<;>grind
 .rename_i a;have c:=h.qA (L.tk t).f.toNat 2 b;exact c.D2 t (λx=>{x with e:=true}) ⟨rfl,rfl⟩ (.inr (Nat.le_of_not_lt λz=>a (h.ro t z).2))
def Rl.begin(h:Rl I d true L D)(t w k:Nat):Rl I d true (L.begin t w k) (D.begin t w k):=by
 have e:Rl I d true {L with tl:=L.tl+1,tk:=upd L.tk L.tl ⟨(L.tk t).c,w,k+1,-1,false,false,-1,λ_=>0,λ_=>0⟩,wt:=upd L.wt w {L.wt w with i:=L.tl}} {D with tl:=D.tl+1,tk:=upd D.tk D.tl ⟨(D.tk t).c,w,k+1,-1,false,false,-1,λ_=>0,λ_=>0⟩,wt:=upd D.wt w {D.wt w with i:=D.tl}}:=by
  cases h;constructor<;>simp only[upd]<;>grind
 exact e.put (by simp[h.now rfl,h.tl])
def Rl.iC(h:Rl I d true L D)(j:Nat):Rl I d true (L.iC j) (D.iC j):=by
 unfold LS.iC;rw[h.tk];split
 .exact h
 .have:=h.D2 j (λx=>{x with x:=true}) ⟨rfl,rfl⟩ (.inl rfl);rw[h.tk]at this;exact this
def Rl.jv(h:Rl I d true L D)(j:Nat):Rl I d true (L.jv j) (D.jv j):=by
 unfold LS.jv;rw[h.tk];split
 .exact h
 .exact h.qA _ _ _
def Rl.fold{f:LS->Nat->LS}(a:∀{L D},Rl I d true L D->∀j,Rl I d true (f L j) (f D j)):∀(l:aN){L D:LS},Rl I d true L D->Rl I d true (l.foldl f L) (l.foldl f D)
 |[],_,_,h=>h
 |j::l,_,_,h=>Rl.fold a l (a h j)
def Rl.cancel(h:Rl I d true L D)(oL:aN):Rl I d true (L.cancel oL) (D.cancel oL):=Rl.fold (λh j=>h.jv j) oL (Rl.fold (λh j=>h.iC j) oL h)
def Rl.aO(h:Rl I d true L D)(k:Nat){g g':Gt}(a:GR d g g'):Rl I d true (L.aO k g) (D.aO k g'):=by
 cases h;constructor<;>simp only[LS.aO,upd]<;>grind
def Rl.aag(h:Rl I d b L D)(i:Nat)(a:i<L.al):Rl I d false (L.pop i) (D.pop i):=by
 have:=h.ag i a;cases h;constructor<;>simp only[LS.pop,upd]<;>grind
def Rl.pop(h:Rl I d b L D)(i:Nat)(a:i<L.al)(b:0<=(D.ag i).a/\(D.ag i).a<1000000000000):Rl I d true (L.pop i) (D.pop i):=
 {h.aag i a with now:=λ_=>by show(D.ag i).a=(L.ag i).a+d;rw[h.ag i a],nb:=λ_=>b}
def Rl.bV(h:Rl I d true L D)(t w:Nat):Rl I d true (L.bV t w) (D.bV t w):=by
 have:=(h.VE w λx=>{x with e:=true}).D2 t (λx=>{x with w:=-1}) ⟨rfl,rfl⟩ (.inl rfl);exact this
def Rl.off(h:Rl I d b L D):Rl I d false L D:={h with now:=nofun,nb:=nofun}
end
def RlP(I:Nat)(d:Int)(x x':LS×Option (Nat×Option Bk)):Prop:=x'.2=x.2/\Rl I d true x.1 x'.1
section
variable{L:LS}
def Rl.nV(h:Rl I d true L D)(t k:Nat):RlP I d (L.nV t k) (D.nV t k):=⟨rfl,h.say ..⟩
def Rl.drop(h:Rl I d true L D)(t k:Nat):RlP I d (L.drop t k) (D.drop t k):=⟨rfl,h.say ..⟩
def Rl.jg(h:Rl I d true L D)(y:ju)(t k:Nat):RlP I d (L.jg y t k) (D.jg y t k):=by
 have g:=h.gt k;have f:=h.now rfl;have a:=g.sm;have i:=g.nx;have c:((D.gt k).sm=true/\(D.gt k).nx-D.now>(y.b-1)*y.a)↔((L.gt k).sm=true/\(L.gt k).nx-L.now>(y.b-1)*y.a):=by
  rw[a];constructor<;>(rintro ⟨b,j⟩;refine⟨b,?_⟩;have:=i b;omega)
 unfold LS.jg;simp only[c];split
 .exact h.nV t k
 .refine⟨rfl,(h.aO k ?_).say ..⟩;refine⟨rfl,λ_=>?_,g.st,g.pd,g.si,g.la,g.pr,g.tn⟩;simp only;cases e:(L.gt k).sm with
  |false=>rw[e]at a;simp[a,f];omega
  |true=>
   rw[e]at a;have:=i e;simp only[a,this,f];by_cases z:(L.gt k).nx<L.now
   .have b:(L.gt k).nx+d<L.now+d:=ω
    rw[sJ (.inr b),sJ (.inr z)];omega
   .have b:¬(L.gt k).nx+d<L.now+d:=ω
    simp[z,b];omega
def GR.turn{g g':Gt}(h:GR d g g'){n a:Int}(b:a=n+d)(st:Int):GR d (g.turn n st) (g'.turn a st):=⟨h.sm,h.nx,rfl,by show _+_=_+_;rw[h.pd],λ_=>b,rfl,rfl,h.tn⟩
def Rl.aM(h:Rl I d true L D)(t k:Nat):Rl I d true (L.aM t k) (D.aM t k):=by
 unfold LS.aM;rw[(h.gt k).st];split
 .exact(h.aO k ((h.gt k).turn (h.now rfl) 2)).say ..
 .exact h
def Rl.cz(h:Rl I d true L D)(k:Nat):Rl I d true (L.cz k) (D.cz k):=by
 unfold LS.cz;have g:=h.gt k;rw[g.st];split
 .exact h.aO k ⟨g.sm,g.nx,g.st,g.pd,g.si,g.la,by simp only;rw[g.pr],g.tn⟩
 .exact h
def Rl.mark(h:Rl I d true L D)(t k:Nat):Rl I d true (L.mark t k) (D.mark t k):=by
 have:=h.D2 t (λx=>{x with q:=upd x.q k (L.gt k).pd}) ⟨rfl,rfl⟩ (.inl rfl);unfold LS.mark;rw[(h.gt k).pd];exact this
def Rl.pass(h:Rl I d true L D)(y:ju)(t k:Nat):RlP I d (L.pass y t k) (D.pass y t k):=by
 have g:=h.gt k;have a:=h.now rfl;have a:=h.aM t k;have d:=a.gt k;unfold LS.pass;have c:((D.gt k).st=1/\D.now-(D.gt k).si<y.d)↔((L.gt k).st=1/\L.now-(L.gt k).si<y.d):=by
  rw[g.st];constructor<;>(rintro ⟨b,e⟩;refine⟨b,?_⟩;have:=g.si b;omega)
 simp only[c,d.st,d.pr];split
 .exact h.nV t k
 .split
  .exact a.nV t k
  .exact⟨rfl,((a.cz k).mark t k).say ..⟩
def Rl.count(h:Rl I d true L D)(y:ju)(t j:Nat)(b:Bk):Rl I d true (L.count y t j b) (D.count y t j b):=by
 have g:=h.gt j;have a:(D.gt j).keep y (decide (b.k≠1))=(L.gt j).keep y (decide (b.k≠1)):=by unfold Gt.keep;rw[g.st,g.la]
 have G:GR d {L.gt j with la:=(L.gt j).keep y (decide (b.k≠1))} {D.gt j with la:=(L.gt j).keep y (decide (b.k≠1)),st:=(L.gt j).st,pd:=(L.gt j).pd}:=⟨g.sm,g.nx,rfl,rfl,g.si,rfl,g.pr,g.tn⟩;unfold LS.count;simp only[a,h.tk,g.pd,g.st];split
 .exact h
 split
 .exact h.aO j ⟨g.sm,g.nx,rfl,rfl,g.si,g.la,by simp only[g.pr],g.tn⟩
 split
 .exact(h.aO j (G.turn (h.now rfl) 1)).say ..
 split
 .exact(h.aO j (G.turn (h.now rfl) 0)).say ..
 .exact h.aO j G
def Rl.take(h:Rl I d true L D)(y:ju)(t k:Nat):RlP I d (L.take y t k) (D.take y t k):=by
 have g:=h.gt k;unfold LS.take;rw[g.tn,h.tk];split
 .exact⟨rfl,(h.aO k (g:={L.gt k with tn:=(L.gt k).tn+1}) (g':={D.gt k with tn:=(L.gt k).tn+1}) ⟨g.sm,g.nx,g.st,g.pd,g.si,g.la,g.pr,rfl⟩).say ..⟩
 split
 .exact h.nV t k
 split
 .exact(h.say ..).drop t k
 .exact⟨rfl,(h.say ..).wait ..⟩
def Rl.uX(h:Rl I d true L D)(y:ju)(t k:Nat):RlP I d (L.uX y t k) (D.uX y t k):=by
 unfold LS.uX;rw[h.tk,h.wl];split
 .exact h.drop t k
 .exact⟨rfl,(h.wait ..).begin ..⟩
def Rl.fC(h:Rl I d true L D)(t k:Nat):Rl I d true (L.fC t k) (D.fC t k):=by
 have g:=h.gt k;unfold LS.fC;rw[h.wt,h.wl];split
 .exact(h.say ..).fix ..
 .exact(h.say ..).aO k ⟨g.sm,g.nx,g.st,g.pd,g.si,g.la,g.pr,by simp only;rw[g.tn]⟩
def Rl.aaw(h:Rl I d true L D)(f:Nat->Int):Rl I d true {L with us:=f} {D with us:=f}:={h with us:=rfl}
def Rl.step(h:Rl I d true L D)(V:Ev0)(t k:Nat)(a:Option Bk)(i:∀b,a=some b->b.ch.length<1000000):RlP I d (L.step V t k a) (D.step V t k a):=by
 let⟨_,_,_,_,d,e,_,f,_,_,_,g⟩:=D;obtain rfl:d=L.tk:=h.tk;obtain rfl:f=L.us:=h.us;obtain rfl:e=L.wl:=h.wl;cases a with
 |none=>
  unfold LS.step;dsimp only;split
  .have c:=(h.aaw (upd L.us (L.tk t).c.toNat (L.us (L.tk t).c.toNat+1))).say t (-1) 1 (L.us (L.tk t).c.toNat);split
   .exact⟨rfl,c.say ..⟩
   .exact⟨rfl,(c.wait t V.nl (aU V (L.tk t).c.toNat (L.us (L.tk t).c.toNat).toNat).t false).VE L.wl λx=>{x with b:=⟨(cN (aU V (L.tk t).c.toNat (L.us (L.tk t).c.toNat).toNat)).k,(cN (aU V (L.tk t).c.toNat (L.us (L.tk t).c.toNat).toNat)).n,⟨0,0,L.us (L.tk t).c.toNat⟩::(cN (aU V (L.tk t).c.toNat (L.us (L.tk t).c.toNat).toNat)).ch⟩}⟩
  split
  .exact⟨rfl,h.D2 t (λx=>{x with a:=upd x.a k 1}) ⟨rfl,rfl⟩ (.inl rfl)⟩
  split
  .exact h.jg ..
  split
  .exact h.pass ..
  split
  .exact h.take ..
  split
  .exact h.uX ..
  .exact⟨rfl,h⟩
 |some b=>
  unfold LS.step;dsimp only;split
  .exact⟨rfl,h.end_ t b (i b rfl)⟩
  split
  .split
   .exact⟨rfl,h⟩
   split
   .exact⟨rfl,h.say ..⟩
   .have c:=h.say t ((k-1:Nat):Int) 3 (aI (V.ly (k-1)) ((L.tk t).a (k-1)));have a:=c.D2 t (λx=>{x with a:=upd x.a (k-1) ((L.tk t).a (k-1)+1)}) ⟨rfl,rfl⟩ (.inl rfl);split
    .exact Rl.drop a ..
    split
    .exact⟨rfl,Rl.wait a ..⟩
    .exact⟨rfl,a⟩
  split
  .exact⟨rfl,h.count ..⟩
  split
  .exact⟨rfl,h.fC ..⟩
  split
  .exact⟨rfl,h.say ..⟩
  .exact⟨rfl,h⟩
end
section
variable{L:LS}
def Rl.next(h:Rl I d b L D):cj D.ag D.al=cj L.ag L.al:=by
 have:∀n,n<=L.al->cj D.ag n=cj L.ag n:=λn=>by
  induction n with
  |zero=>exact λ_=>rfl
  |succ n a=>
   intro b;have e:=a ω;have a:=h.ag n ω;unfold cj;rw[e];rcases rS L.ag n with z|⟨k,b,b⟩
   .rw[z,a];simp
   .have c:=h.ag k ω;rw[b,mY,a,c];simp
 rw[h.al];exact this _ (az _)
def Rl.onr(h:Rl I d true L D){t w p:Nat}{o b:Option Bk}{f:LS}(r:OnR V t w c L k o J)(l:OnR {V with st:=st'} t w c D p b f)(s:∀x y,x<L.tl->y<L.tl->(L.tk x).f=w->(L.tk y).f=w->x=y):p=k/\b=o/\Rl I d true J f:=by
 unfold OnR at r l;rw[h.wt]at l;dsimp only at l;rcases r with ⟨c,b,y,ch,n,d,A,z⟩|⟨j,c,b,n⟩
 .rcases l with ⟨i,g,b,b,m,b,v,u⟩|⟨q,i,g,m⟩
  .rw[n]at m;cases m;exact⟨ω,by rw[v,A],by rw[z,u];exact h.say ..⟩
  .omega
 .rcases l with ⟨i,g,m⟩|⟨q,i,g,m⟩
  .omega
  .obtain rfl:q=j:=ω
   rcases n with ⟨q1,q2,b,i,g⟩|⟨q1,q2,b,i,g⟩|⟨q1,q2,b,i,g⟩|⟨q1,q2,b,i,g⟩|⟨q1,q2,b,i,oL,g,k⟩|⟨q1,q2,b,i,g⟩
   .rcases m with ⟨f,d,c,b,a⟩|⟨f,d,c,b,a⟩|⟨f,d,c,b,a⟩|⟨f,d,c,b,a⟩|⟨f,d,c,b,T,a,j⟩|⟨f,d,c,b,a⟩
    .exact⟨ω,by rw[i,b],by rw[g,a];exact h.say ..⟩
    all_goals omega
   .rcases m with ⟨f,d,c,b,a⟩|⟨f,d,c,b,a⟩|⟨f,d,c,b,a⟩|⟨f,d,c,b,a⟩|⟨f,d,c,b,T,a,j⟩|⟨f,d,c,b,a⟩
    .omega
    .exact⟨ω,by rw[i,b],by rw[g,a];exact h⟩
    all_goals omega
   .rcases m with ⟨f,d,c,b,a⟩|⟨f,d,c,b,a⟩|⟨f,d,c,b,a⟩|⟨f,d,c,b,a⟩|⟨f,d,c,b,T,a,j⟩|⟨f,d,c,b,a⟩
    .omega
    .omega
    .exact⟨ω,by rw[i,b],by rw[g,a];exact h.say ..⟩
    all_goals omega
   .rcases m with ⟨f,d,c,b,a⟩|⟨f,d,c,b,a⟩|⟨f,d,c,b,a⟩|⟨f,d,c,b,a⟩|⟨f,d,c,b,T,a,j⟩|⟨f,d,c,b,a⟩
    .omega
    .omega
    .omega
    .exact⟨ω,by rw[i,b],by rw[g,a];exact h.say ..⟩
    all_goals omega
   .rcases m with ⟨f,d,c,b,a⟩|⟨f,d,c,b,a⟩|⟨f,d,c,b,a⟩|⟨f,d,c,b,a⟩|⟨f,d,c,b,T,a,j⟩|⟨f,d,c,b,a⟩
    .omega
    .omega
    .omega
    .omega
    .rw[h.tk]at a;have e:T=oL:=g.uni a rfl h.tl h.tk h.wt s;exact⟨ω,by rw[i,b],by rw[k,j,e];exact(h.say ..).cancel oL⟩
    .omega
   .rcases m with ⟨f,d,c,b,a⟩|⟨f,d,c,b,a⟩|⟨f,d,c,b,a⟩|⟨f,d,c,b,a⟩|⟨f,d,c,b,T,a,j⟩|⟨f,d,c,b,a⟩
    .omega
    .omega
    .omega
    .omega
    .omega
    .exact⟨ω,by rw[i,b],by rw[g,a];exact h⟩
def Sj(I:Nat)(d:Int)(h:Nat->Cu×LS)(N:Nat)(c:Cu)(D:LS):Prop:=∃i,i<=N/\(h i).1=c/\Rl I d c.isSome (h i).2 D
def Rl.le(h:Rl I d true L D):Rl I d b L D:=by
 cases b
 .exact h.off
 .exact h
variable{h:Nat->Cu×LS}
def v8(o:h N=(none,J))(g:cj J.ag J.al<0)(l:∀i,i<N->Nx V (h i) (h (i+1)))(H:Sj I d h N none D){a:Nat}(g:cj D.ag D.al=a):∃i,i<N/\Rl I d false (h i).2 D/\a<(h i).2.al/\(h i).2.al=D.al/\D.ag a=⟨((h i).2.ag a).a+d,((h i).2.ag a).t,((h i).2.ag a).w,((h i).2.ag a).c,((h i).2.ag a).o⟩/\
 ((∃t:Nat,((h i).2.ag a).t=t/\((h i).2.ag a).c=0/\h (i+1)=(some (t,((h i).2.tk t).p,none),(h i).2.pop a))\/
  (∃w:Nat,((h i).2.ag a).c=1/\((h i).2.ag a).w=w/\(((h i).2.wt w).x=true\/((h i).2.wt w).e=true)/\h (i+1)=(none,(h i).2.pop a))\/
  ∃(t w k:Nat)(c:Option Bk)(D:LS),(∃m X g d E,uW V m (h i).2 X g d E none)/\((h i).2.ag a).t=t/\((h i).2.ag a).w=w/\((h i).2.wt w).e=false/\(((h i).2.ag a).c=1/\((h i).2.wt w).x=false\/((h i).2.ag a).c=2\/((h i).2.ag a).c=3)/\OnR V t w ((h i).2.ag a).c (((h i).2.pop a).bV t w) k c D/\h (i+1)=(some (t,k,c),D)):=by
 let⟨i,d,p,b⟩:=H;have e:=b.next;by_cases n:i=N
 .subst n;rw[o]at e;have:cj D.ag D.al=cj J.ag J.al:=e;omega
 .refine⟨i,ω,b,?_⟩;rcases l i ω with ⟨t,k,c,q1,q2⟩|⟨q1,f,q2,j⟩
  .rw[p]at q1;cases q1
  .obtain rfl:f=a:=ω
   have a:f<(h i).2.al:=by
    rcases rS (h i).2.ag (h i).2.al with z|⟨k,c,c⟩<;>omega
   exact⟨a,b.al.symm,b.ag f a,j⟩
def Ro(G:h N=(none,J))(M:cj J.ag J.al<0)(F:∀i,i<N->Nx V (h i) (h (i+1))):Xb {V with st:=st'} (Sj I d h N) where
 step t k B D H S _ _ _ T:=by
  let⟨i,h1,K,h3⟩:=H;have Q:i≠N:=λe=>by subst e;rw[G]at K;cases K
  rcases F i ω with ⟨g,k',PE,q1,_,q2⟩|⟨q1,_⟩
  .rw[K]at q1;cases q1;have r:=Rl.step h3 V t k B λb Z=>(T b Z).1;refine⟨i+1,ω,?_,?_⟩
   .rw[q2];exact(cT (Option.map λq=>(t,q.1,q.2)) r.1).symm
   .rw[q2];exact r.2.le
  .rw[K]at q1;cases q1
 start s t D H hP u c n:=by
  let⟨_,m,X,μ,ν,E,P⟩:=hP;have Z:=P.ta s (by rcases rS D.ag D.al with z|⟨k,l,o⟩<;>omega) (qI _ _ _ u).2;have L:=P.x;obtain⟨i,Q,R,v,ha,j,z|z|z⟩:=v8 G M F H u
  .let⟨g,l,o,a⟩:=z;rw[j]at c;obtain rfl:g=t:=by simp only at c;omega
   refine⟨i+1,ω,by rw[a,R.tk],?_⟩;rw[a];exact R.pop s v ω
  .let⟨w,l,_⟩:=z;rw[j]at n;simp only at n;omega
  .let⟨g,w,k,B,L2,_,_,_,_,l,_⟩:=z;rw[j]at n;simp only at n;omega
 late s w D H u c n f:=by
  obtain⟨i,Q,R,v,ha,j,z|z|z⟩:=v8 G M F H u
  .let⟨g,l,o,a⟩:=z;rw[j]at c;simp only at c;omega
  .let⟨p,l,o,a,A⟩:=z;refine⟨i+1,ω,by rw[A],?_⟩;rw[A];exact R.aag s v
  .let⟨g,p,k,B,L2,_,_,l,o,a,_⟩:=z;rw[j]at c n;simp only at c n;obtain rfl:p=w:=ω
   rw[R.wt]at f;rcases a with a|a
   .rcases f with f|f
    .rw[a.2]at f;cases f
    .rw[o]at f;cases f
   .omega
 JB s t w D k B L2' H hP n0 u c n f C n6 Y S O:=by
  obtain⟨i,Q,R,v,ha,j,z|z|z⟩:=v8 G M F H n
  .let⟨g,l,o,a⟩:=z;rw[j]at c;simp only at c;omega
  .let⟨p,l,o,a,A⟩:=z;rw[j]at c C;simp only at c C;obtain rfl:p=w:=ω
   rw[R.wt]at c Y;rcases c with c|c
   .rcases a with a|a
    .rw[c.2]at a;cases a
    .rw[Y]at a;cases a
   .omega
  .let⟨g,p,k1,ob1,L2,⟨m,X,μ,ν,E,P⟩,l,o,a,A,z5,U⟩:=z;rw[j]at f C O;simp only at f C O;obtain rfl:g=t:=ω
   obtain rfl:p=w:=ω
   have R1:=(R.pop s v S.now).bV g p;have key:=R1.onr z5 O λx y L hy fx fy=>by
    have tf:∀x,((((h i).2.pop s).bV g p).tk x).f=((h i).2.tk x).f:=λx=>by
     simp only[LS.bV,LS.pop,upd];split
     .rename_i e;subst e;rfl
     .rfl
    rw[tf]at fx fy;refine P.fi x y L hy ?_ (by rw[fx,fy]);rcases(P.tk x L).p with q|⟨_,_,_,_,_,_,_,q⟩<;>omega
   refine⟨i+1,ω,?_,?_⟩
   .rw[U,key.1,key.2.1]
   .rw[U];exact key.2.2
def aac(e:h 0=(none,ko V))(b:∀i,i<V.nc->st' i=V.st i+d):Sj V.nc d h N none (ko {V with st:=st'}):=by
 refine⟨0,gl _,by rw[e],?_⟩;rw[e];exact⟨rfl,λi a=>(by simp only[ko];rw[b i a]),rfl,rfl,rfl,rfl,rfl,rfl,λi a=>absurd a (uk _),λc _ f=>(by cases f),λi a=>absurd a (uk _),nofun,nofun,λk=>⟨rfl,nofun,rfl,rfl,λz=>(by cases z),rfl,rfl,rfl⟩,az _,λt a=>⟨rfl,rfl⟩⟩
def Fa(f:h N=(none,J))(b:∀i,i<N->Nx V (h i) (h (i+1)))(H:Sj I d h N none D)(h:cj D.ag D.al<0):Rl I d false J D:=by
 let⟨i,d,g,a⟩:=H;have e:=a.next;by_cases c:i=N
 .subst c;rw[f]at a;exact a
 .rcases b i ω with ⟨t,k,b,q1,q2⟩|⟨q1,b,q2,b⟩
  .rw[g]at q1;cases q1
  .omega
end
def OZ.lat(x:OZ)(d:Int):OZ:=⟨x.a+d,x.c,x.l,x.w,x.n⟩
def KF(F:aB prog Y (DX Ok) Ψ)(n:HB B Ok){O:aC}(a:O.kind=.normal)(j:O.fn=11){cf:aC}{cs:cO}{M:aW}{p o:Addr}{c b:Nat}{L:List iN}(h:L.length<1000000){q:Nat}(u:B<=q):
 ∀(m i:Nat)(k:Act)(w:aj),i+m=L.length->k.defers=[]->w.heap.size=q->St Ok q 26 [(5,i6 i),(0,.slice (some p) L.length c),(1,.slice (some o) L.length b)] (gQ p L::gQ o L::M) 0 k w->
   (∀f,Sat Ok f M->w.heap.size<=f.heap.size->Ψ (G (cf.finish (.bool true)) cs) f)->Ψ (G (O.at k (pc prog 11 22 [false] [])) (cf::cs)) w
 |0,i,k,w,z,e,s,x,K=>by
  have v:decide ((i:Int)<(L.length:Int))=false:=θ
  refine ZI F n a j e x 14 [] 4 [] 4 (.bool true) 36 4 [] [] [(decide ((↑i:Int)<(↑(List.length L):Int)),false)] [] [] λr l g t=>K r l.sat.tail.tail ω
 |m+1,i,k,w,z,e,s,x,K=>by
  have v:decide ((i:Int)<(L.length:Int))=true:=θ
  refine TP F n a e x 14 [0,i,0,103,1,i,0,103] 106 [8] [(24,.agg #[i6 (List.getD L i (iN.mk 0 0 0)).k,i6 (List.getD L i (iN.mk 0 0 0)).l,i6 (List.getD L i (iN.mk 0 0 0)).n]),(20,.agg #[i6 (List.getD L i (iN.mk 0 0 0)).k,i6 (List.getD L i (iN.mk 0 0 0)).l,i6 (List.getD L i (iN.mk 0 0 0)).n]),(5,i6 i),(0,.slice (some p) (List.length L) c),(1,.slice (some o) (List.length L) b)] 36 6 [8] [] [(decide ((↑i:Int)<(↑(List.length L):Int)),true)] [((↑i:Int),List.length L),((↑i:Int),List.length L)] [(6,(i,List.length L))] λe r l e g t s=>neS F a 20 24 25 40 [(L.getD i ⟨0,0,0⟩).k,(L.getD i ⟨0,0,0⟩).l,(L.getD i ⟨0,0,0⟩).n] ρ ρ ρ δ rfl rfl l λt s d=>?_;rw[show jB (pc prog 11 36 (Bo 6) [8])=pc prog 11 37 [false,true] [8] by kernel_rfl];have w:St Ok q 26 _ _ 0 t r:=⟨s,l.sat,l.sz⟩;have l:=g;replace d:=d.trans e;have g:IntKind.wrap .i64 ((i:Int)+1)=((i+1:Nat):Int):=by rw[aA ω ω];rfl
  refine Rb F n a d w 10 [] 5 [] [(5,i6 (IntKind.wrap .i64 ((↑i:Int)+1))),(0,.slice (some p) (List.length L) c),(1,.slice (some o) (List.length L) b)] 47 10 [8] λl c y b e e e=>?_;rw[g]at y;rw[show pc prog 11 47 (Bo 10) [8]=pc prog 11 22 [false] [] by kernel_rfl];exact KF F n a j h u m (i+1) l c ω b ω y λf v a=>K f v ω
def JV(F:aB prog Y (DX Ok) Ψ)(j:HB B Ok){i h:Addr}{b a:Nat}{L:List iN}(d:L.length<1000000)(e:Sat Ok w (gQ i L::gQ h L::M))(c:B<=w.heap.size)(K:∀c,Sat Ok c M->w.heap.size<=c.heap.size->Ψ (G (cf.finish (.bool true)) cs) c):Ψ (G (Frame.enter prog 11 #[.slice (some i) L.length b,.slice (some h) L.length a] .normal) (cf::cs)) w:=by
 have f:((L.length:Int) !=(L.length:Int))=false:=ψ
 refine cJ func11 e 26 λO e e e e g f l k=>TP F j e f l 22 [] 4 [] [(5,i6 0),(0,.slice (some i) (List.length L) b),(1,.slice (some h) (List.length L) a)] 22 2 [] [] [((↑(List.length L):Int) !=(↑(List.length L):Int),false)] [] [] λh b i a f f f=>KF F j e g d ω L.length 0 h b (bK _) a ω i λc a b=>K c a ω
def JG(F:aB prog Y (DX Ok) Ψ)(f:HB B Ok){h g:eP}{b a:Nat}(d:Sat Ok w M)(c:B<=w.heap.size)(K:∀c,Sat Ok c M->w.heap.size<=c.heap.size->Ψ (G (cf.finish (.bool true)) cs) c):Ψ (G (Frame.enter prog 11 #[.slice h 0 b,.slice g 0 a] .normal) (cf::cs)) w:=by
 refine cJ func11 d 26 λO c c c c e d j i=>Rb F f c d j 22 [] 5 [] [(5,i6 0),(0,.slice h 0 b),(1,.slice g 0 a)] 22 2 [] λa a d a b b b=>UF F f c e a d 14 [] 5 [] 4 (.bool true) 36 4 [] λa c b b=>K a c.sat ω
def J0(F:aB prog Y (DX Ok) Ψ)(g:HB B Ok){o1 o2:eP}{i h:Nat}{L:List iN}(b:L.length<1000000)(k:0<L.length->∃d,o1=some d/\Has M (gQ d L))(j:0<L.length->∃d,o2=some d/\Has M (gQ d L))(f:Sat Ok w M)(c:B<=w.heap.size)(K:∀a,Sat Ok a M->w.heap.size<=a.heap.size->Ψ (G (cf.finish (.bool true)) cs) a):Ψ (G (Frame.enter prog 11 #[.slice o1 L.length i,.slice o2 L.length h] .normal) (cf::cs)) w:=by
 by_cases e:L.length=0
 .have:L=[]:=LI.1 e;subst this;exact JG F g f c K
 .obtain⟨d,rfl,m⟩:=k ω;obtain⟨d,rfl,l⟩:=j ω;exact JV F g b ((f.get l).get m.cons) c λa c b=>K a c b
def Cf(F:aB prog Y (DX Ok) Ψ)(s:HB B Ok){O:aC}(c:O.kind=.normal){cs:cO}{R:aW}{f e el r7 v7:Nat}{E D:ay}{j4 j5:eP}{d:Int}{ev b:Nat->OZ}(v:el<1000000)(I:0<el->∃a,j4=some a)(H:0<el->∃a,j5=some a)(p:∀i,i<el->b i=(ev i).lat d/\0<=(b i).a/\(b i).a<1000000000000):
 ∀(m i:Nat)(q:Act)(w:aj)(n:Nat),i+m=el->q.defers=[]->B<=n->w.heap.size=n->St Ok n 100 [(7,i6 i),(2,i6 d),(3,ptr f),(4,ptr e)] (bR f [E,.slice j4 el r7]::bR e [D,.slice j5 el v7]::sK j4 ev el::sK j5 b el::R) 0 q w->
   (∀r l,r.defers=[]->w.heap.size<=l.heap.size->St Ok l.heap.size 100 [(9,i6 0),(2,i6 d),(3,ptr f),(4,ptr e)] (bR f [E,.slice j4 el r7]::bR e [D,.slice j5 el v7]::sK j4 ev el::sK j5 b el::R) 0 r l->Ψ (G (O.at r (pc prog 9 53 [false,false] [])) cs) l)->Ψ (G (O.at q (pc prog 9 35 [false] [])) cs) w
 |0,i,q,w,n,N,j,x,t,A,K=>by
  have a:decide ((i:Int)<(el:Int))=false:=θ
  refine TP F s c j A 18 [0,0,1,1] 4 [] [(9,i6 0),(2,i6 d),(3,ptr f),(4,ptr e)] 53 4 [] [] [(decide ((↑i:Int)<(↑el:Int)),false)] [] [] λJ C k h o u y=>K J C h ω ⟨(k.dB _ rfl).env,k.sat,rfl⟩
 |m+1,i,q,w,n,N,j,x,t,A,K=>by
  have L:IntKind.wrap .i64 ((i:Int)+1)=((i+1:Nat):Int):=by rw[aA ω ω];rfl
  obtain⟨a,rfl⟩:=I ω;obtain⟨a,rfl⟩:=H ω;let⟨a,_,t⟩:=p i ω;have w:(b i).a=(ev i).a+d:=by rw[a];rfl
  have t:IntKind.wrap .i64 ((ev i).a+d)=(b i).a:=by rw[<-w];exact aA ω ω
  have D:(b i).c=(ev i).c:=by rw[a];rfl
  have B:(b i).l=(ev i).l:=by rw[a];rfl
  have x:(b i).w=(ev i).w:=by rw[a];rfl
  have w:(b i).n=(ev i).n:=by rw[a];rfl
  refine aX (λM=>bR (n) [i6 (IntKind.wrap .i64 ((ev i).a+d)),i6 (ev i).c,i6 (ev i).l,i6 (ev i).w,i6 (ev i).n]::(M)) 1 F s c j A 34 [0,0,1,1,0,0,1,1,2,i,0,105,0,0,0,5,0,0,0,1,0,0,0,1,0,0,0,5,2,0,1,1,4,i,0,105] 106 [6] [(51,.agg #[i6 (b i).a,i6 (b i).c,i6 (b i).l,i6 (b i).w,i6 (b i).n]),(46,.agg #[i6 (IntKind.wrap .i64 ((ev i).a+d)),i6 (ev i).c,i6 (ev i).l,i6 (ev i).w,i6 (ev i).n]),(7,i6 i),(2,i6 d),(3,ptr f),(4,ptr e)] 69 6 [6] [] [(decide ((↑i:Int)<(↑el:Int)),true)] [((↑i:Int),el),((↑i:Int),el)] [(10,(i,el))] λJ C k h o u y=>?_;rw[t,D,B,x,w]at k;refine neS F c 46 51 52 73 [(b i).a,(ev i).c,(ev i).l,(ev i).w,(ev i).n] ρ ρ ρ δ rfl rfl k λa a g=>?_;rw[show jB (pc prog 9 69 (Bo 6) [6])=pc prog 9 70 [false,true] [6] by kernel_rfl];have b:=St.mk a k.sat.tail k.sz;have a:=o;replace g:=g.trans h;refine aq (λM=>M) 1 F s c g b 10 [] 5 [] [(7,i6 (IntKind.wrap .i64 ((↑i:Int)+1))),(2,i6 d),(3,ptr f),(4,ptr e)] 80 10 [6] λe b z a d d d=>?_;rw[L]at z;rw[show pc prog 9 80 (Bo 10) [6]=pc prog 9 35 [false] [] by kernel_rfl];exact Cf F s c v I H p m (i+1) e b b.heap.size ω a ω rfl ⟨z.env,z.sat,rfl⟩ λr l b a a=>K r l b ω a
def Cb(F:aB prog Y (DX Ok) Ψ)(t:HB B Ok){O:aC}(h:O.kind=.normal)(s:O.fn=9){cf:aC}{cs:cO}{R:aW}{A y o1 o2 m:Nat}{P N:ay}{j4 j5:eP}{el:Nat}{ev u:Nat->OZ}{d:Int}{a b:Nat->Se}{os f:p9}{o g:bU}(Q:m<=9)(p:∀j,j<m->b j=⟨(a j).a+d,(a j).b⟩/\0<=(b j).a/\(b j).a<1000000000000/\(a j).b.ch.length<1000000)(q:∀j,j<m->0<(a j).b.ch.length->∃i,os j=some i/\Has R (gQ i (a j).b.ch))(k:∀j,j<m->0<(a j).b.ch.length->∃i,f j=some i/\Has R (gQ i (a j).b.ch)):
 ∀(r c:Nat)(v:Act)(w:aj)(e:Nat),c+r=m->v.defers=[]->B<=e->w.heap.size=e->St Ok e 100 [(9,i6 c),(2,i6 d),(3,ptr A),(4,ptr y)] (bR A [.slice (some ⟨o1,0,none⟩) m m,P]::bR y [.slice (some ⟨o2,0,none⟩) m m,N]::sK j4 ev el::sK j5 u el::SY o1 a os o m::SY o2 b f g m::R) 0 v w->
   (∀n,w.heap.size<=n.heap.size->Sat Ok n (sK j4 ev el::sK j5 u el::SY o1 a os o m::SY o2 b f g m::R)->Ψ (G (cf.finish (.bool true)) cs) n)->Ψ (G (O.at v (pc prog 9 53 [false,false] [])) (cf::cs)) w
 |0,c,v,w,e,S,l,H,D,J,K=>by
  have j:decide ((c:Int)<(m:Int))=false:=θ
  refine ZI F t h s l J 15 [0,0,0,1] 4 [] 6 (.bool true) 68 8 [] [] [(decide ((↑c:Int)<(↑m:Int)),false)] [] [] λL x C E=>K L ω x.sat.tail.tail
 |r+1,c,v,w,e,S,l,H,D,J,K=>by
  have u:IntKind.wrap .i64 ((c:Int)+1)=((c+1:Nat):Int):=by rw[aA ω ω];rfl
  let⟨j,_,_,w⟩:=p c ω;have D:(b c).a=(a c).a+d:=by rw[j]
  have B:(b c).b=(a c).b:=by rw[j]
  have j:IntKind.wrap .i64 ((a c).a+d)=(b c).a:=by rw[<-D];exact aA ω ω
  refine aX (λM=>bR (e+1) [i6 (b c).a,i6 (b c).b.k,i6 (b c).b.n,.slice (f c) (List.length (b c).b.ch) (g c)]::(bR (e) [i6 (a c).a,i6 (a c).b.k,i6 (a c).b.n,.slice (os c) (List.length (a c).b.ch) (o c)]::(M))) 2 F t h l J 39 [0,0,0,1,0,0,0,1,4,c,0,104,0,0,0,4,2,0,0,1,6,c,0,104,0,0,0,4,1,0,3,1,0,0,3,1] 106 [] [(73,.slice (f c) (List.length (b c).b.ch) (g c)),(71,.slice (os c) (List.length (a c).b.ch) (o c)),(11,ptr (e+1)),(10,ptr e),(9,i6 c),(2,i6 d),(3,ptr A),(4,ptr y)] 92 12 [] [] [(decide ((↑c:Int)<(↑m:Int)),true)] [((↑c:Int),m),((↑c:Int),m)] [(8,(c,m))] λl L x l C E m=>?_;rw[B]at x;refine ah F h l x 74 11 #[.slice (os c) (List.length (a c).b.ch) (o c),.slice (f c) (List.length (a c).b.ch) (g c)] λf f=>J0 F t (L:=(a c).b.ch) w ?_ ?_ x.sat ω λg g l=>f _ _ _ g λf f m l f=>?_
  .exact λz=>by let⟨i,g,f⟩:=q c ω z;exact⟨i,g,f.cons.cons.cons.cons.cons.cons.cons.cons⟩
  .exact λz=>by let⟨i,g,f⟩:=k c ω z;exact⟨i,g,f.cons.cons.cons.cons.cons.cons.cons.cons⟩
  have i:(IntKind.wrap .i64 ((a c).a+d) !=(b c).a)=false:=by rw[j];simp
  have i:((a c).b.k !=(a c).b.k)=false:=ψ
  have i:((a c).b.n !=(a c).b.n)=false:=ψ
  refine TP F t h l m 39 [1,0,0,1,0,0,0,1,1,0,1,1,0,0,1,1,1,0,2,1,0,0,2,1] 74429306197 [] [(9,i6 (IntKind.wrap .i64 ((↑c:Int)+1))),(98,.bool ((a c).b.n !=(a c).b.n)),(97,i6 (a c).b.n),(96,.pointer (some (Addr.mk (e+1) 2 none))),(95,i6 (a c).b.n),(94,.pointer (some (Addr.mk e 2 none))),(91,.bool ((a c).b.k !=(a c).b.k)),(90,i6 (a c).b.k),(89,.pointer (some (Addr.mk (e+1) 1 none))),(88,i6 (a c).b.k),(87,.pointer (some (Addr.mk e 1 none))),(84,.bool (IntKind.wrap .i64 ((a c).a+d) !=(b c).a)),(83,i6 (b c).a),(82,ptr (e+1)),(81,i6 (IntKind.wrap .i64 ((a c).a+d))),(80,i6 d),(79,i6 (a c).a),(78,ptr e),(2,i6 d),(3,ptr A),(4,ptr y)] 132 20 [] [] [((a c).b.n !=(a c).b.n,false),((a c).b.k !=(a c).b.k,false),(IntKind.wrap .i64 ((a c).a+d) !=(b c).a,false)] [] [] λe b I a d d d=>?_;rw[u]at I;rw[show pc prog 9 132 (Bo 20) []=pc prog 9 53 [false,false] [] by kernel_rfl];exact Cb F t h s Q p q k r (c+1) e b b.heap.size ω a ω rfl ⟨(I.dB _ rfl).env,I.sat.tail.tail,rfl⟩ λn g f=>K n ω f
def An(F:aB prog Y (DX Ok) Ψ)(r:HB B Ok){ev c:Nat->OZ}{e b:Nat->Se}{f:p9}{k g:bU}(t:m<=9)(p:el<1000000)(v:0<el->∃a,j4=some a)(u:0<el->∃a,j5=some a)(o:∀i,i<el->c i=(ev i).lat d/\0<=(c i).a/\(c i).a<1000000000000)(l:∀j,j<m->b j=⟨(e j).a+d,(e j).b⟩/\0<=(b j).a/\(b j).a<1000000000000/\(e j).b.ch.length<1000000)(n:∀j,j<m->0<(e j).b.ch.length->∃a,os j=some a/\Has R (gQ a (e j).b.ch))(i:∀j,j<m->0<(e j).b.ch.length->∃a,f j=some a/\Has R (gQ a (e j).b.ch))(a:Sat Ok w (sK j4 ev el::sK j5 c el::SY o1 e os k m::SY o2 b f g m::R))(h:B<=w.heap.size)(K:∀h,w.heap.size<=h.heap.size->Sat Ok h (sK j4 ev el::sK j5 c el::SY o1 e os k m::SY o2 b f g m::R)->Ψ (G (cf.finish (.bool true)) cs) h):Ψ (G (Frame.enter prog 9 #[.agg #[.slice (some ⟨o1,0,none⟩) m m,.slice j4 el r7],.agg #[.slice (some ⟨o2,0,none⟩) m m,.slice j5 el v7],i6 d] .normal) (cf::cs)) w:=by
 have c:((m:Int) !=(m:Int))=false:=ψ
 have c:((el:Int) !=(el:Int))=false:=ψ
 refine cJ func9 a 100 λO a c a a q j w s=>aX (λM=>bR (c+1) [.slice (some ⟨o2,0,none⟩) m m,.slice j5 el v7]::(bR (c) [.slice (some ⟨o1,0,none⟩) m m,.slice j4 el r7]::(M))) 2 F r a j w 35 [1,0,0,1,0,0,0,1,1,0,1,1,0,0,1,1] 70996 [] [(7,i6 0),(4,ptr (c+1)),(3,ptr c),(2,i6 d)] 35 2 [] [] [((↑el:Int) !=(↑el:Int),false),((↑m:Int) !=(↑m:Int),false)] [] [] λw d j c s s s=>Cf F r a (R:=SY o1 e os k m::SY o2 b f g m::R) p v u o el 0 w d d.heap.size (bK _) c ω rfl ⟨(j.dB _ rfl).env,j.sat.perm (.swap ..),rfl⟩ λe c b d d=>Cb F r a q t l n i m 0 e c c.heap.size (bK _) b ω rfl d λh a a=>K h ω a
def ww{l':aN}{a:aj}(h:Sat (cP N l []) w R)(i:∀r∈R,r.wr=false/\r.row=none)(m:Old w a)(k:∀x∈l',x∈l\/w.heap.size<=x):Sat (cP N' l' []) a R:=lD λr a=>by
 have d:=h.mem a;let⟨c,f⟩:=i r a;refine⟨⟨λj b=>m.cell _ _ (d.val j b),λj b=>⟨⟨fun⟨A,o,z⟩=>?_,λz=>(by cases z)⟩,λz=>(by rw[c]at z;cases z)⟩,λz=>(by rw[c]at z;cases z),λg e n z=>(by rw[f]at z;cases z)⟩,c⟩;rcases k A o with y|y
 .exact(d.ok j b).1.1 ⟨A,y,z⟩
 .have:=au (d.val j b);have e:(r.ad j).block=A:=by rcases z with z|z<;>(injection z with z;rw[z])
  omega
def zo{P:aG}{b:aC}{fn:Func}{c:eC}{v:ay}(e:b.kind=.normal)(f:P.inits.idxOf? b.fn=none)(i:a.defers=[])(g:P.funcs[b.fn]? =some fn)(d:(results fn a.tmps).run P w=.ok v w)(h:(results fn a.tmps).events P w #[]=#[]):
 stepG P true (G {b.at a c with mode:=.returning} []) w=.ended (.done v) w #[]:=by
 simp[G,stepG,unwind,doReturn,Frame.at,e,i,g,d,h,f,seen,GStep.after]
def JN(ou:Nat->Se)(os:p9)(m:Nat):List aH:=(List.range m).map λj=>gQ ((os j).getD ⟨0,0,none⟩) (ou j).b.ch
def Dl{a:Nat->Se}:∀r∈JN a os m,r.wr=false/\r.row=none:=λr a=>by
 obtain⟨j,_,rfl⟩:=gV.1 a;exact⟨rfl,rfl⟩
def kL{A:aW}(e:Sat Ok w A)(d:Sat Ok w C)(b:∀r∈A,r.wr=false)(a:∀r∈C,r.wr=false):Sat Ok w (A++C):=lD λr c=>by
 rcases dJ.1 c with z|z
 .exact⟨e.mem z,b r z⟩
 .exact⟨d.mem z,a r z⟩
def Tm{d:Nat->Se}{t:bU}(h:Sat (cP N l []) w (SY o d os t m::C))(k:∀j,j<m->0<(d j).b.ch.length->∃s,os j=some s/\Has C (gQ s (d j).b.ch)):Sat (cP N' l []) w (SY o d os t m::JN d os m):=by
 have u:∀r,xE (cP N l []) w r->r.wr=false->r.row=none->xE (cP N' l []) w r:=λr a b c=>⟨a.val,λj p=>⟨⟨(a.ok j p).1.1,λz=>(by cases z)⟩,λz=>(by rw[b]at z;cases z)⟩,λz=>(by rw[b]at z;cases z),λg e n z=>(by rw[c]at z;cases z)⟩
 refine lD λr f=>?_;rcases ak.1 f with rfl|f
 .exact⟨u _ (h.mem (bI ..)) rfl rfl,rfl⟩
 .obtain⟨j,p,rfl⟩:=gV.1 f;refine⟨?_,rfl⟩;by_cases e:(d j).b.ch.length=0
  .have a:∀q,¬(gQ ((os j).getD ⟨0,0,none⟩) (d j).b.ch).has q:=λq z=>by have:q.1<(d j).b.ch.length:=z.1;omega
   exact⟨λq z=>absurd z (a q),λq z=>absurd z (a q),λz=>(by cases z),λg e n z=>(by cases z)⟩
  .let⟨s,b,_,i,a⟩:=k j (aZ.1 p) ω;rw[b];exact u _ (h.mem (aP _ (gO a))) rfl rfl
def Ww(F:aB prog Y (DX Ok) Ψ)(p:HB B Ok)(a:-9223372036854775808<=c/\c<9223372036854775808)(o:Sat Ok w C)(a:B<=w.heap.size)(K:∀a (x:Int),w.heap.size<=a.heap.size->0<=x->x<=n->Sat Ok a C->Ψ (G (cf.finish (i6 x)) cs) a):Ψ (G (Frame.enter prog 7 #[i6 c,i6 (Int.ofNat (n+1))] .normal) (cf::cs)) w:=by
 have m:∀x:Int,Int.tmod x (Int.ofNat (n+1))<=n:=λx=>by
  have:=Int.tmod_lt_of_pos x (b:=Int.ofNat (n+1)) ψ;simp at this ⊢;omega
 by_cases h:c<0
 .have a:decide (c<0)=true:=by simpa using h
  have e:IntKind.wrap .i64 (0-IntKind.wrap .i64 (c+1))=-(c+1):=by rw[aA (n:=c+1) ω ω,aA ω ω];omega
  refine cJ func7 o 13 λO s t q a d b l i=>TP F p a b l 24 [] 6 [] [(4,i6 (Int.tmod (IntKind.wrap .i64 (0-IntKind.wrap .i64 (c+1))) (Int.ofNat (n+1))))] 24 3 [] [] [(decide (c<0),true)] [] [] λg g f k h j r=>?_;rw[e]at f;refine cC F f a d k [] (i6 (Int.tmod (-(c+1)) (Int.ofNat (n+1)))) ?_;exact K g _ ω (Int.tmod_nonneg _ ω) (m _) f.sat
 .refine cJ func7 o 13 λO s t q a d b l i=>ZI F p a d b l 19 [] 4 [] 4 (i6 (Int.tmod c (Int.ofNat (n+1)))) 19 2 [] [] [(decide (c<0),false)] [] [] λg f h j=>K g _ ω (Int.tmod_nonneg _ ω) (m _) f.sat
def Vm(F:aB prog Y (DX Ok) Ψ)(y:HB B Ok){O:aC}(d:O.kind=.normal){cs:cO}{R:aW}{W:eP}{n C:Nat}{U:eP}{m cap q:Nat}{g:Nat->Cl}{u:Int}(P:m<=9)(s:0<m->∃a,U=some a)(o:∀j,j<m->0<=(g j).st/\(g j).st<=1000){B1:Nat}(z:B<=B1):
 ∀(r i:Nat)(b:Int)(E:Act)(w:aj),i+r=m->0<=b->b<=1000->(∀j,j<i->(g j).st<=b)->E.defers=[]->w.heap.size=B1->St Ok B1 118 [(11,i6 i),(10,i6 b),(0,.slice W n C),(1,.slice U m cap),(2,i6 u),(7,ptr q)] (Yt U m g::R) 0 E w->
   (∀(k:Nat) M a,(k<=1000/\∀j,j<m->(g j).st+k<=1000)->M.defers=[]->a.heap.size=B1->St Ok B1 118 [(54,i6 u),(57,i6 (Int.ofNat (k+1))),(0,.slice W n C),(1,.slice U m cap),(7,ptr q)] (Yt U m g::R) 0 M a->Ψ (G (O.at M (pc prog 4 57 [false,false] [])) cs) a)->Ψ (G (O.at E (pc prog 4 41 [false] [])) cs) w
 |0,i,b,E,w,S,L,J,f,h,I,H,K=>by
  have a:decide ((i:Int)<(m:Int))=false:=θ
  have k:IntKind.wrap .i64 (1000-b)=1000-b:=aA ω ω;have a:IntKind.wrap .i64 (1000-b+1)=Int.ofNat ((1000-b).toNat+1):=by rw[aA ω ω];simp;omega
  refine TP F y d h H 16 [] 4 [] [(57,i6 (IntKind.wrap .i64 (IntKind.wrap .i64 (1000-b)+1))),(54,i6 u),(0,.slice W n C),(1,.slice U m cap),(7,ptr q)] 57 4 [] [] [(decide ((↑i:Int)<(↑m:Int)),false)] [] [] λD t l c v x A=>?_;rw[k,a]at l;exact K (1000-b).toNat D t ⟨ω,λj Q=>by have:=f j ω;omega⟩ c ω (l.dB _ rfl)
 |r+1,i,b,E,w,S,L,J,f,h,I,H,K=>by
  have N:IntKind.wrap .i64 ((i:Int)+1)=((i+1:Nat):Int):=by rw[aA ω ω];rfl
  obtain⟨p,rfl⟩:=s ω;have a:=o i ω;by_cases a:(g i).st>b
  .have k:decide ((g i).st>b)=true:=by simpa using a
   refine TP F y d h H 38 [0,i,0,101,0,i,0,101] 426 [] [(11,i6 (IntKind.wrap .i64 ((↑i:Int)+1))),(10,i6 (g i).st),(0,.slice W n C),(1,.slice (some p) m cap),(2,i6 u),(7,ptr q)] 79 14 [] [] [(decide ((g i).st>b),true),(decide ((↑i:Int)<(↑m:Int)),true)] [((↑i:Int),m),((↑i:Int),m)] [(2,(i,m))] λD t l c v x A=>?_;rw[N]at l;rw[show pc prog 4 79 (Bo 14) []=pc prog 4 41 [false] [] by kernel_rfl];exact Vm F y d P s o z r (i+1) (g i).st D t ω ω ω (λj Q=>by
    by_cases e:j=i
    .subst e;omega
    .have:=f j ω;omega) c ω l K
  .refine TP F y d h H 31 [0,i,0,101] 74 [] [(11,i6 (IntKind.wrap .i64 ((↑i:Int)+1))),(10,i6 b),(0,.slice W n C),(1,.slice (some p) m cap),(2,i6 u),(7,ptr q)] 72 10 [] [] [(decide ((g i).st>b),false),(decide ((↑i:Int)<(↑m:Int)),true)] [((↑i:Int),m)] [(1,(i,m))] λD t l c v x A=>?_;rw[N]at l;exact Vm F y d P s o z r (i+1) b D t ω ω ω (λj Q=>by
    by_cases e:j=i
    .subst e;omega
    .have:=f j ω;omega) c ω l K
abbrev Eu(g:Nat->Cl)(x:Int)(j:Nat):List Value:=[i6 ((g j).st+x),.slice (g j).ta (g j).nt (g j).tc]
def aas:Qc prog 23 38 2 32=true:=ρ
def aad(F:aB prog Y (DX Ok) Ψ)(P:HB B Ok){O:aC}(h:O.kind=.normal){cs:cO}{R:aW}{W:eP}{n v:Nat}{U:eP}{m cap q:Nat}{g:Nat->Cl}{x:Int}(hm:m<=9)(N:0<m->∃a,U=some a)(L:∀j,j<m->0<=(g j).st/\(g j).st+x<=1000)(hx:0<=x/\x<=1000):
 ∀(r i:Nat)(C:aW)(c:eP)(d:Nat)(D:eX)(Q:Act)(w:aj)(k:Nat),i+r=m->Vc Ok c i d->Q.defers=[]->B<=k->w.heap.size=k->St Ok k 118 [(13,i6 i),(12,.slice c i d),(0,.slice W n v),(1,.slice U m cap),(2,i6 x),(7,ptr q)] (vR c 2 (Eu g x) i d 38::sR c 2 D i d::Yt U m g::(C++R)) 0 Q w->
   (∀C c d D S I,Vc Ok c m d->S.defers=[]->w.heap.size<=I.heap.size->aR [(82,.slice W n v),(83,.slice c m d),(0,.slice W n v),(1,.slice U m cap),(2,i6 x),(7,ptr q)] 118 S->Sat Ok I (vR c 2 (Eu g x) m d 38::sR c 2 D m d::Yt U m g::(C++R))->Ψ (G (O.at S (pc prog 4 85 [false,false,false] [])) cs) I)->Ψ (G (O.at Q (pc prog 4 71 [false,false] [])) cs) w
 |0,i,C,c,d,D,Q,w,k,hi,hv,t,Rg,X,S0,K=>by
  have B:decide ((i:Int)<(m:Int))=false:=θ
  refine TP F P h t S0 14 [] 4 [] [(83,.slice c i d),(82,.slice W n v),(0,.slice W n v),(1,.slice U m cap),(2,i6 x),(7,ptr q)] 85 8 [] [] [(decide ((↑i:Int)<(↑m:Int)),false)] [] [] λa1 w1 H s V Z o9=>?_;obtain rfl:i=m:=ω
  exact K C c d D a1 w1 hv s ω (H.dB _ rfl).env H.sat
 |r+1,i,C,c,d,D,Q,w,k,hi,hv,t,Rg,X,S0,K=>by
  have hw:IntKind.wrap .i64 ((i:Int)+1)=((i+1:Nat):Int):=by rw[aA ω ω];rfl
  obtain⟨p,rfl⟩:=N ω;have w:=L i ω;have w:IntKind.wrap .i64 ((g i).st+x)=(g i).st+x:=aA ω ω;refine aX (λM=>bR (k) [i6 (IntKind.wrap .i64 ((g i).st+x)),.slice (g i).ta (g i).nt (g i).tc]::(M)) 1 F P h t S0 13 [2,i,0,102] 106 [15] [(79,.slice (some ⟨k,0,none⟩) 1 1),(65,.slice c i d),(13,i6 i),(0,.slice W n v),(1,.slice (some p) m cap),(2,i6 x),(7,ptr q)] 84 12 [15] [] [(decide ((↑i:Int)<(↑m:Int)),true)] [((↑i:Int),m),((↑i:Int),m)] [(2,(i,m))] λa1 w1 H s V Z o9=>?_;rw[w]at H;have c:=H.sz;refine apS F (λa wr z=>P a wr ω) h 65 79 80 23 38 2 32 1 2 0 aas ρ ρ δ rfl rfl rfl rfl δ rfl hv (λ_ _=>rfl) rfl (by intro u hu;simp at hu;rcases hu with rfl|rfl<;>rfl) (az _) (by simp only[maxLen];omega) ω H λE b J l a2 y A OR o=>?_;rw[show jB (pc prog 4 84 (Bo 12) [15])=pc prog 4 85 [false,false,true] [15] by kernel_rfl];have h2:Sat Ok y (bR k (Eu g x i)::vR (some ⟨E,0,none⟩) 2 (Eu g x) (i+1) b 38::sR (some ⟨E,0,none⟩) 2 l (i+1) b::Yt (some p) m g::(C++R)):=by
   refine A.sat.re 1 rfl rfl (Eu g x) λj c f a=>?_;have a:j<i+1:=c;by_cases e:j=i
   .subst e;show(Eu g x j).getD f undef=(J j).getD f undef;rw[A.new]
   .show(Eu g x j).getD f undef=(J j).getD f undef;rw[A.old j ω]
  have M1:=A.size;have S2:St Ok y.heap.size 118 _ _ 0 a2 y:=⟨OR,Sat.back (A:=[vR (some ⟨E,0,none⟩) 2 (Eu g x) (i+1) b 38,sR (some ⟨E,0,none⟩) 2 l (i+1) b,Yt (some p) m g]) h2,rfl⟩;have T:y.heap.size=y.heap.size:=rfl;replace o:=o.trans s;generalize hB3:y.heap.size=B3 at S2 T M1;refine Rb F P h o S2 9 [] 1 [] [(13,i6 (IntKind.wrap .i64 ((↑i:Int)+1))),(12,.slice (some ⟨E,0,none⟩) (i+1) b),(0,.slice W n v),(1,.slice (some p) m cap),(2,i6 x),(7,ptr q)] 94 12 [15] λe c S3 a d d d=>?_;rw[hw]at S3;rw[show pc prog 4 94 (Bo 12) [15]=pc prog 4 71 [false,false] [] by kernel_rfl];exact aad F P h hm N L hx r (i+1) (bR k (Eu g x i)::C) (some ⟨E,0,none⟩) b l e c B3 ω A.vc a ω ω S3 λh b c a S I g f d e d=>K h b c a S I g f ω e d
def LW:prog.inits.idxOf? 4=none:=ρ
def aab{wI:aj}(F:aB prog true (DX (cP wI.heap.size l [])) (nM prog Post (Old wI) (jq l) ng))(f:O.kind=.normal)(c:O.fn=4){k:eC}(h:a.defers=[])(j:aR [(6,.bool true)] N a)(i:∀b,Old wI b->Post (.bool true) b):nM prog Post (Old wI) (jq l) ng (G (O.at a (.code .ret::k)) []) w:=by
 have b:∀t:List Item,nM prog Post (Old wI) (jq l) ng (G {O.at a t with mode:=.returning} []) w:=λt=>by
  have g:a.tmps.getD 6 undef=.bool true:=by rw[oK,j.val 6 (.bool true) rfl];rfl
  have e:=resultsC_tmp (P:=prog) (fn:=f4) (t:=6) φ a.tmps;rw[g]at e;refine At.Rv (v:=.bool true) (es:=#[]) rfl (λd=>?_) ψ (λd a=>i _ a) gN;exact zo f (by rw[c];exact LW) h (by rw[c];exact func4) (e _).1 (e _).2
 exact F.ctl (λ_=>stepG_ret') (b _)
structure Rp(Q:aW)(m el:Nat)(o:Nat)(ea:eP)(ev:Nat->OZ)(ou:Nat->Se)(os:p9)(oc:bU):Prop where
 e:sK ea ev el∈Q
 o:SY o ou os oc m∈Q
 c:∀r∈JN ou os m,r∈Q
 s:∀j,j<m->0<(ou j).b.ch.length->∃ca,os j=some ca
 a:0<el->∃p,ea=some p
def Rp.hos{ev:Nat->OZ}{b:Nat->Se}{a:bU}(h:Rp Q m el o ea ev b os a)(c:∀r∈Q,r∈M):∀j,j<m->0<(b j).b.ch.length->∃a,os j=some a/\Has M (gQ a (b j).b.ch):=λj b z=>by
 let⟨a,e⟩:=h.s j b z;exact⟨a,e,Yn (c _ (h.c _ (gV.2 ⟨j,aZ.2 b,by rw[e];rfl⟩))) rfl⟩
section
variable{ev1 ev2 ev3:Nat->OZ}
def Lat(m el:Nat)(d:Int)(ev ev':Nat->OZ)(ou ou':Nat->Se):Prop:=(∀i,i<el->ev' i=(ev i).lat d/\0<=(ev' i).a/\(ev' i).a<1000000000000)/\∀j,j<m->ou' j=⟨(ou j).a+d,(ou j).b⟩/\0<=(ou' j).a/\(ou' j).a<1000000000000/\(ou j).b.ch.length<1000000
def aat(c:O.kind=.normal)(D:O.fn=4)(R:∀k,Old w0 k->Post (.bool true) k){p:Act}(I:m<=9)(n:el<1000000)(K:∀y∈l,y<w.heap.size)(y:w0.heap.size<=w.heap.size)(C:p.defers=[])(T:aR [(91,.tuple #[.agg #[.slice (some ⟨o3,0,none⟩) m m,.slice Cw el E4],.bool true,.bool true]),(15,.bool true),(16,.bool true),(2,i6 x),(7,ptr q1),(14,ptr q2)] 118 p)(L:Sat (cP w0.heap.size l []) w (oR q1 0 [.slice (some ⟨o1,0,none⟩) m m,.slice j4 el r7] false::oR q2 0 [.slice (some ⟨o2,0,none⟩) m m,.slice j5 el v7] false::Q))(P:∀r∈Q,r.wr=false)(g:Rp Q m el o1 j4 ev1 ou1 os1 oc1)(H:Rp Q m el o2 j5 ev2 ou2 os2 oc2)(E:Rp Q m el o3 Cw ev3 ou3 os3 oc3)(L2:Lat m el x ev1 ev2 ou1 ou2)(q:Lat m el 0 ev1 ev3 ou1 ou3):nM prog Post (Old w0) (jq l) ng (G (O.at p (pc prog 4 100 [false,false,false] [])) []) w:=by
 have F:=nA (P:=prog) (Post:=Post) (wI:=w0) (l:=l) ng;have f:∀(a:Addr)(wr:Bool),w.heap.size<=a.block->cP w0.heap.size l [] a wr:=λa wr z=>iX (N:=w.heap.size) K y z wr;have J:St (cP w0.heap.size l []) w.heap.size 118 _ _ 0 p w:=⟨T,L,rfl⟩;have t:w.heap.size=w.heap.size:=rfl;generalize S:w.heap.size=B at J t f;have v:∀j,j<m->0<(ou1 j).b.ch.length->0<(ou2 j).b.ch.length:=λj d z=>by rw[(L2.2 j d).1];exact z
 have u:∀j,j<m->0<(ou1 j).b.ch.length->0<(ou3 j).b.ch.length:=λj d z=>by rw[(q.2 j d).1];exact z
 refine aq (λM=>bR (B) [.slice (some ⟨o3,0,none⟩) m m,.slice Cw el E4]::(M)) 1 F f c C J 14 [0,0,0,2,1,0,0,2,2,0,0,2] 1 [] [(97,i6 x),(96,.agg #[.slice (some ⟨o2,0,none⟩) m m,.slice j5 el v7]),(95,.agg #[.slice (some ⟨o1,0,none⟩) m m,.slice j4 el r7]),(19,.bool true),(18,.bool true),(17,ptr B),(15,.bool true),(16,.bool true),(7,ptr q1)] 114 8 [] λy a i A w w w=>?_;replace i:St (cP w0.heap.size l []) B 118 _ (oR B 0 [.slice (some ⟨o3,0,none⟩) m m,.slice Cw el E4] false::oR q1 0 [.slice (some ⟨o1,0,none⟩) m m,.slice j4 el r7] false::oR q2 0 [.slice (some ⟨o2,0,none⟩) m m,.slice j5 el v7] false::Q) 1 y a:=⟨i.env,i.sat.fix,i.sz⟩;have e:∀r∈Q,r∈oR B 0 [.slice (some ⟨o3,0,none⟩) m m,.slice Cw el E4] false::oR q1 0 [.slice (some ⟨o1,0,none⟩) m m,.slice j4 el r7] false::oR q2 0 [.slice (some ⟨o2,0,none⟩) m m,.slice j5 el v7] false::Q:=λr b=>aP _ (aP _ (aP _ b));have N:∀r∈oR B 0 [.slice (some ⟨o3,0,none⟩) m m,.slice Cw el E4] false::oR q1 0 [.slice (some ⟨o1,0,none⟩) m m,.slice j4 el r7] false::oR q2 0 [.slice (some ⟨o2,0,none⟩) m m,.slice j5 el v7] false::Q,r.wr=false:=λr b=>by
  rcases ak.1 b with rfl|b
  .rfl
  rcases ak.1 b with rfl|b
  .rfl
  rcases ak.1 b with rfl|b
  .rfl
  exact P r b
 have dB:∀{k:aj}{ea:eP}{ev:Nat->OZ}{o:Nat}{a:Nat->Se}{os:p9}{w:bU},Rp Q m el o ea ev a os w->Sat (cP w0.heap.size l []) k (oR B 0 [.slice (some ⟨o3,0,none⟩) m m,.slice Cw el E4] false::oR q1 0 [.slice (some ⟨o1,0,none⟩) m m,.slice j4 el r7] false::oR q2 0 [.slice (some ⟨o2,0,none⟩) m m,.slice j5 el v7] false::Q)->Sat (cP w0.heap.size l []) k (sK j4 ev1 el::sK ea ev el::SY o1 ou1 os1 oc1 m::SY o a os w m::oR B 0 [.slice (some ⟨o3,0,none⟩) m m,.slice Cw el E4] false::oR q1 0 [.slice (some ⟨o1,0,none⟩) m m,.slice j4 el r7] false::oR q2 0 [.slice (some ⟨o2,0,none⟩) m m,.slice j5 el v7] false::Q):=λh s=>s.ED λr b=>by
  rcases ak.1 b with rfl|b
  .exact Yn (e _ g.e) rfl
  rcases ak.1 b with rfl|b
  .exact Yn (e _ h.e) rfl
  rcases ak.1 b with rfl|b
  .exact Yn (e _ g.o) rfl
  rcases ak.1 b with rfl|b
  .exact Yn (e _ h.o) rfl
  exact Yn b (N r b)
 refine ah F c A i 98 9 #[.agg #[.slice (some ⟨o1,0,none⟩) m m,.slice j4 el r7],.agg #[.slice (some ⟨o2,0,none⟩) m m,.slice j5 el v7],i6 x] λa a=>An F f I n g.a H.a L2.1 L2.2 (g.hos e) (λj d z=>by have:=H.hos e j d (v j d z);rw[(L2.2 j d).1]at this;exact this) (dB H i.sat) ω λb b b=>a _ _ _ b.tail.tail.tail.tail λa a h a b=>Rb F f c a h 6 [1,0,0,2,0,0,0,2] 1 [] [(100,.agg #[.slice (some ⟨o3,0,none⟩) m m,.slice Cw el E4]),(99,.agg #[.slice (some ⟨o1,0,none⟩) m m,.slice j4 el r7]),(20,.bool true),(19,.bool true),(18,.bool true),(15,.bool true),(16,.bool true)] 121 8 [] λa a b a h h h=>ah F c a b 101 9 #[.agg #[.slice (some ⟨o1,0,none⟩) m m,.slice j4 el r7],.agg #[.slice (some ⟨o3,0,none⟩) m m,.slice Cw el E4],i6 0] λa a=>An F f I n g.a E.a q.1 q.2 (g.hos e) (λj d z=>by have:=E.hos e j d (u j d z);rw[(q.2 j d).1]at this;exact this) (dB E b.sat) ω λb b b=>a _ _ _ b.tail.tail.tail.tail λa a d a b=>Rb F f c a d 22 [] 2047 [] [(6,.bool true)] 144 8 [] λa a d a b b b=>aab F c D a (d.dB _ rfl).env R
end
def Rl.lat{L:LS}(h:Rl I d b L D)(b:∀t,t<L.tl->(L.tk t).e=true):Lat I L.el d L.ev D.ev L.ou D.ou:=⟨λi a=>⟨h.ev i a,h.eb i a⟩,λj a=>h.ou j a (b j (by have:=h.tn;omega))⟩
def Fi{ev:Nat->OZ}{b:Nat->Se}{d:yX}(k:Sat (cP N l []) w C)(g:Has C (sK ea ev el))(f:Has C (Wx (some ⟨o,0,none⟩) b d m))(h:∀j,j<m->fu C (d j) (b j).b.ch):∃os d,Sat (cP N' l []) w (sK ea ev el::SY o b os d m::JN b os m)/\∀j,j<m->0<(b j).b.ch.length->∃i,os j=some i:=by
 let⟨os,d,b,c⟩:=Zt k f h;have h:=Tm (N':=N') b c;have f:Sat (cP N' l []) w [sK ea ev el]:=ww (k.ED λr a=>by rw[wP.1 a];exact g) (λr a=>by rw[wP.1 a];exact⟨rfl,rfl⟩) (Iw w) λx b=>.inl b;exact⟨os,d,kL f h (λr a=>by rw[wP.1 a]) (λr a=>by
  rcases ak.1 a with rfl|a
  .rfl
  exact(Dl r a).1),λj a z=>by let⟨i,e,_⟩:=c j a z;exact⟨i,e⟩⟩
def ux{ev:Nat->OZ}{b:Nat->Se}{c:bU}:∀r∈sK ea ev el::SY o b os c m::JN b os m,r.wr=false/\r.row=none:=λr a=>by
 rcases ak.1 a with rfl|a
 .exact⟨rfl,rfl⟩
 rcases ak.1 a with rfl|a
 .exact⟨rfl,rfl⟩
 exact Dl r a
def Rp.of{ev:Nat->OZ}{a:Nat->Se}{b:bU}(c:∀j,j<m->0<(a j).b.ch.length->∃d,os j=some d)(d:0<el->∃p,ea=some p)(h:∀r∈sK ea ev el::SY o a os b m::JN a os m,r∈Q):Rp Q m el o ea ev a os b:=⟨h _ (bI ..),h _ (aP _ (bI ..)),λr a=>h r (aP _ (aP _ a)),c,d⟩
def Rp.up{d:aW}{ev:Nat->OZ}{b:Nat->Se}{c:bU}(h:Rp Q m el o ea ev b os c)(a:∀r∈Q,r∈d):Rp d m el o ea ev b os c:=⟨a _ h.e,a _ h.o,λr b=>a r (h.c r b),h.s,h.a⟩
section
variable{L:oF}{h:Nat->Cu×LS}
def aau(H:Ds w0 W n L U m g)(A:jG n L m g=(0,0))(h0:h 0=(none,ko (nC n L m g)))(hN:h N=(none,J))(hs:∀i,i<N->Nx (nC n L m g) (h i) (h (i+1)))(ht:cj J.ag J.al<0)(he:∀t,t<J.tl->(J.tk t).e=true)(V:J.el<1000000)(X2:Lat m J.el x J.ev L2.ev J.ou L2.ou)(k:O.kind=.normal)(Y:O.fn=4)(hP:∀Z,Old w0 Z->Post (.bool true) Z)(R:0<ng){K:Act}(T:∀y∈l,T1 W U m g y/\y<w.heap.size)(X:K.defers=[])(hA:aR [(84,.tuple #[.agg #[.slice (some ⟨o2,0,none⟩) m m,.slice j5 J.el v7],.bool true,.bool true]),(0,.slice W n c0),(1,.slice U m cap),(2,i6 x),(7,ptr q1)] 118 K)(Z:Sat (cP w0.heap.size l []) w (oR q1 0 [.slice (some ⟨o1,0,none⟩) m m,.slice j4 J.el r7] false::Q))(I:∀r∈Q,r.wr=false/\r.row=none)(h1:Rp Q m J.el o1 j4 J.ev J.ou os1 oc1)(h2:Rp Q m J.el o2 j5 L2.ev L2.ou os2 oc2):nM prog Post (Old w0) (jq l) ng (G (O.at K (pc prog 4 86 [false,false,false] [])) []) w:=by
 have F:=nA (P:=prog) (Post:=Post) (wI:=w0) (l:=l) ng;refine At.assume gN λhO=>?_;have G:w0.heap.size<=w.heap.size:=hO.2.2.2.1;have hB:∀(a:Addr)(wr:Bool),w.heap.size<=a.block->cP w0.heap.size l [] a wr:=λa wr z=>iX (N:=w.heap.size) (λy e=>(T y e).2) G z wr;have S0:St (cP w0.heap.size l []) w.heap.size 118 _ _ 0 K w:=⟨hA,Z,rfl⟩;have P:w.heap.size=w.heap.size:=rfl;generalize hB0:w.heap.size=B at S0 P hB;generalize f:J.el=el at*;refine aq (λM=>bR (B) [.slice (some ⟨o2,0,none⟩) m m,.slice j5 el v7]::(M)) 1 F hB k X S0 13 [0,0,0,2] 1 [] [(90,.slice U m cap),(89,.slice W n c0),(16,.bool true),(15,.bool true),(14,ptr B),(2,i6 x),(7,ptr q1)] 99 8 [] λa E M l a a a=>Af F k 91 8 #[.slice W n c0,.slice U m cap] ρ ρ δ M λa F=>At.assume gN λa=>At.keep (K':=Old E) (λd=>Iw E) ?_;have G:=zl A;have S:m<=9:=G.nc;refine ES (wI:=E) (w0:=w0) H a R (λy e=>⟨(T y e).1,by have:=(T y e).2;omega⟩) (Z:=λc=>Sj (nC n L m g).nc 0 h N none c/\(nC n L m g).nc<=c.tl/\(∀t,t<c.tl->(c.tk t).e=true)/\c.el<1000000/\(∀w,w<c.wl->(c.wt w).x=false->(c.wt w).e=true)/\cj c.ag c.al<0) (λ_=>Rr G (Ro (st':=(nC n L m g).st) hN ht hs) (aac h0 λi _=>(Int.add_zero _).symm)) (λh=>absurd A h) λ_ c g n h o3 Cw E4 h C w3 h s o v t u h i _=>At.keep (K':=Old w0) (λd=>Fg a o) ?_;refine F _ _ _ λa D j=>?_;replace j:=j.trans l;have a:=Fa hN hs g.1 g.2.2.2.2.2;have X3:=a.lat he;have d:c.el=el:=a.el.trans f;rw[d]at D u v;rw[f]at X3;let⟨os3,oc3,h4,q⟩:=Fi (N':=w0.heap.size) t u h i;have hR:=ww (N':=w0.heap.size) (l':=n) M.sat.fix (λr b=>by
  rcases ak.1 b with rfl|b
  .exact⟨rfl,rfl⟩
  rcases ak.1 b with rfl|b
  .exact⟨rfl,rfl⟩
  exact I r b) o λy e=>(s y e).1
 have h5:=kL hR h4 (λr b=>by
  rcases ak.1 b with rfl|b
  .rfl
  rcases ak.1 b with rfl|b
  .rfl
  exact(I r b).1) λr b=>(ux r b).1
 have a:E.heap.size<=w3.heap.size:=o.2.2.2.1;refine aat (Q:=Q++(sK Cw c.ev el::SY o3 c.ou os3 oc3 m::JN c.ou os3 m)) (q1:=q1) (q2:=B) (el:=el) (o1:=o1) (o2:=o2) (o3:=o3) (r7:=r7) (v7:=v7) (E4:=E4) (j4:=j4) (j5:=j5) (Cw:=Cw) (x:=x) k Y hP S V (λy e=>(s y e).2) ω j (D.sub (by intro p hp;simp only[ak,bH,or_false]at hp;rcases hp with rfl|rfl|rfl|rfl|rfl|rfl<;>rfl)) (h5.ED λr b=>?_) (λr b=>by
  rcases dJ.1 b with z|z
  .exact(I r z).1
  .exact(ux r z).1) (h1.up λr b=>gU _ b) (h2.up λr b=>gU _ b) (Rp.of q v.1 λr b=>gF _ b) X2 X3
 rcases ak.1 b with rfl|b
 .exact Yn (gU _ (aP _ (bI ..))) rfl
 rcases ak.1 b with rfl|b
 .exact Yn (gU _ (bI ..)) rfl
 rcases dJ.1 b with z|z
 .exact Yn (gU _ (aP _ (aP _ z))) (I r z).1
 .exact Yn (gF _ z) (ux r z).1
end
def mvC(g:Nat->Cl)(x:Int):Nat->Cl:=λj=>{g j with st:=(g j).st+x}
def DV{g a:Nat->Cl}:∀(m k:Nat),(∀j,k<=j->j<k+m->(a j).YM=(g j).YM)->fY a m k=fY g m k
 |0,k,_=>rfl
 |m+1,k,h=>by
  unfold fY;rw[h k (az _) ω,DV m (k+1) λj a a=>h j ω ω]
def aan{L:oF}(h:jG n L m g=(0,0))(b:∀j,j<m->0<=(g j).st+x/\(g j).st+x<=1000):jG n L m (mvC g x)=(0,0):=by
 have l:=h;unfold jG at h;split at h
 .cases h
 rename_i i;split at h
 .cases h
 rename_i f;split at h
 .cases h
 rename_i e;split at h
 .cases h
 rename_i d;have k:fY g m 0=0+m:=by have:=BP g m 0;omega
 unfold jG;rw[af i,af f,af e,DV m 0 λj _ c=>?_,af d];have a:=uT g m 0 k j ω c;rw[a];have:=b j ω;unfold Cl.YM iF at a ⊢;simp only[bZ,eB]at a ⊢;exact⟨⟨by simp[mvC,this],a.1.2⟩,a.2⟩
section
variable{L:oF}{t:Int}{h:Nat->Cu×LS}
def Ds.mv(H:Ds w0 W n L U m g){d:eP}{o:Nat}{vs:eX}(u:Old w0 w)(k:Vc Ok d m o)(t:Sat Ok w (vR d 2 (Eu g x) m o 38::R)):Ds w W n L d m (mvC g x):=by
 have a:=H.old u;have h:∀i,i<m->∀j,j<2->∃q,d=some ⟨q,0,none⟩/\w.cell? ⟨q,0+i*2+j,none⟩=some ((Eu g x i).getD j undef):=λi b j s=>by
  rcases k.row with ⟨_,e,_⟩|⟨q,e,_⟩
  .omega
  .subst e;refine⟨q,rfl,?_⟩;have d:=t.val 0 _ rfl (i,j) ⟨b,s⟩;have l:w.cell? (((⟨q,0,none⟩:Addr).add (i*2)).add j)=some ((Eu g x i).getD j undef):=d;rw[add_add]at l;rw[bK];exact l
 refine⟨a.hL,a.bL,λi b=>?_,λp f=>?_,a.bT,a.i0,a.hg⟩
 .let⟨q,e,c0⟩:=h i b 0 δ;let⟨r,c,y⟩:=h i b 1 δ;rw[e]at c;cases c;let⟨_,_,_,_,_,d⟩:=a.hC i b;exact⟨q,0,e,c0,y,d⟩
 .rcases k.row with ⟨e,_⟩|⟨q,e,v⟩
  .rw[e]at f;cases f
  .let⟨r,c,c0⟩:=h 0 v 0 δ;rw[f]at c;cases c;exact au c0
def aav(H:Ds w0 W n L U m g)(E:jG n L m g=(0,0))(h0:h 0=(none,ko (nC n L m g)))(hN:h N=(none,J))(hs:∀i,i<N->Nx (nC n L m g) (h i) (h (i+1)))(ht:cj J.ag J.al<0)(he:∀t,t<J.tl->(J.tk t).e=true)(Ty:J.el<1000000)(ht9:-9223372036854775808<=t/\t<9223372036854775808)(f:O.kind=.normal)(qh:O.fn=4)(hP:∀w',Old w0 w'->Post (.bool true) w')(U8:0<ng){a0:Act}(A:∀y∈l,T1 W U m g y/\y<w.heap.size)(tN:a0.defers=[])(hA:aR [(25,.tuple #[.agg #[.slice (some ⟨o1,0,none⟩) m m,.slice j4 J.el r7],.bool true,.bool true]),(0,.slice W n c0),(1,.slice U m cap),(2,i6 t)] 118 a0)(hS:Sat (cP w0.heap.size l []) w Q)(V:∀r∈Q,r.wr=false/\r.row=none)(h1:Rp Q m J.el o1 j4 J.ev J.ou os1 oc1):nM prog Post (Old w0) (jq l) ng (G (O.at a0 (pc prog 4 9 [] [])) []) w:=by
 have F:=nA (P:=prog) (Post:=Post) (wI:=w0) (l:=l) ng;refine At.assume gN λhO=>?_;have G:w0.heap.size<=w.heap.size:=hO.2.2.2.1;have I:∀(a:Addr)(wr:Bool),w.heap.size<=a.block->cP w0.heap.size l [] a wr:=λa wr z=>iX (N:=w.heap.size) (λy o=>(A y o).2) G z wr;have hV:=zl E;have R:m<=9:=hV.nc;have G:Sat (cP w0.heap.size l []) w [Yt U m g]:=(H.sat (λy o=>(A y o).1) hO).ED λr b=>by rw[wP.1 b];exact Yn (aP _ (aP _ (bI ..))) rfl
 have VO:Sat (cP w0.heap.size l []) w (Yt U m g::Q):=kL G hS (λr b=>by rw[wP.1 b]) λr b=>(V r b).1;have S0:St (cP w0.heap.size l []) w.heap.size 118 _ _ 0 a0 w:=⟨hA,VO,rfl⟩;have P9:w.heap.size=w.heap.size:=rfl;generalize hB0:w.heap.size=B at S0 P9 I;generalize s:J.el=el at*;refine aq (λM=>bR (B) [.slice (some ⟨o1,0,none⟩) m m,.slice j4 el r7]::(M)) 1 F I f tN S0 32 [0,0,0,2] 85 [] [(11,i6 0),(10,i6 0),(7,ptr B),(0,.slice W n c0),(1,.slice U m cap),(2,i6 t)] 41 2 [] λa1 w1 S1 Nt M G G=>?_;have G:0<m->∃a,U=some a:=λz=>by let⟨a,e,_⟩:=H.q2 z;exact⟨a,e⟩
 refine Vm F I f (B1:=B+1) R G (λj q=>hV.st j q) ω m 0 0 a1 w1 (bK _) ω ω (λj q=>ω) Nt M ⟨(S1.dB _ rfl).env,S1.sat.fix.perm (.swap ..),ω⟩ λk M M hk M tM S2=>ah F f M S2 58 7 #[i6 t,i6 (Int.ofNat (k+1))] λk k=>Ww F I ht9 S2.sat ω λM x M M UO s3=>k _ _ _ s3 λk k S4 k Bj=>?_;have u:∀j,j<m->0<=(g j).st/\(g j).st+x<=1000:=λj q=>by
  have h3:0<=(g j).st/\(g j).st<=1000:=hV.st j q;have:=hk.2 j q;omega
 refine Rb F I f k S4 13 [] 1 [] [(13,i6 0),(12,.slice none 0 0),(2,i6 x),(0,.slice W n c0),(1,.slice U m cap),(7,ptr B)] 71 4 [] λa5 k S5 Yv Y5 Dw qO=>aad F I f (x:=x) R G u ⟨M,ω⟩ m 0 [] none 0 (λ_=>[]) a5 k k.heap.size (bK _) ⟨.inl ⟨rfl,rfl,rfl⟩,az _,gl _,λa h=>by cases h⟩ Yv ω rfl ⟨(S5.dB _ rfl).env,Sat.qj (Sat.qj S5.sat rfl rfl) rfl rfl,rfl⟩ λC C cp vs a6 a R G k k M=>?_;have S6:St (cP w0.heap.size l []) a.heap.size 118 _ _ 0 a6 a:=⟨k,M,rfl⟩;refine Af F f 84 8 #[.slice W n c0,.slice C m cp] ρ ρ δ S6 λk F=>At.assume gN λC=>At.keep (K':=Old a) (λd=>Iw a) ?_;have H6:=H.mv (x:=x) (vs:=vs) C R M;have k:=aan (x:=x) E λj q=>⟨by have:=u j q;omega,(u j q).2⟩
 have j:w0.heap.size<=a.heap.size:=C.2.2.2.1;refine ES (wI:=a) (w0:=a) H6 (Iw a) U8 (λy o=>⟨⟨(A y o).1.1,(A y o).1.2.1,λp Z e=>(R.PD p Z ⟨y,5,none⟩ false e.symm).1 ⟨y,o,.inl rfl⟩,(A y o).1.2.2.2⟩,by have:=(A y o).2;omega⟩) (Z:=λc=>Sj (nC n L m g).nc x h N none c/\(nC n L m g).nc<=c.tl/\(∀t,t<c.tl->(c.tk t).e=true)/\c.el<1000000/\(∀w,w<c.wl->(c.wt w).x=false->(c.wt w).e=true)/\cj c.ag c.al<0) (λ_=>Rr (zl k) (Ro (st':=λi=>(g i).st+x) hN ht hs) (aac h0 λi _=>rfl)) (λh=>absurd k h) λ_ c e l3 g o2 j5 v7 g C3 g P v X T i S g h _=>At.keep (K':=Old w0) (λd=>Fg C X) ?_;refine F _ _ _ λd Y D=>?_;replace D:=D.trans G;have R2:=Fa hN hs e.1 e.2.2.2.2.2;have X2:=R2.lat he;have d:c.el=el:=R2.el.trans s;rw[d]at Y S T;let⟨os2,oc2,h4,K⟩:=Fi (N':=w0.heap.size) i S g h;have h8:Sat (cP w0.heap.size l []) a (oR B 0 [.slice (some ⟨o1,0,none⟩) m m,.slice j4 el r7] false::Q):=M.ED λr b=>Yn (aP _ (aP _ (aP _ (gF _ b)))) (by
  rcases ak.1 b with rfl|b
  .rfl
  exact(V r b).1)
 have hR:=ww (N':=w0.heap.size) (l':=l3) h8 (λr b=>by
  rcases ak.1 b with rfl|b
  .exact⟨rfl,rfl⟩
  exact V r b) X λy o=>(v y o).1
 have h5:=kL hR h4 (λr b=>by
  rcases ak.1 b with rfl|b
  .rfl
  exact(V r b).1) λr b=>(ux r b).1
 subst s;refine aau (Q:=Q++(sK j5 c.ev J.el::SY o2 c.ou os2 oc2 m::JN c.ou os2 m)) (q1:=B) (L2:=c) (o1:=o1) (o2:=o2) (r7:=r7) (v7:=v7) (j4:=j4) (j5:=j5) (x:=x) (c0:=c0) (cap:=cap) H E h0 hN hs ht he Ty X2 f qh hP P (λy o=>⟨by
  rcases(v y o).1 with z|z
  .exact(A y z).1
  .exact H.awy ω,(v y o).2⟩) D (Y.sub (by intro p Z;simp only[ak,bH,or_false]at Z;rcases Z with rfl|rfl|rfl|rfl|rfl<;>rfl)) h5 (λr b=>by
  rcases dJ.1 b with z|z
  .exact V r z
  .exact ux r z) (h1.up λr b=>gU _ b) (Rp.of K T.1 λr b=>gF _ b)
def Ag(H:Ds w0 W n L U m g)(Q:-9223372036854775808<=t/\t<9223372036854775808)(hP:∀s,Old w0 s->Post (.bool true) s):nM prog Post (Old w0) (jq []) 1 (G (Frame.enter prog 4 #[.slice W n c0,.slice U m cap,i6 t] .normal) []) w0:=by
 have F:=nA (P:=prog) (Post:=Post) (wI:=w0) (l:=[]) 1;have K:∀(a:Addr)(wr:Bool),w0.heap.size<=a.block->cP w0.heap.size [] [] a wr:=λa wr z=>iX (λx v=>by cases v) (az _) z wr;have hS:Sat (cP w0.heap.size [] []) w0 []:=lD λr A=>by cases A
 have G:w0.heap.size<=w0.heap.size:=az _;refine cJ func4 hS 118 λO G G G e J G S0 P9=>Rb F K e G S0 8 [] 1 [] [(24,.slice U m cap),(23,.slice W n c0),(0,.slice W n c0),(1,.slice U m cap),(2,i6 t)] 8 1 [] λG b S1 E G G G=>Af F e 25 8 #[.slice W n c0,.slice U m cap] ρ ρ δ S1 λG I=>At.assume gN λl=>At.keep (K':=Old b) (λd=>Iw b) ?_;have Z:=H.old l;refine ES (wI:=b) (w0:=b) Z (Iw b) Nat.one_pos (λx v=>by cases v) (Z:=λd=>His (nC n L m g) none d/\(nC n L m g).nc<=d.tl/\(∀t,t<d.tl->(d.tk t).e=true)/\d.el<1000000/\(∀w,w<d.wl->(d.wt w).x=false->(d.wt w).e=true)/\cj d.ag d.al<0) (λh=>Rr (zl h) (W3 _) (aai _)) (λ_ u g f k i m=>?_) λV d j u g o ea d d C f k i m T hC S R X _=>?_
 .refine I _ _ _ λa2 q c=>?_;clear F K;have F:=nA (P:=prog) (Post:=Post) (wI:=b) (l:=u) g;have d:b.heap.size<=f.heap.size:=m.2.2.2.1;have K:∀(a:Addr)(wr:Bool),f.heap.size<=a.block->cP b.heap.size u [] a wr:=λa wr z=>iX (N:=f.heap.size) (λx v=>(i x v).2) d z wr;have Y:Sat (cP b.heap.size u []) f []:=lD λr A=>by cases A
  have S2:St (cP b.heap.size u []) f.heap.size 118 [(25,.tuple #[.agg #[.slice none 0 0,.slice none 0 0],.bool false,.bool true])] [] 0 a2 f:=⟨q.sub (by intro p B;simp only[ak,bH,or_false]at B;subst B;rfl),Y,rfl⟩;have P:f.heap.size=f.heap.size:=rfl;replace c:=c.trans E;generalize hB2:f.heap.size=B2 at S2 P K;refine aq (λM=>bR (B2) [.slice none 0 0,.slice none 0 0]::(M)) 1 F K e c S2 25 [0,0,0,2] 127 [] [(6,.bool true)] 34 3 [] λa a f a d d d=>aab F e J a (f.dB _ rfl).env λs a=>hP s (Fg l a)
 .refine I _ _ _ λa2 q c=>?_;let⟨N,h,g,f,d⟩:=j.1;let⟨os1,oc1,h4,D⟩:=Fi (N':=b.heap.size) hC S R X;exact aav Z V g f d j.2.2.2.2.2 j.2.2.1 j.2.2.2.1 Q e J (λs a=>hP s (Fg l a)) k (λy hy=>⟨by
   rcases(i y hy).1 with z|z
   .cases z
   .exact Z.awy z,(i y hy).2⟩) (c.trans E) (q.sub (by intro p B;simp only[ak,bH,or_false]at B;rcases B with rfl|rfl|rfl|rfl<;>rfl)) h4 ux (Rp.of D T.1 λr A=>A)
end
end Go.Proofs.YtobagnjnbmgidabGreatDoor
