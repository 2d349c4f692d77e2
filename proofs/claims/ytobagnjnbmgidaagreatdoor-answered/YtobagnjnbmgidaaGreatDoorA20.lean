import Derived.Test.YtobagnjnbmgidaaGreatDoorA6
import Derived.Test.YtobagnjnbmgidaaGreatDoorK12
set_option linter.all false
set_option maxHeartbeats 0
set_option maxRecDepth 100000
namespace Go.Proofs.YtobagnjnbmgidaaGreatDoor
open Go.Conc Go.RowKit Tryz
variable{st:Int}{Z:LS->Prop}{N N0 c0 cap W nt o tc:Nat}{r:aH}{C:aW}{w':aj}{X cf:aC}{Y:cO}{ea ta:eP}{vs:iO}
variable{V:Ev0}{L' M:LS}{t k i el j ng B:Nat}{b:Bk}{D E E':Nat->OZ}{e:OZ}{ob:Option Bk}{y:ju}{cur:Option (Nat×Nat×Option Bk)}{x now aaU nx d a T:Int}{A:List Int}{sm main:Bool}{f u v:Nat->Int}{U:dh}{Post:qz}{wI:aj}{l:aN}{Q sa:eP}{Ψ:gi}{P:aG}
section
variable{q:Int}{L:LS}{c w:Nat}
end
section
variable{q:Int}{L:LS}{c w:Nat}
def Xb.and{J l:Option (Nat×Nat×Option Bk)->LS->Prop}{p:Prop}(h:Xb V J)(j:p->Xb V l):Xb V λc L=>J c L/\(p->l c L) where
 step:=λt k ob L a b c d e=>⟨h.step t k ob L a.1 b c d e,λz=>(j z).step t k ob L (a.2 z) b c d e⟩
 start:=λi t L a b c d e=>⟨h.start i t L a.1 b c d e,λz=>(j z).start i t L (a.2 z) b c d e⟩
 late:=λi w L a b c d e=>⟨h.late i w L a.1 b c d e,λz=>(j z).late i w L (a.2 z) b c d e⟩
 JB:=λi t w L k ob L' a b c d e f g p o n m l=>⟨h.JB i t w L k ob L' a.1 b c d e f g p o n m l,λz=>(j z).JB i t w L k ob L' (a.2 z) b c d e f g p o n m l⟩
end
section
variable{L:LS}{w:Nat}
def zG(a:Nat->qy):∀n,cj a n=-1->∀j,j<n->(a j).o=true
 |0,h,j,b=>ω
 |n+1,h,j,b=>by
  have:=zG a n;unfold cj at h;grind
def Eu(a:Nat->qy):∀n (i:Nat),cj a n=i->∀j,j<n->(a j).o=false->(a i).a<=(a j).a
 |0,i,h,j,f,b=>ω
 |n+1,i,h,j,f,b=>by
  have:=Eu a n;have c:=rS a n;unfold cj at h;split at h
  .rename_i z;have:i=n:=ω
   subst this;by_cases e:j=i
   .subst e;exact Int.le_refl _
   .rcases c with c|⟨k,g,d⟩
    .exfalso;have:=zG a i c j ω;rw[b]at this;cases this
    .have:=this k d j ω b;rw[d]at z;simp only[mY]at z;omega
  .rename_i z;by_cases e:j=n
   .subst e;rw[h]at z;simp only[mY]at z;have:¬((a j).a<(a i).a):=λy=>z ⟨b,.inr y⟩;omega
   .exact this i h j ω b
end
def kR(f:Nat->Int):Nat->Int
 |0=>0
 |n+1=>kR f n+f n
section
variable{L:LS}{c w n m:Nat}{g:Nat->Int}
def uw:∀n,(∀w,w<n->f w=g w)->kR f n=kR g n
 |0,_=>rfl
 |n+1,h=>by simp only[kR,uw n λw a=>h w ω,h n ω]
def GQ:∀n,w<n->(∀j,j<n->j≠w->f j=g j)->kR f n=kR g n-g w+f w
 |0,h,_=>ω
 |n+1,h,a=>by
  simp only[kR];by_cases e:w=n
  .subst e;rw[uw w λj b=>a j ω ω];omega
  .rw[GQ n ω λj b=>a j ω,a n ω ω];omega
end
section
variable{L:LS}{c w q:Nat}
end
structure zi(V:Ev0)(L:LS):Prop where
 nc:V.nc<=L.tl
 b:∀i,i<L.el->0<=(L.ev i).a/\(L.ev i).a<1000000000000/\(L.ev i).a<=L.now/\∀j,j<=i->(L.ev j).a<=(L.ev i).a
 n:∀i,i<L.al->(L.ag i).o=false->L.now<=(L.ag i).a
 e:∀i,i<L.al->(L.ag i).c=0->∀t:Nat,(L.ag i).t=t->t<L.tl
 e':∀i,i<L.al->(L.ag i).c=0->∀t c:Nat,(L.ag i).t=t->(L.tk t).c=c->V.st c<=(L.ag i).a
 tk:∀t,t<V.nc->(L.tk t).c=t/\(L.tk t).p=0
 wt:∀w,w<L.wl->∀u:Nat,(L.wt w).t=u->u<L.tl
 wt':∀w,w<L.wl->∀u c:Nat,(L.wt w).t=u->(L.tk u).c=c->V.st c<=L.now
 ev:∀i,i<L.el->∀c:Nat,(L.ev i).c=c->V.st c<=(L.ev i).a
 ou:∀c,c<V.nc->(L.tk c).e=true->V.st c<=(L.ou c).a
structure Ax(V:Ev0)(L:LS)(t:Nat):Prop where
 tl:t<L.tl
 c:∀c:Nat,(L.tk t).c=c->V.st c<=L.now
abbrev JX(V:Ev0)(L:LS)(t:Nat):Prop:=zi V L/\Ax V L t
section
variable{L:LS}{w:Nat}
def JX.s{l r n:Int}(h:JX V L t)(a:0<=L.now/\L.now<1000000000000):JX V (L.say t l r n) t:=by
 let⟨h,g⟩:=h;have:=g.2;refine⟨?_,g.1,g.2⟩;cases h;constructor<;>simp only[LS.say,upd]<;>grind
def JX.aO{g:Gt}(h:JX V L t):JX V (L.aO k g) t:=by
 let⟨h,g⟩:=h;exact⟨by cases h;constructor<;>assumption,g.1,g.2⟩
def JX.ZY{x:Ot}(h:JX V L t)(a:x.c=(L.tk j).c/\x.e=(L.tk j).e/\x.p=(L.tk j).p):JX V {L with tk:=upd L.tk j x} t:=by
 let⟨h,g⟩:=h;have:=g.2;exact⟨by cases h;constructor<;>simp only[upd]<;>grind,g.1,by simp only[upd];grind⟩
def JX.us{f:Nat->Int}(h:JX V L t):JX V {L with us:=f} t:=by
 let⟨h,g⟩:=h;exact⟨by cases h;constructor<;>assumption,g.1,g.2⟩
def zi.fix{z:Int}(h:zi V L)(a:z≠0):zi V (L.fix w z b):=by
 cases h;constructor<;>simp only[LS.fix,LS.put,upd]<;>first|grind|(intro x y;split<;>grind)
def JX.fix{z:Int}(h:JX V L t)(a:z≠0):JX V (L.fix w z b) t:=⟨h.1.fix a,h.2.1,h.2.2⟩
def JX.wait{l d:Int}{a:Bool}(h:JX V L t)(b:0<=d):zi V (L.wait t l d a):=by
 let⟨h,_,b⟩:=h.ZY (j:=t) (x:={L.tk t with w:=L.wl,o:=if a=true then(L.wl:Int)else(L.tk t).o}) ⟨rfl,rfl,rfl⟩;unfold LS.wait LS.cB LS.put;generalize upd L.tk t _=T at*;cases h;constructor<;>simp only[upd]at*<;>first|grind|(intro x y;split<;>grind [Int.natCast_inj])
def zi.nH(h:zi V L)(a:t<L.tl)(a:∀c:Nat,(L.tk t).c=c->V.st c<=L.now):zi V (L.begin t w k):=by
 cases h;constructor<;>simp only[LS.begin,LS.put,upd]<;>first|grind [Int.natCast_inj]|(intro x y;split<;>grind [Int.natCast_inj])
def zi.pop(h:zi V L)(a:cj L.ag L.al=i):zi V (L.pop i):=by
 let⟨_,b⟩:=qI _ _ _ a;have b:=Eu _ _ _ a;cases h;constructor<;>simp only[LS.pop,upd]<;>first|grind|(intro x y;split<;>grind)
def zi.bV(h:zi V L)(b:w<L.wl)(a:(L.wt w).t=t):JX V (L.bV t w) t:=by
 have c:=h.wt w b t a;have a:=h.wt' w b t;exact⟨by cases h;constructor<;>simp only[LS.bV,upd]<;>first|grind|(intro x y;split<;>grind),c,by simp only[LS.bV,upd];grind⟩
def zi.tH(h:zi V L):zi V {L with wt:=upd L.wt w {L.wt w with b:=b}}:=by
 cases h;constructor<;>simp only[upd]<;>grind
def zi.done(h:zi V L)(a:t<V.nc->V.st t<=(L.ou t).a):zi V (L.done t):=by
 cases h;constructor<;>simp only[LS.done,upd]<;>grind
def ZA(h:JX V L t)(d:mC V L t):zi V (L.end_ t b):=by
 let⟨c,a,b⟩:=d.c;have b:=h.2.2 c a;have b:=h.1.tk t;unfold LS.end_;split
 .rw[a,mY];refine zi.done ⟨h.1.1,h.1.2,h.1.3,h.1.4,h.1.5,h.1.6,h.1.7,h.1.8,h.1.9,?_⟩ ?_
  .have:=h.1.10;simp only[upd];grind
  .simp only[upd];grind
 .refine zi.done ?_ λz=>absurd (b z).2 ‹_›;unfold LS.qA;split
  .exact h.1.fix δ
  .exact h.1
def JY(V:Ev0)(cur:Option (Nat×Nat×Option Bk))(L:LS):Prop:=zi V L/\∀t k ob,cur=some (t,k,ob)->Ax V L t
def JY.go(h:JX V L t):JY V (some (t,k,ob)) L:=⟨h.1,λ_ _ _ e=>by cases e;exact h.2⟩
def JY.Fw(h:zi V L):JY V none L:=⟨h,λ_ _ _ e=>by cases e⟩
def JX.AG:∀(a:aN)(L:LS),JX V L t->JX V (a.foldl LS.jv L) t
 |[],L,h=>h
 |j::a,L,h=>JX.AG a (L.jv j) (by
  unfold LS.jv LS.qA;split
  .exact h
  .split
   .exact h.fix δ
   .exact h)
def JX.Aj:∀(a:aN)(L:LS),JX V L t->JX V (a.foldl LS.iC L) t
 |[],L,h=>h
 |j::a,L,h=>JX.Aj a (L.iC j) (by
  unfold LS.iC;split
  .exact h
  .exact h.ZY ⟨rfl,rfl,rfl⟩)
def Lt(h:JX V L t)(d:wM V)(S:qm V t L)(T:mC V L t)(a:k<=V.nl)(a:(L.tk t).p<=k):JY V ((L.step V t k ob).2.map λq=>(t,q.1,q.2)) (L.step V t k ob).1:=by
 have Q:=S.now;cases ob with
 |none=>
  unfold LS.step;dsimp only;split
  .let⟨c,e,a⟩:=T.c;rw[e,mY];have e:0<=(aU V c (L.us c).toNat).t:=by
    unfold aU;split
    .exact(d.tr c a _ ‹_›).2.1
    .exact Int.le_refl 0
   have a:∀u n,JX V (LS.say {L with us:=u} t (-1) 1 n) t:=λu n=>(h.us (f:=u)).s Q;split
   .exact JY.go ((a _ _).s Q)
   .exact JY.Fw ((a _ _).wait e).tH
  .unfold LS.jg LS.pass LS.take LS.uX;have c:JX V (L.aM t k) t/\(L.aM t k).now=L.now:=by
    unfold LS.aM;split
    .exact⟨h.aO.s Q,rfl⟩
    .exact⟨h,rfl⟩
   have a:JX V ((L.aM t k).cz k) t/\((L.aM t k).cz k).now=L.now:=by
    unfold LS.cz;split
    .exact⟨c.1.aO,c.2⟩
    .exact c
   repeat' split
   .exact JY.go (h.ZY ⟨rfl,rfl,rfl⟩)
   .exact JY.go (h.s Q)
   .exact JY.go (h.aO.s Q)
   .exact JY.go (h.aO.s Q)
   .exact JY.go (h.s Q)
   .exact JY.go (c.1.s (by rw[c.2];exact Q))
   .exact JY.go (JX.s (L:=((L.aM t k).cz k).mark t k) (a.1.ZY ⟨rfl,rfl,rfl⟩) (by show 0<=((L.aM t k).cz k).now/\((L.aM t k).cz k).now<_;rw[a.2];exact Q))
   .exact JY.go (h.aO.s Q)
   .exact JY.go (h.s Q)
   .exact JY.go ((h.s Q).s Q)
   .exact JY.Fw ((h.s Q).wait (d.ro k ω (by assumption)).2.1)
   .exact JY.go (h.s Q)
   .exact JY.Fw (zi.nH (h.wait (by have:=d.li k ω (by assumption);omega)) h.2.1 (by
     have:=h.2.2;simp only[LS.wait,LS.cB,LS.put,upd];grind))
   .exact JY.go h
 |some b=>
  unfold LS.step;dsimp only;split
  .exact JY.Fw (ZA h T)
  .obtain⟨j,rfl⟩:∃j,k=j+1:=⟨k-1,ω⟩
   rw[eM];have a:∀x,JX V {L.say t j 3 x with tk:=upd (L.say t j 3 x).tk t {(L.say t j 3 x).tk t with a:=upd ((L.say t j 3 x).tk t).a j ((L.tk t).a j+1)}} t:=λx=>(h.s Q).ZY ⟨rfl,rfl,rfl⟩;have c:JX V (L.count (V.ly j) t j b) t:=by
    unfold LS.count;dsimp only
    repeat' split
    all_goals first|exact h|exact h.aO|exact h.aO.s Q
   unfold LS.fC
   repeat' split
   .exact JY.go h
   .exact JY.go (h.s Q)
   .exact JY.go ((a _).s Q)
   .exact JY.Fw ((a _).wait ω)
   .exact JY.go (a _)
   .exact JY.go c
   .exact JY.go ((h.s Q).fix δ)
   .exact JY.go (h.s Q).aO
   .exact JY.go (h.s Q)
   .exact JY.go h
def aai(e:wM V):Xb V (JY V) where
 step:=λt k ob L h S T b a=>Lt ⟨h.1,h.2 t k ob rfl⟩ e S (T t S.tn) b a
 start:=λi t L h f a b e=>JY.go ⟨h.1.pop a,f,λc=>h.1.e' i (qI _ _ _ a).1 e t c b⟩
 late:=λi w L h a _ _ _=>JY.Fw (h.1.pop a)
 JB:=λi t w L k ob L' h c f c e a b b b e S O=>by
  have I:=(h.1.pop a).bV (w:=w) (t:=t) c b;generalize (L.pop i).bV t w=M at*;have Q:=S.now;rcases O with ⟨a,b,y,ch,b,rfl,rfl,rfl⟩|⟨b,ok,ol,⟨a,b,rfl,rfl,rfl⟩|⟨a,b,rfl,rfl,rfl⟩|⟨b,a,rfl,rfl,rfl⟩|⟨b,a,rfl,rfl,rfl⟩|⟨b,a,rfl,rfl,d,of,rfl⟩|⟨b,a,rfl,rfl,rfl⟩⟩
  .exact JY.go (I.s Q)
  .exact JY.go (I.s Q)
  .exact JY.go I
  .exact JY.go (I.s Q)
  .exact JY.go (I.s Q)
  .exact JY.go (JX.AG d _ (JX.Aj d _ (I.s Q)))
  .exact JY.go I
def aau(e:wM V):JY V none (ko V):=JY.Fw ⟨az _,λi a=>absurd a (uk _),λi a _=>(e.st i a).1,λi a _ t (b:(i:Int)=t)=>by
 obtain rfl:i=t:=ω
 exact a,λi a _ t c (b:(i:Int)=t) (e:(t:Int)=c)=>by
 obtain rfl:i=c:=ω
 exact Int.le_refl _,λt b=>⟨rfl,rfl⟩,λw b=>absurd b (uk _),λw b=>absurd b (uk _),λi a=>absurd a (uk _),λc _ d=>by cases d⟩
end
def kN(q c:Int)(E:Nat->OZ):Nat->Int
 |0=>0
 |i+1=>kN q c E i+if(E i).c=c/\(E i).l=-1/\(E i).w=q then 1 else 0
def E4(q c n:Int)(e:OZ):Prop:=e.c=c/\e.l=-1/\e.w=q/\e.n=n
def j5(L:LS)(w:Nat):Int:=(L.tk (L.wt w).t.toNat).c
def Cf(V:Ev0)(L:LS)(c:Int)(w:Nat):Int:=if(L.wt w).l=V.nl/\(L.wt w).e=false/\j5 L w=c then 1 else 0
def xm(V:Ev0)(c n:Int):Lm:=aU V c.toNat n.toNat
def PnT(V:Ev0)(L:LS)(w:Nat):Prop:=∃i n,i<L.el/\E4 1 (j5 L w) n (L.ev i)/\(L.wt w).b=⟨(cN (xm V (j5 L w) n)).k,(cN (xm V (j5 L w) n)).n,⟨0,0,n⟩::(cN (xm V (j5 L w) n)).ch⟩/\∀j,j<L.al->(L.ag j).c=1->(L.ag j).w=w->(L.ag j).a=(L.ev i).a+(xm V (j5 L w) n).t
structure JE(V:Ev0)(L:LS):Prop where
 l:∀i,i<L.el->(L.ev i).l=-1->(L.ev i).w=1\/(L.ev i).w=2
 us:∀c:Nat,c<V.nc->L.us c=kN 1 c L.ev L.el
 be:∀i,i<L.el->∀c n,E4 1 c n (L.ev i)->n=kN 1 c L.ev i
 en:∀j,j<L.el->∀c n,E4 2 c n (L.ev j)->∃i,i<j/\E4 1 c n (L.ev i)/\(L.ev j).a=(L.ev i).a+(xm V c n).t
 pe:∀i,i<L.el->∀c n,E4 1 c n (L.ev i)->(∃j,i<j/\j<L.el/\E4 2 c n (L.ev j))\/∃w ch,w<L.wl/\(L.wt w).l=V.nl/\(L.wt w).e=false/\j5 L w=c/\(L.wt w).b.ch=⟨0,0,n⟩::ch
 wt:∀w,w<L.wl->0<=(L.wt w).t/\(L.wt w).t<L.tl
 ag:∀i,i<L.al->(L.ag i).c=1->0<=(L.ag i).w/\(L.ag i).w<L.wl
 pn:∀w,w<L.wl->(L.wt w).l=V.nl->(L.wt w).e=false->PnT V L w
 sm:∀c:Nat,c<V.nc->kN 2 c L.ev L.el+kR (Cf V L c) L.wl=L.us c
 nx:∀w,w<L.wl->(L.wt w).l=V.nl->(L.wt w).x=false
structure Qm(V:Ev0)(L L':LS):Prop where
 us:L'.us=L.us
 el:L.el<=L'.el
 ev:∀i,i<L.el->L'.ev i=L.ev i
 en:∀i,L.el<=i->i<L'.el->(L'.ev i).l≠-1
 wl:L.wl<=L'.wl
 wt:∀w,w<L.wl->(L'.wt w).t=(L.wt w).t/\(L'.wt w).l=(L.wt w).l/\((L.wt w).l=V.nl->(L'.wt w).b=(L.wt w).b/\(L'.wt w).e=(L.wt w).e/\(L'.wt w).x=(L.wt w).x)
 wn:∀w,L.wl<=w->w<L'.wl->(L'.wt w).l≠V.nl/\0<=(L'.wt w).t/\(L'.wt w).t<L'.tl
 tl:L.tl<=L'.tl
 tk:∀u,u<L.tl->(L'.tk u).c=(L.tk u).c
 al:L.al<=L'.al
 ag:∀i,i<L.al->(L'.ag i).c=(L.ag i).c/\(L'.ag i).w=(L.ag i).w/\(L'.ag i).a=(L.ag i).a
 an:∀i,L.al<=i->i<L'.al->(L'.ag i).c=1->L.wl<=(L'.ag i).w/\(L'.ag i).w<L'.wl
section
variable{L:LS}{w:Nat}{q c:Int}
def Ah:∀n,(∀i,i<n->E' i=E i)->kN q c E' n=kN q c E n
 |0,_=>rfl
 |n+1,h=>by simp only[kN,Ah n λi a=>h i ω,h n ω]
def aah(m:Nat):∀n,m<=n->(∀i,i<m->E' i=E i)->(∀i,m<=i->i<n->(E' i).l≠-1)->kN q c E' n=kN q c E m
 |0,f,h,_=>by obtain rfl:m=0:=ω
              rfl
 |n+1,f,h,d=>by
  by_cases e:m=n+1
  .subst e;exact Ah _ h
  .have:=aah m n ω h λi a b=>d i a ω;have a:=d n ω ω;simp only[kN,this,a,false_and,and_false,if_false,Int.add_zero]
def JM(m:Nat){f g:Nat->Int}:∀n,m<=n->(∀i,i<m->f i=g i)->(∀i,m<=i->i<n->f i=0)->kR f n=kR g m
 |0,d,h,_=>by obtain rfl:m=0:=ω
              rfl
 |n+1,d,h,c=>by
  by_cases e:m=n+1
  .subst e;exact uw _ h
  .have:=JM m n ω h λi a b=>c i a ω;have a:=c n ω ω;simp only[kR,this,a,Int.add_zero]
def Qm.bY:Qm V L L:=by constructor<;>grind
def Qm.tr(h:Qm V L M)(g:Qm V M L'):Qm V L L':=by
 cases h;cases g;constructor<;>grind
def Qm.cl(h:Qm V L L')(a:w<L.wl)(b:0<=(L.wt w).t/\(L.wt w).t<L.tl):j5 L' w=j5 L w:=by
 unfold j5;rw[(h.wt w a).1];exact h.tk _ ω
def JE.mv(h:JE V L)(g:Qm V L L'):JE V L':=by
 have m:∀w,w<L.wl->j5 L' w=j5 L w:=λw b=>g.cl b (h.wt w b);have o:∀q c,kN q c L'.ev L'.el=kN q c L.ev L.el:=λq c=>aah L.el _ g.el g.ev g.en;have hold:∀q c n i,i<L'.el->E4 q c n (L'.ev i)->i<L.el/\E4 q c n (L.ev i):=λq c n i d a=>by
  by_cases e:i<L.el
  .exact⟨e,g.ev i e▸a⟩
  .exact absurd a.2.1 (g.en i ω d)
 refine⟨λi d l=>?_,λc p=>?_,λi d c n a=>?_,λj q c n a=>?_,λi d c n a=>?_,λw b=>?_,λi d p=>?_,λw b l f=>?_,λc p=>?_,λw b l=>?_⟩
 .by_cases e:i<L.el
  .rw[g.ev i e]at l ⊢;exact h.l i e l
  .exact absurd l (g.en i ω d)
 .rw[g.us,o];exact h.us c p
 .let⟨e,a⟩:=hold _ _ _ _ d a;rw[Ah i λj q=>g.ev j ω];exact h.be i e c n a
 .let⟨e,a⟩:=hold _ _ _ _ q a;let⟨i,k,f,r⟩:=h.en j e c n a;exact⟨i,k,by rw[g.ev i ω];exact f,by rw[g.ev i ω,g.ev j e];exact r⟩
 .let⟨e,a⟩:=hold _ _ _ _ d a;rcases h.pe i e c n a with ⟨j,k,f,r⟩|⟨w,ch,k,f,r,a,a⟩
  .exact .inl ⟨j,k,by have:=g.el;omega,by rw[g.ev j f];exact r⟩
  .have:=g.wt w k;have:=this.2.2 f;refine .inr ⟨w,ch,by have:=g.wl;omega,χ,χ,ξ,ξ⟩
 .by_cases e:w<L.wl
  .rw[(g.wt w e).1];have:=h.wt w e;have:=g.tl;omega
  .exact(g.wn w ω b).2
 .by_cases e:i<L.al
  .have:=g.ag i e;rw[this.2.1];have:=h.ag i e χ;have:=g.wl;omega
  .have:=g.an i ω d p;omega
 .by_cases e:w<L.wl
  .have k:=g.wt w e;have f:(L.wt w).l=V.nl:=ω
   let⟨i,n,d,a,_,r⟩:=h.pn w e f ξ;refine⟨i,n,by have:=g.el;omega,by rw[m w e,g.ev i d];exact a,ξ,λj q a n=>?_⟩;by_cases n:j<L.al
   .have:=g.ag j n;rw[m w e,g.ev i d,this.2.2];simp_all
   .have:=g.an j ω q a;omega
  .exact absurd l (g.wn w ω b).1
 .rw[o,g.us,<-h.sm c p];congr 1;refine JM L.wl _ g.wl (λw b=>?_) λw k f=>?_
  .have:=g.wt w b;have:=m w b;unfold Cf;grind
  .have:=g.wn w k f;unfold Cf;grind
 .by_cases e:w<L.wl
  .have:=g.wt w e;have:=h.nx w e;grind
  .exact absurd l (g.wn w ω b).1
end
section
variable{L:LS}{w:Nat}{c:Nat}{n:Int}
def Qm.say{l q n:Int}(a:l≠-1):Qm V L (L.say t l q n):=by constructor<;>simp only[LS.say,upd]<;>grind
def Qm.aO{g:Gt}:Qm V L (L.aO k g):=by constructor<;>simp only[LS.aO]<;>grind
def Qm.ZY{x:Ot}(a:x.c=(L.tk j).c):Qm V L {L with tk:=upd L.tk j x}:=by constructor<;>simp only[upd]<;>grind
def Qm.ou{o:Nat->Se}:Qm V L {L with ou:=o}:=by constructor<;>simp only[]<;>grind
def Qm.fix{z:Int}(a:z≠1)(a:(L.wt w).l≠V.nl):Qm V L (L.fix w z b):=by constructor<;>simp only[LS.fix,LS.put,upd]<;>grind
def Qm.qA{z:Int}(a:z≠1)(c:(L.wt w).l≠V.nl):Qm V L (L.qA w z b):=by
 unfold LS.qA;split
 .exact .fix a c
 .exact .bY
def Qm.begin:Qm V L (L.begin t w k):=by constructor<;>simp only[LS.begin,LS.put,upd]<;>grind
def Qm.pop:Qm V L (L.pop i):=by constructor<;>simp only[LS.pop,upd]<;>grind
def Qm.bV(a:(L.wt w).l≠V.nl):Qm V L (L.bV t w):=by constructor<;>simp only[LS.bV,upd]<;>grind
def Qm.wait{l d:Int}{a:Bool}(b:l≠V.nl)(b:t<L.tl):Qm V L (L.wait t l d a):=by constructor<;>simp only[LS.wait,LS.cB,LS.put,upd]<;>grind
def Qm.done:Qm V L (L.done t):=.ZY rfl
def Qm.iC(j:Nat):Qm V L (L.iC j):=by
 unfold LS.iC;split
 .exact .bY
 .exact .ZY rfl
def Qm.Aj:∀(a:aN)(L:LS),Qm V L (a.foldl LS.iC L)
 |[],L=>.bY
 |j::a,L=>(Qm.iC j).tr (Qm.Aj a (L.iC j))
def aae(j w:Nat):((L.jv j).wt w).l=(L.wt w).l:=by
 unfold LS.jv LS.qA;split
 .rfl
 .split
  .simp only[LS.fix,LS.put,upd];grind
  .rfl
def Qm.AG:∀(a:aN)(L:LS),(∀j∈a,0<=(L.tk j).o->(L.wt (L.tk j).o.toNat).l≠V.nl)->Qm V L (a.foldl LS.jv L)
 |[],L,_=>.bY
 |j::a,L,h=>by
  refine Qm.tr (M:=L.jv j) ?_ (Qm.AG a (L.jv j) λu a b=>?_)
  .unfold LS.jv;split
   .exact .bY
   .exact .qA δ (h j ψ ω)
  .rw[Mt]at b ⊢;rw[aae];simp_all
def Iv(u:Nat):∀(a:aN)(L:LS),((a.foldl LS.iC L).tk u).o=(L.tk u).o/\(a.foldl LS.iC L).wt=L.wt
 |[],L=>⟨rfl,rfl⟩
 |j::a,L=>by
  have b:=Iv u a (L.iC j);have:((L.iC j).tk u).o=(L.tk u).o/\(L.iC j).wt=L.wt:=by
   unfold LS.iC;split
   .simp
   .simp only[upd];grind
  simp_all
def Qm.cancel{oL:aN}(h:∀j∈oL,0<=(L.tk j).o->(L.wt (L.tk j).o.toNat).l≠V.nl):Qm V L (L.cancel oL):=(Qm.Aj oL L).tr (Qm.AG oL _ λj a a=>by
 have:=Iv j oL L;simp_all)
def JE.aag(h:JE V L)(G:(L.tk t).c=c)(x:c<V.nc)(G:(aU V c (L.us c).toNat).t=0):JE V (LS.say (LS.say {L with us:=upd L.us c (L.us c+1)} t (-1) 1 (L.us c)) t (-1) 2 (L.us c)):=by
 generalize e:LS.say (LS.say {L with us:=upd L.us c (L.us c+1)} t (-1) 1 (L.us c)) t (-1) 2 (L.us c)=M;replace e:=e.symm;have m:∀i,i<L.el->M.ev i=L.ev i:=λi f=>by rw[e];simp only[LS.say,upd];grind
 have l:M.ev L.el=⟨L.now,c,-1,1,L.us c⟩:=by rw[e];simp only[LS.say,upd];grind
 have r:M.ev (L.el+1)=⟨L.now,c,-1,2,L.us c⟩:=by rw[e];simp only[LS.say,upd];grind
 have f1:M.us=upd L.us c (L.us c+1):=by rw[e];rfl
 have f2:M.el=L.el+2:=by rw[e];rfl
 have f3:M.wl=L.wl:=by rw[e];rfl
 have f4:M.wt=L.wt:=by rw[e];rfl
 have f5:M.tk=L.tk:=by rw[e];rfl
 have f6:M.al=L.al:=by rw[e];rfl
 have f7:M.ag=L.ag:=by rw[e];rfl
 have f8:M.tl=L.tl:=by rw[e];rfl
 have z:∀q d:Int,kN q d M.ev (L.el+2)=kN q d L.ev L.el+(if(c:Int)=d/\1=q then 1 else 0)+(if(c:Int)=d/\2=q then 1 else 0):=λq d=>by
  simp only[kN,l,r,Ah L.el m,true_and]
 have y:∀w,j5 M w=j5 L w:=λw=>by unfold j5;rw[f4,f5]
 have F:=h.us c x;refine⟨λi f u=>?_,λd v=>?_,λi f d n b=>?_,λj A d n b=>?_,λi f d n b=>?_,λw o=>?_,λi f p=>?_,λw o u B=>?_,λd v=>?_,by rw[f3,f4];exact h.nx⟩
 .have:=h.l i;grind
 .rw[f1,f2,z,<-h.us d v];simp only[upd];grind
 .rw[f2]at f;by_cases a:i<L.el
  .rw[Ah i λj A=>m j ω];exact h.be i a d n (m i a▸b)
  .by_cases s:i=L.el
   .subst s;rw[l]at b;let⟨k,_,_,g⟩:=b;rw[Ah _ m,<-g,<-k];exact F
   .obtain rfl:i=L.el+1:=ω
    rw[r]at b;exact absurd b.2.2.1 ψ
 .rw[f2]at A;by_cases a:j<L.el
  .let⟨i,E,D,C⟩:=h.en j a d n (m j a▸b);grind
  .by_cases s:j=L.el
   .subst s;rw[l]at b;exact absurd b.2.2.1 ψ
   .obtain rfl:j=L.el+1:=ω
    rw[r]at b ⊢;let⟨k,_,_,g⟩:=b;refine⟨L.el,ω,by rw[l];exact⟨k,rfl,rfl,g⟩,?_⟩;rw[l,<-k,<-g];show L.now=L.now+(aU V (c:Int).toNat _).t;grind
 .rw[f2]at f;by_cases a:i<L.el
  .rcases h.pe i a d n (m i a▸b)with ⟨j,E,D,C⟩|⟨w,ch,E,D,C,a,a⟩
   .grind
   .exact .inr ⟨w,ch,ω,ξ,ξ,ξ,ξ⟩
  .by_cases s:i=L.el
   .subst s;rw[l]at b;let⟨k,_,_,g⟩:=b;exact .inl ⟨L.el+1,ω,ω,by rw[r];exact⟨k,rfl,rfl,g⟩⟩
   .obtain rfl:i=L.el+1:=ω
    rw[r]at b;exact absurd b.2.2.1 ψ
 .rw[f3]at o;rw[f4,f8];exact h.wt w o
 .rw[f6]at f;rw[f7]at p ⊢;rw[f3];exact h.ag i f p
 .rw[f3]at o;rw[f4]at u B;let⟨i,n,_,_,_,a⟩:=h.pn w o u B;exact⟨i,n,ω,ξ,ξ,ξ⟩
 .rw[f2,f3,f1,z];have:=h.sm d v;have a:kR (Cf V M d) L.wl=kR (Cf V L d) L.wl:=uw _ λw _=>by unfold Cf;rw[y,f4]
  rw[a];simp only[upd];grind
end
section
variable{L:LS}{w:Nat}{c:Nat}{n:Int}
def KM(x:Lm)(n:Int):Bk:=⟨(cN x).k,(cN x).n,⟨0,0,n⟩::(cN x).ch⟩
structure T1(V:Ev0)(L M:LS)(t c:Nat):Prop where
 us:M.us=upd L.us c (L.us c+1)
 el:M.el=L.el+1
 e0:∀i,i<L.el->M.ev i=L.ev i
 e1:M.ev L.el=⟨L.now,c,-1,1,L.us c⟩
 wl:M.wl=L.wl+1
 w0:∀w,w<L.wl->M.wt w=L.wt w
 w1:(M.wt L.wl).t=t/\(M.wt L.wl).l=V.nl/\((M.wt L.wl).e=false/\(M.wt L.wl).x=false)/\(M.wt L.wl).b=KM (aU V c (L.us c).toNat) (L.us c)
 tl:M.tl=L.tl
 tk:∀u,(M.tk u).c=(L.tk u).c
 al:M.al=L.al+1
 a0:∀i,i<L.al->M.ag i=L.ag i
 a1:(M.ag L.al).a=L.now+(aU V c (L.us c).toNat).t/\(M.ag L.al).w=L.wl
def JE.aaf(h:JE V L)(B:t<L.tl)(B:(L.tk t).c=c)(B:c<V.nc)(T:T1 V L M t c):JE V M:=by
 let⟨f1,f2,l,o,f3,v,⟨_,J,⟨I,_⟩,C⟩,f8,f5,f6,H,N,t⟩:=T;have D:∀q d:Int,kN q d M.ev (L.el+1)=kN q d L.ev L.el+(if(c:Int)=d/\1=q then 1 else 0):=λq d=>by
  simp only[kN,o,Ah L.el l,true_and]
 have q:∀w,w<L.wl->j5 M w=j5 L w:=λw m=>by unfold j5;simp_all
 have b:j5 M L.wl=c:=by unfold j5;simp_all
 have K:=h.us c B;refine⟨λi k f=>?_,λd A=>?_,λi k d n e=>?_,λj s d n e=>?_,λi k d n e=>?_,λw m=>?_,λi k r=>?_,λw m f E=>?_,λd A=>?_,λw m f=>?_⟩
 .rw[f2]at k;by_cases a:i<L.el
  .rw[l i a]at f ⊢;exact h.l i a f
  grind
 .rw[f1,f2,D,<-h.us d A];simp only[upd];grind
 .rw[f2]at k;by_cases a:i<L.el
  .rw[Ah i λj s=>l j ω];exact h.be i a d n (l i a▸e)
  .obtain rfl:i=L.el:=ω
   rw[o]at e;let⟨y,_,_,x⟩:=e;rw[Ah _ l,<-x,<-y];exact K
 .rw[f2]at s;by_cases a:j<L.el
  .let⟨i,G,u,F⟩:=h.en j a d n (l j a▸e);grind
  .obtain rfl:j=L.el:=ω
   rw[o]at e;exact absurd e.2.2.1 ψ
 .rw[f2]at k;by_cases a:i<L.el
  .rcases h.pe i a d n (l i a▸e)with ⟨j,G,u,F⟩|⟨w,ch,G,u,F,l,l⟩
   .grind
   grind
  .obtain rfl:i=L.el:=ω
   rw[o]at e;let⟨y,_,_,x⟩:=e;refine .inr ⟨L.wl,(cN (aU V c (L.us c).toNat)).ch,ω,J,I,b.trans y,?_⟩;rw[C,<-x];rfl
 .rw[f3]at m;rw[f8];by_cases a:w<L.wl
  .rw[v w a];exact h.wt w a
  grind
 .rw[f6]at k;rw[f3];by_cases a:i<L.al
  .rw[H i a]at r ⊢;have:=h.ag i a r;omega
  grind
 .rw[f3]at m;by_cases a:w<L.wl
  .rw[v w a]at f E;let⟨i,n,_,_,_,l⟩:=h.pn w a f E;refine⟨i,n,ω,ξ,ξ,λj s g p=>?_⟩;grind
  .obtain rfl:w=L.wl:=ω
   refine⟨L.el,L.us c,ω,by rw[b,o];exact⟨rfl,rfl,rfl,rfl⟩,by rw[b,C];rfl,λj s g p=>?_⟩;rw[b,o];by_cases z:j<L.al
   .rw[H j z]at g p;have:=h.ag j z g;omega
   .obtain rfl:j=L.al:=ω
    rw[N];rfl
 .rw[f2,f3,f1,D];have:=h.sm d A;have b:kR (Cf V M d) L.wl=kR (Cf V L d) L.wl:=uw _ λw m=>by unfold Cf;simp_all
  have u:Cf V M d L.wl=if(c:Int)=d then 1 else 0:=by unfold Cf;simp_all
  simp only[kR];rw[b,u];simp only[upd];grind
 .by_cases a:w<L.wl
  .rw[v w a]at f ⊢;exact h.nx w a f
  grind
def JE.over(h:JE V L)(r:w<L.wl)(k:(L.wt w).l=V.nl)(A:(L.wt w).e=false)(Q:(L.wt w).t=t)(e:i<L.al)(g:(L.ag i).c=1)(B:(L.ag i).w=w)(D:∃d:Nat,(L.tk t).c=d/\d<V.nc){y:iN}{ch:List iN}(P:(L.wt w).b.ch=y::ch):JE V (((L.pop i).bV t w).say t (-1) 2 y.n)/\(L.wt w).b=KM (xm V (L.tk t).c y.n) y.n/\ch=(cN (xm V (L.tk t).c y.n)).ch:=by
 let⟨Q,n,O,H,p,G⟩:=h.pn w r k A;have s:j5 L w=(L.tk t).c:=by unfold j5;simp_all
 rw[p]at P;obtain⟨rfl,rfl⟩:(⟨0,0,n⟩:iN)=y/\(cN (xm V (j5 L w) n)).ch=ch:=ξ
 have N:=G i e g B;rw[s]at H p N;refine⟨?_,p,by rw[s]⟩;let⟨c,_,s⟩:=D;have l:∀j,j<L.el->(((L.pop i).bV t w).say t (-1) 2 n).ev j=L.ev j:=λj f=>by simp only[LS.say,LS.bV,LS.pop,upd];grind
 have x:(((L.pop i).bV t w).say t (-1) 2 n).ev L.el=⟨(L.ag i).a,c,-1,2,n⟩:=by simp only[LS.say,LS.bV,LS.pop,upd];grind
 have K:∀j,(((L.pop i).bV t w).say t (-1) 2 n).wt j=if j=w then{L.wt w with e:=true} else L.wt j:=λj=>φ
 have f1:(((L.pop i).bV t w).say t (-1) 2 n).us=L.us:=rfl;have f2:(((L.pop i).bV t w).say t (-1) 2 n).el=L.el+1:=rfl;have f3:(((L.pop i).bV t w).say t (-1) 2 n).wl=L.wl:=rfl;have f5:∀u,((((L.pop i).bV t w).say t (-1) 2 n).tk u).c=(L.tk u).c:=λu=>by simp only[LS.say,LS.bV,LS.pop,upd];grind
 have f6:(((L.pop i).bV t w).say t (-1) 2 n).al=L.al:=rfl;have f7:∀j,((((L.pop i).bV t w).say t (-1) 2 n).ag j).c=(L.ag j).c/\((((L.pop i).bV t w).say t (-1) 2 n).ag j).w=(L.ag j).w/\((((L.pop i).bV t w).say t (-1) 2 n).ag j).a=(L.ag j).a:=λj=>by simp only[LS.say,LS.bV,LS.pop,upd];grind
 have f8:(((L.pop i).bV t w).say t (-1) 2 n).tl=L.tl:=rfl;show JE V (((L.pop i).bV t w).say t (-1) 2 n);generalize ((L.pop i).bV t w).say t (-1) 2 n=M at*;have I:∀q d:Int,kN q d M.ev (L.el+1)=kN q d L.ev L.el+(if(c:Int)=d/\2=q then 1 else 0):=λq d=>by
  simp only[kN,x,Ah L.el l,true_and]
 have o:∀j,(M.wt j).t=(L.wt j).t/\(M.wt j).l=(L.wt j).l/\(M.wt j).b=(L.wt j).b:=λj=>χ
 have q:∀j,j5 M j=j5 L j:=λj=>by unfold j5;simp_all
 refine⟨λi e k=>?_,λd C=>?_,λi e d n b=>?_,λj f d m b=>?_,λi e d m b=>?_,λw r=>?_,λi e g=>?_,λj f k A=>?_,λd C=>?_,λj f=>by have:=h.nx j (f3▸f);grind⟩
 .rw[f2]at e;by_cases a:i<L.el
  .rw[l i a]at k ⊢;exact h.l i a k
  grind
 .rw[f1,f2,I,<-h.us d C];simp
 .rw[f2]at e;by_cases a:i<L.el
  .rw[Ah i λj f=>l j ω];exact h.be i a d n (l i a▸b)
  .obtain rfl:i=L.el:=ω
   rw[x]at b;exact absurd b.2.2.1 ψ
 .rw[f2]at f;by_cases a:j<L.el
  .let⟨i,J,F,E⟩:=h.en j a d m (l j a▸b);grind
  .obtain rfl:j=L.el:=ω
   rw[x]at b ⊢;let⟨_,_,_,q⟩:=b;grind
 .rw[f2]at e;by_cases a:i<L.el
  .rcases h.pe i a d m (l i a▸b)with ⟨j,J,F,E⟩|⟨v,ch,J,F,E,l,R⟩
   .grind
   .by_cases z:v=w
    .subst z;rw[p]at R;have l:n=m:=ξ
     refine .inl ⟨L.el,a,ω,?_⟩;rw[x];exact⟨ξ,rfl,rfl,l⟩
    grind
  .obtain rfl:i=L.el:=ω
   rw[x]at b;exact absurd b.2.2.1 ψ
 .rw[f3]at r;rw[(o w).1,f8];exact h.wt w r
 .rw[f6]at e;rw[(f7 i).1]at g;rw[(f7 i).2.1,f3];exact h.ag i e g
 .rw[f3]at f;rw[(o j).2.1]at k;by_cases z:j=w
  .simp_all
  .rw[K,af z]at A;let⟨i,n,O,H,p,G⟩:=h.pn j f k A;refine⟨i,n,ω,ξ,ξ,λu a a a=>?_⟩;simp_all
 .rw[f2,f3,f1,I];have:=h.sm d C;have a:kR (Cf V M d) L.wl=kR (Cf V L d) L.wl-Cf V L d w+Cf V M d w:=GQ _ r λj f z=>by unfold Cf;simp_all
  have F:Cf V L d w=if(c:Int)=d then 1 else 0:=by unfold Cf;simp_all
  have E:Cf V M d w=0:=by unfold Cf;simp_all
  omega
end
section
variable{L:LS}{w:Nat}{c:Nat}{n:Int}
def JEc(V:Ev0)(_:Option (Nat×Nat×Option Bk))(L:LS):Prop:=JE V L
def It(h:JE V L)(S:qm V t L)(T:mC V L t)(C:k<=V.nl)(B:(L.tk t).p<=k):JE V (L.step V t k ob).1:=by
 have e:=S.tn;cases ob with
 |none=>
  unfold LS.step;dsimp only;split
  .let⟨c,m,o⟩:=T.c;rw[m,mY];split
   .exact h.aag m o ‹_›
   .refine h.aaf e m o ⟨rfl,rfl,λi n=>?_,?_,rfl,λi n=>?_,⟨?_,?_,?_,?_⟩,rfl,λu=>?_,rfl,λi n=>?_,?_,?_⟩;all_goals simp only[LS.say,LS.wait,LS.cB,LS.put,upd,KM]at*
    all_goals grind
  .rename_i q;refine h.mv ?_;have d:(k:Int)≠V.nl:=ω
   have a:(k:Int)≠-1:=ω
   unfold LS.jg LS.pass LS.take LS.uX;have g:Qm V L (L.aM t k):=by
    unfold LS.aM;split
    .exact Qm.aO.tr (.say a)
    .exact .bY
   have f:Qm V L ((L.aM t k).cz k):=by
    unfold LS.cz;split
    .exact g.tr .aO
    .exact g
   repeat' split
   .exact .ZY rfl
   .exact .say a
   .exact Qm.aO.tr (.say a)
   .exact Qm.aO.tr (.say a)
   .exact .say a
   .exact g.tr (.say a)
   .exact(f.tr (M:=(L.aM t k).cz k) (L':=((L.aM t k).cz k).mark t k) (.ZY rfl)).tr (.say a)
   .exact Qm.aO.tr (.say a)
   .exact .say a
   .exact(Qm.say (t:=t) (q:=12) (n:=0) a).tr (.say a)
   .exact(Qm.say (t:=t) (q:=12) (n:=0) a).tr (.wait d e)
   .exact .say a
   .exact(Qm.wait d e).tr .begin
   .exact .bY
 |some b=>
  refine h.mv ?_;unfold LS.step;dsimp only;split
  .unfold LS.end_;split
   .exact Qm.ou.tr .done
   .refine(Qm.qA δ ?_).tr .done;rcases T.p with ⟨z,_⟩|⟨w,A,y,_,v,s,_⟩
    .omega
    grind
  .obtain⟨j,rfl⟩:∃j,k=j+1:=⟨k-1,ω⟩
   rw[eM];have d:(j:Int)≠V.nl:=ω
   have a:(j:Int)≠-1:=ω
   have l:∀x,Qm V L {L.say t j 3 x with tk:=upd (L.say t j 3 x).tk t {(L.say t j 3 x).tk t with a:=upd ((L.say t j 3 x).tk t).a j ((L.tk t).a j+1)}}:=λx=>(Qm.say a).tr (.ZY rfl);have r:Qm V L (L.count (V.ly j) t j b):=by
    unfold LS.count;dsimp only
    repeat' split
    all_goals first|exact .bY|exact .aO|exact Qm.aO.tr (.say a)
   unfold LS.fC
   repeat' split
   .exact .bY
   .exact .say a
   .exact(l _).tr (.say a)
   .exact(l _).tr (.wait d e)
   .exact(l _)
   .exact r
   .rename_i w p;exact(Qm.say a).tr (.fix δ (by
     have:=(Kz p).2.1;show(L.wt w).l≠_;omega))
   .exact(Qm.say a).tr .aO
   .exact .say a
   .exact .bY
def aaj:Xb V (JEc V) where
 step:=λt k ob L h S T n m=>It h S (T t S.tn) n m
 start:=λi t L h o n m D=>h.mv .pop
 late:=λi w L h n _ _ _=>h.mv .pop
 JB:=λi t w L k ob L' h p o A k n m g e C S O=>by
  let⟨u,k⟩:=qI _ _ _ n;have d:∀j,((((L.pop i).bV t w).wt j).l=(L.wt j).l/\(((L.pop i).bV t w).wt j).b=(L.wt j).b)/\((((L.pop i).bV t w).tk j).o=(L.tk j).o):=λj=>by simp only[LS.bV,LS.pop,upd];grind
  have f:=(d w).1.1;have l:=(d w).1.2;have b:(L.wt w).l≠V.nl->Qm V L ((L.pop i).bV t w):=λz=>Qm.pop.tr (.bV z);rcases O with ⟨c,r,y,ch,q,rfl,rfl,rfl⟩|⟨s,ok,ol,O⟩
  .exact(JE.over h A (f.symm.trans r) C e u c g (p t o).c (l▸q)).1
  .have a:(s:Int)≠-1:=ω
   have b:=b ω;refine h.mv ?_;rcases O with ⟨c,e,rfl,rfl,rfl⟩|⟨c,e,rfl,rfl,rfl⟩|⟨e,c,rfl,rfl,rfl⟩|⟨e,c,rfl,rfl,rfl⟩|⟨e,c,rfl,rfl,f,of,rfl⟩|⟨e,c,rfl,rfl,rfl⟩
   .exact b.tr (.say a)
   .exact b
   .exact b.tr (.say a)
   .exact b.tr (.say a)
   .refine(b.tr (.say a)).tr (.cancel λj a B=>?_);have c:∀x,((((L.pop i).bV t w).say t x 15 0).tk j).o=(L.tk j).o:=λx=>(d j).2;rw[c]at B ⊢;have c:∀x,((((L.pop i).bV t w).say t x 15 0).wt (L.tk j).o.toNat).l=(L.wt (L.tk j).o.toNat).l:=λx=>(d _).1.1;rw[c];rcases(p j (of j a).1).o with z|⟨v,a,a,_,a,a⟩
    .omega
    grind
   .exact b
def aav:JE V (ko V):=⟨λi a=>absurd a (uk _),λc d=>rfl,λi a=>absurd a (uk _),λi a=>absurd a (uk _),λi a=>absurd a (uk _),λw b=>absurd b (uk _),λi a d=>(by cases d),λw b=>absurd b (uk _),λc d=>rfl,λw b=>absurd b (uk _)⟩
end
def VE(V:Ev0)(L:LS)(c a m:Int):Prop:=∃j n,j<L.el/\E4 2 c n (L.ev j)/\(L.ev j).a=a/\(cN (xm V c n)).k=1/\(cN (xm V c n)).n=m
structure JV(V:Ev0)(L:LS):Prop where
 nc:V.nc<=L.tl
 wt:∀w,w<L.wl->0<=(L.wt w).t/\(L.wt w).t<L.tl
 tk:∀t,t<V.nc->(L.tk t).c=t/\(L.tk t).p=0
 fa:∀t,t<L.tl->∀w:Nat,(L.tk t).f=w->w<L.wl/\j5 L w=(L.tk t).c
 e2:∀i,i<L.al->(L.ag i).o=false->(L.ag i).c=2->∃w:Nat,(L.ag i).w=w/\w<L.wl/\(L.wt w).x=true/\((L.wt w).b.k=1->VE V L (j5 L w) (L.ag i).a (L.wt w).b.n)
 ou:∀c,c<V.nc->(L.tk c).e=true->(L.ou c).b.k=1->VE V L c (L.ou c).a (L.ou c).b.n
structure Vm(V:Ev0)(L L':LS):Prop where
 el:L.el<=L'.el
 ev:∀i,i<L.el->L'.ev i=L.ev i
 ou:L'.ou=L.ou
 wl:L.wl<=L'.wl
 wt:∀w,w<L.wl->(L'.wt w).t=(L.wt w).t/\((L.wt w).x=true->(L'.wt w).x=true/\(L'.wt w).b=(L.wt w).b)
 wn:∀w,L.wl<=w->w<L'.wl->0<=(L'.wt w).t/\(L'.wt w).t<L'.tl
 tl:L.tl<=L'.tl
 tk:∀u,u<L.tl->(L'.tk u).c=(L.tk u).c/\(L'.tk u).f=(L.tk u).f/\(L'.tk u).p=(L.tk u).p/\(u<V.nc->(L'.tk u).e=(L.tk u).e)
 tn:∀u,L.tl<=u->u<L'.tl->∀w:Nat,(L'.tk u).f=w->w<L'.wl/\j5 L' w=(L'.tk u).c
 al:L.al<=L'.al
 ag:∀i,i<L.al->(L'.ag i).c=(L.ag i).c/\(L'.ag i).w=(L.ag i).w/\(L'.ag i).a=(L.ag i).a/\((L'.ag i).o=false->(L.ag i).o=false)
 an:∀i,L.al<=i->i<L'.al->(L'.ag i).c≠2
section
variable{L:LS}{w:Nat}{c m:Int}
def VE.mono(h:VE V L c a m)(b:L.el<=L'.el)(b:∀i,i<L.el->L'.ev i=L.ev i):VE V L' c a m:=by
 let⟨j,n,_,_,a⟩:=h;exact⟨j,n,ω,ξ,ξ⟩
def Vm.cl(g:Vm V L L')(a:w<L.wl)(b:0<=(L.wt w).t/\(L.wt w).t<L.tl):j5 L' w=j5 L w:=by
 unfold j5;rw[(g.wt w a).1];exact(g.tk _ ω).1
def JV.mv(h:JV V L)(g:Vm V L L'):JV V L':=by
 have f:∀w,w<L.wl->j5 L' w=j5 L w:=λw a=>g.cl a (h.wt w a);have b:=h.nc;refine⟨by have:=g.tl;omega,λw a=>?_,λt d=>?_,λt d w k=>?_,λi n m b=>?_,λc b l j=>?_⟩
 .by_cases e:w<L.wl
  .rw[(g.wt w e).1];have:=h.wt w e;have:=g.tl;omega
  .exact g.wn w ω a
 .have:=g.tk t ω;have:=h.tk t d;grind
 .by_cases e:t<L.tl
  .have a:=g.tk t e;have l:=h.fa t e w (a.2.1▸k);exact⟨by have:=g.wl;omega,ξ⟩
  .exact g.tn t ω d w k
 .by_cases e:i<L.al
  .let⟨r,q,p,o⟩:=g.ag i e;let⟨w,l,d,a,k⟩:=h.e2 i e (o m) (r▸b);let⟨_,e⟩:=g.wt w d;refine⟨w,q.trans l,by have:=g.wl;omega,(e a).1,λz=>?_⟩;rw[f w d,p,(e a).2];exact(k ξ).mono g.el g.ev
  .exact absurd b (g.an i ω n)
 .rw[g.ou]at j ⊢;have:=g.tk c ω;exact(h.ou c b ξ j).mono g.el g.ev
def Vm.bY:Vm V L L:=by constructor<;>grind
def Vm.say{l q n:Int}:Vm V L (L.say t l q n):=by constructor<;>simp only[LS.say,upd]<;>grind
def Vm.us{u:Nat->Int}:Vm V L {L with us:=u}:=by constructor<;>simp only[upd]<;>grind
def Vm.aO{g:Gt}:Vm V L (L.aO k g):=by constructor<;>simp only[LS.aO]<;>grind
def Vm.ZY{x:Ot}(a:x.c=(L.tk j).c/\x.f=(L.tk j).f/\x.p=(L.tk j).p/\x.e=(L.tk j).e):Vm V L {L with tk:=upd L.tk j x}:=by constructor<;>simp only[upd]<;>grind
def Vm.fix{z:Int}(a:z≠2)(a:(L.wt w).x=false):Vm V L (L.fix w z b):=by constructor<;>simp only[LS.fix,LS.put,upd]<;>grind
def Vm.qA{z:Int}(a:z≠2):Vm V L (L.qA w z b):=by
 unfold LS.qA;split
 .exact .fix a (And.left ‹_›)
 .exact .bY
def Vm.pop:Vm V L (L.pop i):=by constructor<;>simp only[LS.pop,upd]<;>grind
def Vm.bV:Vm V L (L.bV t w):=by constructor<;>simp only[LS.bV,upd]<;>grind
def Vm.tH(a:(L.wt w).x=false):Vm V L {L with wt:=upd L.wt w {L.wt w with b:=b}}:=by constructor<;>simp only[upd]<;>grind
def Vm.wait{l d:Int}{a:Bool}(b:t<L.tl):Vm V L (L.wait t l d a):=by constructor<;>simp only[LS.wait,LS.cB,LS.put,upd]<;>grind
def JV.done(h:JV V L)(g:t<V.nc->(L.ou t).b.k=1->VE V L t (L.ou t).a (L.ou t).b.n):JV V (L.done t):=by
 have a:∀u,((L.done t).tk u).c=(L.tk u).c/\((L.done t).tk u).p=(L.tk u).p/\((L.done t).tk u).f=(L.tk u).f/\(u≠t->((L.done t).tk u).e=(L.tk u).e):=λu=>by simp only[LS.done,upd];grind
 have b:∀w,j5 (L.done t) w=j5 L w:=λw=>by unfold j5;exact(a _).1
 refine⟨h.nc,h.wt,λu f=>?_,λu f w l=>?_,λi o g d=>?_,λc d k j=>?_⟩
 .rw[(a u).1,(a u).2.1];exact h.tk u f
 .rw[b,(a u).1];exact h.fa u f w ((a u).2.2.1▸l)
 .let⟨w,n,m,l,f⟩:=h.e2 i o g d;exact⟨w,n,m,l,by rw[b];exact f⟩
 .by_cases e:c=t
  .subst e;exact g d j
  .rw[(a c).2.2.2 e]at k;exact h.ou c d k j
def JV.aao(h:JV V L)(k:w<L.wl)(c:(L.wt w).x=false)(l:b.k=1->VE V L (j5 L w) L.now b.n):JV V (L.fix w 2 b):=by
 have c:∀j,((L.fix w 2 b).wt j).t=(L.wt j).t:=λj=>by simp only[LS.fix,LS.put,upd];grind
 have a:∀j,j5 (L.fix w 2 b) j=j5 L j:=λj=>by unfold j5;rw[c];rfl
 refine⟨h.nc,λj g=>by rw[c];exact h.wt j g,h.tk,λu c v g=>by rw[a];exact h.fa u c v g,λi g d f=>?_,h.ou⟩;have c:i<L.al+1:=g;by_cases e:i<L.al
 .have c:(L.fix w 2 b).ag i=L.ag i:=by simp only[LS.fix,LS.put,upd];grind
  rw[c]at d f ⊢;let⟨v,j,g,_,c⟩:=h.e2 i e d f;have e:(L.fix w 2 b).wt v=L.wt v:=by simp only[LS.fix,LS.put,upd];grind
  exact⟨v,j,g,ξ,by rw[a,e];exact c⟩
 .obtain rfl:i=L.al:=ω
  refine⟨w,by simp[LS.fix,LS.put,upd],k,by simp[LS.fix,LS.put,upd],λz=>?_⟩;rw[a];have:((L.fix w 2 b).wt w).b=b/\((L.fix w 2 b).ag L.al).a=L.now:=by simp[LS.fix,LS.put,upd]
  rw[this.1]at z ⊢;rw[this.2];exact l z
def JV.begin(h:JV V L)(e:w<L.wl)(c:j5 L w=(L.tk t).c):JV V (L.begin t w k):=by
 have c:∀j,((L.begin t w k).wt j).t=(L.wt j).t/\((L.begin t w k).wt j).x=(L.wt j).x/\((L.begin t w k).wt j).b=(L.wt j).b:=λj=>by simp only[LS.begin,LS.put,upd];grind
 have g:∀u,u<L.tl->(L.begin t w k).tk u=L.tk u:=λu f=>by simp only[LS.begin,LS.put,upd];grind
 have d:∀j,j<L.wl->j5 (L.begin t w k) j=j5 L j:=λj d=>by unfold j5;rw[(c j).1,g _ (by have:=h.wt j d;omega)]
 refine h.mv ⟨az _,λ_ _=>rfl,rfl,az _,λj d=>⟨(c j).1,λz=>⟨(c j).2.1.trans z,(c j).2.2⟩⟩,λj a b=>absurd a (by simp only[LS.begin,LS.put]at b;omega),Nat.le_succ _,λu f=>ξ,λu a b v a=>?_,Nat.le_succ _,λj d=>by simp only[LS.begin,LS.put,upd];grind,λj a a=>by simp only[LS.begin,LS.put,upd]at*;grind⟩;have a:u<L.tl+1:=b;obtain rfl:u=L.tl:=ω
 have:(((L.begin t w k).tk L.tl).f=w)/\((L.begin t w k).tk L.tl).c=(L.tk t).c:=by simp[LS.begin,LS.put,upd]
 obtain rfl:v=w:=ω
 exact⟨e,ξ⟩
end
def JC(V:Ev0)(cur:Option (Nat×Nat×Option Bk))(L:LS):Prop:=JV V L/\∀t k b,cur=some (t,k,some b)->b.k=1->VE V L (L.tk t).c L.now b.n
section
variable{L:LS}{w:Nat}{c:Nat}
def JC.go(h:JV V L)(a:b.k=1->VE V L (L.tk t).c L.now b.n):JC V (some (t,k,some b)) L:=⟨h,λ_ _ _ e=>ξ⟩
def JC.err(h:JV V L)(a:b.k=2):JC V (some (t,k,some b)) L:=.go h λz=>ω
def JC.KF(h:JV V L):JC V (some (t,k,none)) L:=⟨h,λ_ _ _ e=>by cases e⟩
def JC.Fw(h:JV V L):JC V none L:=⟨h,λ_ _ _ e=>by cases e⟩
def JV.s{l q n:Int}(h:JV V L):JV V (L.say t l q n):=h.mv .say
def JV.g{g:Gt}(h:JV V L):JV V (L.aO k g):=h.mv .aO
def JV.cB{l:Int}{cb:Bool}(h:JV V L)(a:t<L.tl):JV V (L.wait t l d cb):=h.mv (.wait a)
def JV.AG:∀(a:aN)(L:LS),JV V L->JV V (a.foldl LS.jv L)
 |[],L,h=>h
 |j::a,L,h=>JV.AG a (L.jv j) (by
  unfold LS.jv;split
  .exact h
  .exact h.mv (.qA δ))
def JV.Aj:∀(a:aN)(L:LS),JV V L->JV V (a.foldl LS.iC L)
 |[],L,h=>h
 |j::a,L,h=>JV.Aj a (L.iC j) (by
  unfold LS.iC;split
  .exact h
  .exact h.mv (.ZY ⟨rfl,rfl,rfl,rfl⟩))
def VE.s{l q n x:Int}{c m:Int}(h:VE V L c a m):VE V (L.say t l q n) c a m:=h.mono (Nat.le_succ _) λi a=>by simp only[LS.say,upd];grind
def aaa(h:JV V L)(k:mC V L t)(g:t<L.tl)(j:b.k=1->VE V L (L.tk t).c L.now b.n):JV V (L.end_ t b):=by
 let⟨c,l,y⟩:=k.c;unfold LS.end_;split
 .rw[l,mY];rw[l]at j;have a:∀d,d=c->(upd L.ou c ⟨L.now,b⟩ d).b.k=1->VE V L d (upd L.ou c ⟨L.now,b⟩ d).a (upd L.ou c ⟨L.now,b⟩ d).b.n:=λd e=>by subst e;simp only[upd,if_true];exact j
  refine JV.done ⟨h.1,h.2,h.3,h.4,h.5,λd p o f=>?_⟩ λz f=>?_
  .by_cases e:d=c
   .exact a d e f
   .have r:upd L.ou c ⟨L.now,b⟩ d=L.ou d:=by simp[upd,e]
    have:=h.ou d p o;simp only[r]at f ⊢;exact this f
  .have:=(h.tk t z).1;exact a t ω f
 .rename_i n;have q:JV V (L.qA (L.tk t).f.toNat 2 b):=by
   unfold LS.qA;split
   .rcases k.p with ⟨z,_⟩|⟨w,x,m,v,u,s,_⟩
    .omega
    .have:=h.fa t g w m;rename_i i _;have e:(L.tk t).f.toNat=w:=ω
     rw[e]at i ⊢;exact h.aao this.1 i.1 ξ
   .exact h
  exact q.done λz=>absurd (h.tk t z).2 n
def LO(H:JC V (some (t,k,ob)) L)(S:qm V t L)(T:mC V L t)(y:k<=V.nl)(v:(L.tk t).p<=k):JC V ((L.step V t k ob).2.map λq=>(t,q.1,q.2)) (L.step V t k ob).1:=by
 have d:=S.tn;let⟨h,s⟩:=H;cases ob with
 |none=>
  unfold LS.step;dsimp only;split
  .let⟨c,o,A⟩:=T.c;rw[o,mY];have m:∀u n,JV V (LS.say {L with us:=u} t (-1) 1 n):=λu n=>(h.mv (.us (u:=u))).s;split
   .refine JC.go (m _ _).s λz=>?_;refine⟨L.el+1,L.us c,by simp only[LS.say];omega,?_,?_,?_⟩
    .refine⟨?_,?_,?_,?_⟩<;>simp only[LS.say,upd]<;>grind
    .simp only[LS.say,upd];grind
    .have:((LS.say (LS.say {L with us:=upd L.us c (L.us c+1)} t (-1) 1 (L.us c)) t (-1) 2 (L.us c)).tk t).c=c:=o;rw[this];exact⟨z,rfl⟩
   .exact JC.Fw (((m _ _).cB d).mv (.tH (by simp[LS.say,LS.wait,LS.cB,LS.put,upd])))
  .unfold LS.jg LS.pass LS.take LS.uX;have f:JV V (L.aM t k):=by
    unfold LS.aM;split
    .exact h.g.s
    .exact h
   have e:JV V ((L.aM t k).cz k):=by
    unfold LS.cz;split
    .exact f.g
    .exact f
   repeat' split
   .exact .KF (h.mv (.ZY ⟨rfl,rfl,rfl,rfl⟩))
   .exact .err h.s rfl
   .exact .KF h.g.s
   .exact .KF h.g.s
   .exact .err h.s rfl
   .exact .err f.s rfl
   .exact .KF (JV.s (L:=((L.aM t k).cz k).mark t k) (e.mv (.ZY ⟨rfl,rfl,rfl,rfl⟩)))
   .exact .KF h.g.s
   .exact .err h.s rfl
   .exact .err h.s.s rfl
   .exact .Fw (h.s.cB d)
   .exact .err h.s rfl
   .refine .Fw ((h.cB d).begin (gr _) ?_);simp only[j5,LS.wait,LS.cB,LS.put,upd];grind
   .exact .KF h
 |some b=>
  have a:=s t k b rfl;unfold LS.step;dsimp only;split
  .exact .Fw (aaa h T d a)
  .obtain⟨j,rfl⟩:∃j,k=j+1:=⟨k-1,ω⟩
   rw[eM];have g:∀x,JV V {L.say t j 3 x with tk:=upd (L.say t j 3 x).tk t {(L.say t j 3 x).tk t with a:=upd ((L.say t j 3 x).tk t).a j ((L.tk t).a j+1)}}:=λx=>h.s.mv (.ZY ⟨rfl,rfl,rfl,rfl⟩);have i:∀q,b.k=1->VE V (L.say t j q 0) ((L.say t j q 0).tk t).c (L.say t j q 0).now b.n:=λq z=>(a z).s (x:=0);have r:JC V (some (t,j,some b)) (L.count (V.ly j) t j b):=by
    unfold LS.count;dsimp only
    repeat' split
    all_goals first|exact .go h a|exact .go h.g a|exact .go h.g.s λz=>VE.s (x:=0) (a z)
   unfold LS.fC
   repeat' split
   .exact .go h a
   .exact .err h.s rfl
   .exact .err (g _).s rfl
   .exact .Fw ((g _).cB d)
   .exact .KF (g _)
   .exact r
   .rename_i w p;have l:=Kz p;refine .go (h.s.aao l.1 l.2.2.1 λz=>by cases z) λz=>i 14 z
   .exact .go h.s.g λz=>i 14 z
   .exact .err h.s rfl
   .exact .go h a
def JA(V:Ev0)(cur:Option (Nat×Nat×Option Bk))(L:LS):Prop:=JE V L/\JC V cur L
def aak:Xb V (JA V) where
 step:=λt k ob L h S T g e=>⟨It h.1 S (T t S.tn) g e,LO h.2 S (T t S.tn) g e⟩
 start:=λi t L h l g e m=>⟨h.1.mv .pop,.KF (h.2.1.mv .pop)⟩
 late:=λi w L h g _ _ _=>⟨h.1.mv .pop,.Fw (h.2.1.mv .pop)⟩
 JB:=λi t w L k ob L' h s l q m g e d c r S O=>by
  refine⟨aaj.JB i t w L k ob L' h.1 s l q m g e d c r S O,?_⟩;let⟨p,C⟩:=qI _ _ _ g;have j:(((L.pop i).bV t w).wt w).l=(L.wt w).l/\(((L.pop i).bV t w).wt w).b=(L.wt w).b:=by simp only[LS.bV,LS.pop,upd];grind
  have u:(((L.pop i).bV t w).tk t).c=(L.tk t).c:=by simp only[LS.bV,LS.pop,upd];grind
  have D:((L.pop i).bV t w).now=(L.ag i).a:=rfl;have b:JV V ((L.pop i).bV t w):=(h.2.1.mv .pop).mv .bV;have n:j5 L w=(L.tk t).c:=by unfold j5;simp_all
  rcases O with ⟨a,B,y,ch,A,rfl,rfl,rfl⟩|⟨e,ok,ol,O⟩
  .have e:=(JE.over h.1 q (j.1.symm.trans B) r c p a d (s t l).c (j.2▸A)).2.1;refine .go b.s λz=>?_;have o:(L.wt w).b.k=1:=ξ
   have c:((((L.pop i).bV t w).say t (-1) 2 y.n).tk t).c=(L.tk t).c:=u;rw[c];refine⟨L.el,y.n,gr _,⟨?_,?_,?_,?_⟩,?_,?_,?_⟩
   .simp only[LS.say,LS.bV,LS.pop,upd];grind
   .simp only[LS.say,LS.bV,LS.pop,upd];grind
   .simp only[LS.say,LS.bV,LS.pop,upd];grind
   .simp only[LS.say,LS.bV,LS.pop,upd];grind
   .simp only[LS.say,LS.bV,LS.pop,upd];grind
   .rw[e]at o;exact o
   .show _=(((L.pop i).bV t w).wt w).b.n;rw[j.2,e];rfl
  .rcases O with ⟨a,c,rfl,rfl,rfl⟩|⟨a,c,rfl,rfl,rfl⟩|⟨c,a,rfl,rfl,rfl⟩|⟨c,a,rfl,rfl,rfl⟩|⟨c,a,rfl,rfl,f,of,rfl⟩|⟨c,a,rfl,rfl,rfl⟩
   .exact .err b.s rfl
   .exact .KF b
   .exact .err b.s rfl
   .exact .KF b.s
   .exact .err (JV.AG f _ (JV.Aj f _ b.s)) rfl
   .refine .go b λz=>?_;let⟨v,_,_,b,x⟩:=h.2.1.e2 i p C a;obtain rfl:v=w:=ω
    rw[j.2]at z ⊢;rw[u,D,<-n];exact(x z).mono (az _) λ_ _=>rfl
def aaw:JA V none (ko V):=⟨aav,.Fw ⟨az _,λw b=>absurd b (uk _),λt b=>⟨rfl,rfl⟩,λt b w d=>(by cases d),λi b b a=>(by cases a),λc a e=>(by cases e)⟩⟩
end
abbrev sK(e:eP)(ev:Nat->OZ)(el:Nat):aH:=fR (e.getD ⟨0,0,none⟩) 5 (λj=>yt (ev j)) el false
abbrev nv(o:eP)(ou:Nat->Se)(oh:yX)(n:Nat):aH:=fR (o.getD ⟨0,0,none⟩) 4 (λj=>yL (ou j,oh j)) n false
abbrev Ru:aH:=oR 0 0 [.iface 217 (.agg #[.pointer (some ⟨1,121,none⟩)])] false
abbrev Yt(sa:eP)(m:Nat)(g:Nat->Cl):aH:=fR (sa.getD ⟨0,0,none⟩) 2 (λj=>[i6 (g j).st,.slice (g j).ta (g j).nt (g j).tc]) m false
abbrev Kd(g:Nat->Cl)(j:Nat):aH:=fR ((g j).ta.getD ⟨0,0,none⟩) 3 (λi=>[i6 ((g j).T i 0),i6 ((g j).T i 1),i6 ((g j).T i 2)]) (g j).nt false
def cM(sa:eP)(m:Nat)(g:Nat->Cl):List aH:=Ru::Yt sa m g::(List.range m).map (Kd g)
abbrev El(Q:eP)(n:Nat)(L:oF):aH:=fR (Q.getD ⟨0,0,none⟩) 6 (oG L) n false
def pY{m:Nat}{g:Nat->Cl}:∀r∈cM sa m g,r.wr=false:=λr a=>by
 simp only[cM,ak,gV]at a;grind
def GP{m:Nat}{g:Nat->Cl}:Flat (cM sa m g):=by
 rw[bO];intro r a;simp only[cM,ak,gV]at a;grind
def Yn(h:r∈C)(a:r.wr=false):Has C r:=mq.2 ⟨a,h⟩
section
variable{w:aj}
def lD{M:aW}(h:∀r∈M,xE U w r/\r.wr=false):Sat U w M:=by
 refine sat_iff.2 ⟨λr a=>(h r a).1,?_⟩;refine WE λr a a a a=>?_;simp_all
def nU(a:r.wr=false)(a:r.row=none)(a:∀j,r.has j->w.cell? (r.ad j)=some (r.get j))(b:∀j,r.has j->U (r.ad j) false):xE U w r:=
 ⟨a,λj a=>⟨b j a,λz=>ξ⟩,λz=>ξ,λg e n z=>ξ⟩
def vD{n:Nat}{L:oF}(h:nF w Q n L)(k:∀p:Addr,Q=some p->∀a:Addr,a.block=p.block->U a false):xE U w (El Q n L):=by
 refine nU rfl rfl (λj c=>?_) (λj c=>?_)
 .let⟨i,f⟩:=j;let⟨g,e⟩:=c;obtain⟨b,o,rfl,d⟩:=h i g;simp only at g e;have:=d f e;simp only[cQ,ey];rw[show o+i*6+f=o+i*6+f from rfl,this];rcases f with _|_|_|_|_|_|f
  .rfl
  .rfl
  .rfl
  .rfl
  .rfl
  .rfl
  .omega
 .let⟨i,f⟩:=j;obtain⟨b,o,rfl,d⟩:=h i c.1;exact k _ rfl _ (by simp only[cQ,ey])
def zv{m:Nat}{g:Nat->Cl}(h:sG w sa m g)(u:w.cell? ⟨0,0,none⟩=some (.iface 217 (.agg #[.pointer (some ⟨1,121,none⟩)])))(t:TO U sa m g)(q:U ⟨0,0,none⟩ false):Sat U w (cM sa m g):=by
 refine lD λr p=>?_;refine⟨?_,pY r p⟩;simp only[cM,ak,gV]at p;rcases p with rfl|rfl|⟨j,a,rfl⟩
 .refine nU rfl rfl (λj a=>?_) (λj a=>?_)
  .let⟨i,f⟩:=j;let⟨c,d⟩:=a;simp only[gB,iT]at c d;have s:f=0:=ω
   subst s;exact u
  .let⟨i,f⟩:=j;let⟨c,d⟩:=a;simp only[gB,iT]at c d;have s:f=0:=ω
   subst s;exact q
 .refine nU rfl rfl (λj a=>?_) (λj a=>?_)
  .let⟨i,f⟩:=j;let⟨c,d⟩:=a;obtain⟨b,o,rfl,n,l,_⟩:=h i c;simp only at c d;simp only[cQ,ey];rcases f with _|_|f
   .exact n
   .exact l
   .omega
  .let⟨i,f⟩:=j;obtain⟨b,o,rfl,n,l,_⟩:=h i a.1;exact t.1 _ rfl _ (by simp only[cQ,ey])
 .have l:j<m:=aZ.1 a;let⟨_,a,_,_,_,m⟩:=h j l;refine nU rfl rfl (λk a=>?_) (λk a=>?_)
  .let⟨i,f⟩:=k;let⟨c,d⟩:=a;let⟨b,o,e,h⟩:=m i c;simp only at c d;have:=h f d;show w.cell? ((((g j).ta.getD ⟨0,0,none⟩).add (i*3)).add f)=some (List.getD [i6 ((g j).T i 0),i6 ((g j).T i 1),i6 ((g j).T i 2)] f undef);rw[e];simp only[cQ,ey];grind
  .let⟨i,f⟩:=k;let⟨b,o,e,h⟩:=m i a.1;have b:=a.1;show U ((((g j).ta.getD ⟨0,0,none⟩).add (i*3)).add f) false;rw[e];exact t.2 j l χ _ e _ (by simp only[cQ,ey])
def Sat.ZL{s:PS}(h:Sat U w (pM s++C)):Sat U w (sK s.ea s.l.ev s.l.el::nv (some ⟨s.k.O,0,none⟩) s.l.ou s.oh s.k.V.nc::C):=by
 have c:Sat U w ([vR s.ea 5 (λj=>yt (s.l.ev j)) s.l.el s.ec 55,fR ⟨s.k.O,0,none⟩ 4 (λj=>yL (s.l.ou j,s.oh j)) s.k.V.nc true]++C):=h.sub (D7 (by
  show List.Sublist [_,_] [_,_,_,_,_,_,_];exact .cons _ (.cons _ (.cons _ (.cons_cons _ (.cons _ (.cons _ (.cons_cons _ .slnil))))))) C)
 have b:=c.G7 0 rfl (sK s.ea s.l.ev s.l.el) (λj a=>⟨a,rfl,rfl⟩) (λz=>by cases z) rfl;exact b.G7 1 rfl (nv (some ⟨s.k.O,0,none⟩) s.l.ou s.oh s.k.V.nc) (λj a=>⟨a,rfl,rfl⟩) (λz=>by cases z) rfl
end
def Sat.Wp{w:aj}{b:Nat}{M:aW}(h:Sat U w M)(l:∀j,j<vs.length->w.cell? ⟨b,j,none⟩=some (vs.getD j undef))(k:∀j wr,U ⟨b,j,none⟩ wr)(m:∀j,j<vs.length->w.frozen? ⟨b,j,none⟩=false)(o:∀r∈M,∀j,r.has j->∀i,i<vs.length->r.ad j≠⟨b,i,none⟩):Sat U w (bR b vs::M):=by
 refine sat_iff.2 ⟨λr d=>?_,iG.2 ⟨λr d i j f a c e=>?_,(sat_iff.1 h).2⟩⟩
 .rcases ak.1 d with rfl|d
  .refine⟨λj a=>?_,λj a=>⟨k _ _,λ_=>⟨k _ _,m _ a.2⟩⟩,λ_ j f a c e=>?_,λg e n z=>(by cases z)⟩
   .rw[show(bR b vs).ad j=⟨b,j.2,none⟩from rfl,l j.2 a.2];congr 1;have b:j.2<vs.length:=a.2;unfold aH.get;grind
   .have b:j.1<1:=a.1;have b:f.1<1:=c.1;grind
  .exact(sat_iff.1 h).1 r d
 .exact o r d f c j.2 a.2 e.symm
def Sat.aaR{w:aj}{b:Nat}{M:aW}(h:Sat U w M)(a:∀j,j<vs.length->w.cell? ⟨b,j,none⟩=some (vs.getD j undef))(c:∀j wr,U ⟨b,j,none⟩ wr)(d:∀j,j<vs.length->w.frozen? ⟨b,j,none⟩=false):∃C,Sat U w (bR b vs::C)/\∀r,Has M r->(∀j,r.has j->∀i,i<vs.length->r.ad j≠⟨b,i,none⟩)->Has C r:=by
 classical
 refine⟨M.filter λr=>decide (∀j,r.has j->∀i,i<vs.length->r.ad j≠⟨b,i,none⟩),(h.sub List.filter_sublist).Wp a c d λr a=>?_,λr a b=>?_⟩
 .simp_all
 .let⟨c,b⟩:=mq.1 a;exact mq.2 ⟨c,mK.2 ⟨b,ξ⟩⟩
def Ba:∀{E:Env}{n:Nat}{v:ay},look E n=some v->(n,v)∈E
 |[],n,v,h=>by cases h
 |(d,u)::E,n,v,h=>by
  simp only[look]at h;by_cases e:d=n
  .simp_all
  .have a:(d==n)=false:=ξ
   rw[a]at h;exact aP _ (Ba h)
def aR.sub{E E':Env}{a:Act}(h:aR E N a)(b:∀p∈E',look E p.1=some p.2):aR E' N a:=⟨h.sz,λn v a=>h.val n v (b (n,v) (Ba a))⟩
def Iw(w:aj):Old w w:=⟨rfl,rfl,rfl,az _,λ_ _=>rfl⟩
def Fg{a b c:aj}(h:Old a b)(k:Old b c):Old a c:=⟨k.1.trans h.1,k.2.1.trans h.2.1,k.2.2.1.trans h.2.2.1,aT h.2.2.2.1 k.2.2.2.1,λi a=>(k.2.2.2.2 i (ga a h.2.2.2.1)).trans (h.2.2.2.2 i a)⟩
theorem zw{L:LS}{m:Nat}(P:wM V)(Q:yI V L)(O:Fin V Z m none L)(m:0<ng){w:aj}(L:∀x∈l,x<w.heap.size){cA:Nat}{sL:eP}{dL:p9}{eu:bU}{M:aW}(D:Sj V sa dL eu M)(u:0<V.nl->∃c,sL=some c/\Has M (fR c 6 (λi=>EV (V.ly i)) V.nl false))(x:Sat (cP wI.heap.size l []) w M)(q:O3 (cP w.heap.size l []) (nM prog Post (Old w) (jq l) ng) w.heap.size M 16 #[.slice sL V.nl cA,.slice sa V.nc cap] (.tuple #[i6 0,i6 0]))(K:∀(c:LS),Z c->∀(b A:Nat)(o:Nat)(ea:eP)(W:Nat)(i:yX)(C:aW)(w':aj),0<b->w.heap.size<=A->A<w'.heap.size->(0<V.nc->w.heap.size<=o)->Old w w'->Old wI w'->((0<c.el->∃a,ea=some a)/\c.el<=W)->Sat (cP wI.heap.size (A::l) []) w' (sK ea c.ev c.el::nv (some ⟨o,0,none⟩) c.ou i V.nc::C)->(∀r,Has M r->Has C r)->(∀j,j<V.nc->fu C (i j) (c.ou j).b.ch)->
 nM prog Post (Old wI) (jq (A::l)) b (G (cf.finish (.tuple #[.agg #[.slice (some ⟨o,0,none⟩) V.nc V.nc,.slice ea c.el W],i6 0,i6 0])) Y) w'):
 nM prog Post (Old wI) (jq l) ng (G (Frame.enter prog 24 #[.slice sL V.nl cA,.slice sa V.nc cap] .normal) (cf::Y)) w:=by
 refine At.assume gN λt=>At.keep (K':=Old w) (λd=>Iw w) ?_;have p:wI.heap.size<=w.heap.size:=t.2.2.2.1;refine Pm P Q O m L D u (x.OB (λr e j B h=>⟨h.1,λz=>by cases z⟩) (λr e n=>by rw[D.ro r e]at n;cases n)) q λb A s C w' N J I H F f y v E k=>?_;subst F;refine At.keep (λd=>Fg t f) ?_;have R:Sat (cP wI.heap.size (A::l) []) w' (pM s++C):=y.OB (λr e j B h=>⟨h.1,λz=>by cases z⟩) (λr e n j B h=>⟨h.1,λz=>⟨aT p (h.2 z).1,(h.2 z).2⟩⟩);exact K s.l H b A s.k.O s.ea s.ec s.oh C w' N J I (λz=>(((y.ok 6 (fR ⟨s.k.O,0,none⟩ 4 (λj=>yL (s.l.ou j,s.oh j)) s.k.V.nc true) rfl (0,0) ⟨z,(by decide:0<4)⟩).2 rfl).1.2 rfl).1) f (Fg t f) ⟨(λz=>by
  rcases v.jr.row with ⟨_,a,_⟩|⟨g,a,_⟩
  .omega
  simp_all),v.jr.le⟩ R.ZL E k
def iX(c:∀A∈l,A<N)(c:N0<=N){a:Addr}(c:N<=a.block)(wr:Bool):cP N0 l [] a wr:=
 ⟨fun⟨A,a,z⟩=>χ,λ_=>⟨ω,fun⟨p,b,z⟩=>by cases b⟩⟩
def RP{n:Nat}{L:oF}{m:Nat}{g:Nat->Cl}(h:jG n L m g≠(0,0)):(jG n L m g).1≠0:=by
 unfold jG at h ⊢;grind
structure Ds(wI:aj)(Q:eP)(n:Nat)(L:oF)(sa:eP)(m:Nat)(g:Nat->Cl):Prop where
 hL:nF wI Q n L
 bL:∀p:Addr,Q=some p->p.block<wI.heap.size
 hC:sG wI sa m g
 bC:∀p:Addr,sa=some p->p.block<wI.heap.size
 bT:∀i,i<m->0<(g i).nt->∀p:Addr,(g i).ta=some p->p.block<wI.heap.size
 i0:0<wI.heap.size
 hg:wI.cell? ⟨0,0,none⟩=some (.iface 217 (.agg #[.pointer (some ⟨1,121,none⟩)]))
def I4{w:aj}{m:Nat}{g:Nat->Cl}(h:sG w sa m g)(a:Old w w'):sG w' sa m g:=λi c=>by
 let⟨b,o,e,g,d,f⟩:=h i c;exact⟨b,o,e,a.cell _ _ g,a.cell _ _ d,λj c=>by
  let⟨b,o,e,d⟩:=f j c;exact⟨b,o,e,λk b=>a.cell _ _ (d k b)⟩⟩
def IJ{w:aj}{n:Nat}{L:oF}(h:nF w sa n L)(c:Old w w'):nF w' sa n L:=λi a=>by
 let⟨b,o,e,d⟩:=h i a;exact⟨b,o,e,λk a=>c.cell _ _ (d k a)⟩
def jN{a:Addr}(h:a.block∉l):cP N0 l [] a false:=
 ⟨fun⟨A,a,z⟩=>h χ,λz=>by cases z⟩
section
variable{n m:Nat}{L:oF}{g:Nat->Cl}
theorem Ds.rd(h:Ds wI Q n L sa m g)(b:∀B∈l,wI.heap.size<=B):TO (cP N0 l []) sa m g:=⟨λp b a d=>jN λz=>by have:=h.bC p b;grind,λi c e p b a d=>jN λz=>by have:=h.bT i c e p b;grind⟩
end
def Q3(_ j:Nat):Int:=match j with|0=>1|1=>7|_=>3
abbrev CN(t:Nat)(_:Nat):Cl:=⟨5,some ⟨t,0,none⟩,1,1,Q3⟩
def Xy(t:Nat):jG 0 (λ_ _=>0) 1 (CN t)=(0,0):=ρ
def Oe(V:Ev0):yI V (ko V):=⟨rfl,rfl,λ_ _=>⟨rfl,rfl,rfl,rfl⟩,λ_=>rfl,λ_=>rfl,rfl,λ_=>rfl,rfl,rfl,λ_ _=>⟨rfl,rfl,rfl,rfl,rfl⟩⟩
theorem F5{w:aj}(hg:wI.cell? ⟨0,0,none⟩=some (.iface 217 (.agg #[.pointer (some ⟨1,121,none⟩)])))(i0:0<wI.heap.size)(hO:Old wI w)(K:∀l' C w',0<C->(∀x∈l',wI.heap.size<=x/\x<w'.heap.size)->Old wI w'->nM prog Post (Old wI) (jq l') C (G (cf.finish (.bool true)) Y) w'):nM prog Post (Old wI) (jq []) 1 (G (Frame.enter prog 30 #[] .normal) (cf::Y)) w:=by
 have F:=nA (P:=prog) (Post:=Post) (wI:=wI) (l:=[]) 1;have h:wI.heap.size<=w.heap.size:=hO.2.2.2.1;have u:∀(a:Addr)(wr:Bool),w.heap.size<=a.block->cP wI.heap.size [] [] a wr:=λa wr z=>iX (λx g=>by cases g) h z wr;have hS:Sat (cP wI.heap.size [] []) w []:=lD λr s=>by cases s
 have n:w.heap.size<=w.heap.size:=az _;generalize hB0:w.heap.size=B at u n h;rw[<-hB0]at n;replace n:B<=w.heap.size:=ω
 refine cJ func30 hS 59 λX a0 b hn m qh tN S0 P9=>aq (λM=>bR (b+1) [i6 5,.slice (some ⟨b,0,none⟩) 1 1]::(bR (b) [i6 1,i6 7,i6 3]::(M))) 2 F u m tN S0 10 [] 1 [] [(9,.slice (some ⟨b+1,0,none⟩) 1 1)] 10 1 [] λa1 T S Nt zS Dx o9=>?_;have I:sG T (some ⟨b+1,0,none⟩) 1 (CN b):=λi hi=>by
  have e:i=0:=ω
  subst e;refine⟨b+1,0,rfl,S.sat.val 0 _ rfl (0,0) ⟨aD,(by decide:0<2)⟩,S.sat.val 0 _ rfl (0,1) ⟨aD,(by decide:1<2)⟩,λj t=>?_⟩;have e:j=0:=ξ
  subst e;refine⟨b,0,rfl,λk hk=>?_⟩;have:=S.sat.val 1 _ rfl (0,k) ⟨aD,hk⟩;rw[show(⟨b,0+0*3+k,none⟩:Addr)=⟨b,k,none⟩ by simp];refine this.trans (cT some ?_);have Z:k=0\/k=1\/k=2:=ω
  rcases Z with rfl|rfl|rfl<;>rfl
 have H:∀N:Nat,TO (cP N [] []) (some ⟨b+1,0,none⟩) 1 (CN b):=λN=>⟨λp R a ha=>jN ψ,λi hi h0 p R a ha=>jN ψ⟩
 refine Af F m 10 24 #[.slice none 0 0,.slice (some ⟨b+1,0,none⟩) 1 1] ρ ρ δ S λcR J=>At.assume gN λhO3=>?_;have VR:Sat (cP wI.heap.size [] []) T (cM (some ⟨b+1,0,none⟩) 1 (CN b)):=zv I (hO3.cell _ _ hg) (H _) (jN ψ);have d:∀r∈cM (some ⟨b+1,0,none⟩) 1 (CN b),Has (cM (some ⟨b+1,0,none⟩) 1 (CN b)) r:=λr s=>Yn s (pY r s);refine zw (V:=nC 0 (λ_ _=>0) 1 (CN b)) (M:=cM (some ⟨b+1,0,none⟩) 1 (CN b)) (dL:=λ_=>some ⟨b,0,none⟩) (eu:=λ_=>1) (sL:=none) (cA:=0) (sa:=some ⟨b+1,0,none⟩) (cap:=1) (zl (Xy b)) (Oe _) Xs δ (λx g=>by cases g) ⟨λr s=>pY r s,GP,λ_=>⟨_,rfl,d _ (aP _ (bI ..))⟩,λc hc _=>⟨_,rfl,?_⟩,d _ (bI ..)⟩ (λz=>absurd z (Ap 0)) VR (λBL yR w' M' L VO LM KK=>?_) λX1 hX1 A P Q ea1 O y C1 f k1 k2' k3 k3o k4 k5 k6 U k8 k9=>J _ _ _ λa4 o l=>?_
 .have e:c=0:=by have:c<1:=hc;omega
  subst e;exact d (Kd (CN b) 0) (aP _ (aP _ (gV.2 ⟨0,aZ.2 δ,rfl⟩)))
 .exact r8 (n:=0) (m:=1) (L:=λ_ _=>0) (g:=CN b) (nA 1) (λa wr z=>iX (N:=T.heap.size) (λx g=>by cases g) (az _) z wr) (λz=>ω) (λ_=>⟨_,rfl,L _ (d _ (aP _ (bI ..)))⟩) (λj t _=>⟨_,rfl,L _ (by
   have e:j=0:=ω
   subst e;exact d (Kd (CN b) 0) (aP _ (aP _ (gV.2 ⟨0,aZ.2 δ,rfl⟩))))⟩) VO LM (by rw[Xy];exact KK)
 clear F;have F:=nA (P:=prog) (Post:=Post) (wI:=wI) (l:=[P]) A;let⟨f1,f2,f3⟩:=end_1 hX1;replace l:=l.trans Nt;obtain⟨ea,rfl⟩:=k6.1 ω;obtain⟨q,v,W⟩:∃q v,y 0=.slice q 0 v:=by
  have:=k9 0 aD;rw[f1]at this;rcases this with ⟨z,_⟩|⟨ca,cap,i,z,_⟩
  .simp_all
  simp_all
 rw[f2]at o U;have h7:=(U.sub (M':=[_,_]) (.cons_cons _ (.cons_cons _ (List.nil_sublist _)))).G7 0 rfl (fR ea 5 (λj=>if j=1 then[i6 8,i6 0,i6 (-1),i6 2,i6 0]else yt (X1.ev j)) 2 false) (λj t=>⟨t,rfl,by
  show(if j.1=1 then[i6 8,i6 0,i6 (-1),i6 2,i6 0]else yt (X1.ev j.1)).getD j.2 undef=(yt (X1.ev j.1)).getD j.2 undef;split
  .rename_i e;rw[e,f3];rfl
  .rfl⟩) (λz=>by cases z) rfl
 have h8:=h7.G7 1 rfl (fR ⟨Q,0,none⟩ 4 (λ_=>[i6 8,i6 1,i6 7,.slice q 0 v]) 1 false) (λj t=>⟨t,rfl,by
  have e:j.1=0:=by have:j.1<1:=t.1;omega
  show List.getD [i6 8,i6 1,i6 7,.slice q 0 v] j.2 undef=(yL (X1.ou j.1,y j.1)).getD j.2 undef;rw[e,W,f1];rfl⟩) (λz=>by cases z) rfl
 have S4:St (cP wI.heap.size [P] []) f.heap.size 59 [(10,.tuple #[.agg #[.slice (some ⟨Q,0,none⟩) 1 1,.slice (some ea) 2 O],i6 0,i6 0])] [fR ea 5 (λj=>if j=1 then[i6 8,i6 0,i6 (-1),i6 2,i6 0]else yt (X1.ev j)) 2 false,fR ⟨Q,0,none⟩ 4 (λ_=>[i6 8,i6 1,i6 7,.slice q 0 v]) 1 false] 0 a4 f:=⟨o.sub (by intro p R;simp only[ak,bH,or_false]at R;subst R;rfl),h8,rfl⟩;have E:wI.heap.size<=f.heap.size:=k5.2.2.2.1;clear u;have D:∀x∈[P],wI.heap.size<=x/\x<f.heap.size:=λx g=>by
  grind
 have u:∀(a:Addr)(wr:Bool),f.heap.size<=a.block->cP wI.heap.size [P] [] a wr:=λa wr z=>iX (N:=f.heap.size) (λx g=>(D x g).2) E z wr;have V:f.heap.size=f.heap.size:=rfl;clear o U k8 k9 J h7 h8;generalize hB4:f.heap.size=B4 at S4 V u D;refine oH (λM=>bR (B4+1) [i6 8,i6 1,i6 7,.slice q 0 v]::(bR (B4) [.slice (some ⟨Q,0,none⟩) 1 1,.slice (some ea) 2 O]::(M))) 2 F u m qh l S4 69 [0,0,0,2,0,0,0,2,0,0,0,1,2,0,0,4,0,0,0,4,0,0,0,4,1,0,1,1,2,1,0,5] 35958428274349397 [] 0 (.bool true) 80 2 [] [] [] [(1,2),(0,1)] [] λw5 S5 Y5 Dw=>At.assume gN λXh=>K [P] A w5 k1 (λx g=>χ) Xh
section
variable{n m:Nat}{L:oF}{g:Nat->Cl}
theorem Ds.sat(H:Ds wI Q n L sa m g)(d:∀x∈l,wI.heap.size<=x){w:aj}(c:Old wI w):Sat (cP wI.heap.size l []) w (El Q n L::cM sa m g):=lD λr b=>by
 rcases ak.1 b with rfl|b
 .exact⟨vD (IJ H.hL c) λp e a a=>jN λz=>by have:=H.bL p e;grind,rfl⟩
 .exact⟨(zv (I4 H.hC c) (c.cell _ _ H.hg) (H.rd d) (jN λz=>by have h:wI.heap.size<=0:=d _ z;have:=H.i0;omega)).mem b,pY r b⟩
theorem Ds.lt(H:Ds wI Q n L sa m g)(b:r∈El Q n L::cM sa m g){j:Nat×Nat}(c:r.has j):(r.ad j).block<wI.heap.size:=
 au (((H.sat (l:=[]) (λx a=>by cases a) (Iw wI)).mem b).val j c)
def Ds.ro(a:r∈El Q n L::cM sa m g):r.wr=false:=by
 rcases ak.1 a with rfl|a
 .rfl
 .exact pY r a
theorem Ds.q1(H:Ds wI Q n L sa m g):0<n->∃a,Q=some a/\Has (El Q n L::cM sa m g) (fR a 6 (oG L) n false):=λz=>by
 obtain⟨b,o,rfl,_⟩:=H.hL 0 z;exact⟨_,rfl,Yn (bI ..) rfl⟩
theorem Ds.q2(H:Ds wI Q n L sa m g):0<m->∃a,sa=some a/\Has (El Q n L::cM sa m g) (fR a 2 (λj=>[i6 (g j).st,.slice (g j).ta (g j).nt (g j).tc]) m false):=λz=>by
 obtain⟨b,o,rfl,_⟩:=H.hC 0 z;exact⟨_,rfl,Yn (aP _ (aP _ (bI ..))) rfl⟩
theorem Ds.q3(H:Ds wI Q n L sa m g):∀j,j<m->0<(g j).nt->∃a,(g j).ta=some a/\Has (El Q n L::cM sa m g) (fR a 3 (λi=>[i6 ((g j).T i 0),i6 ((g j).T i 1),i6 ((g j).T i 2)]) (g j).nt false):=λj a z=>by
 let⟨_,_,_,_,_,c⟩:=H.hC j a;let⟨b,o,e,_⟩:=c 0 z;refine⟨_,e,?_⟩;have:=Yn (C:=El Q n L::cM sa m g) (r:=Kd g j) (aP _ (aP _ (aP _ (gV.2 ⟨j,aZ.2 a,rfl⟩)))) rfl;grind
def Yx(a:jG n L m g≠(0,0)):(1<=(jG n L m g).1/\(jG n L m g).1<=4)/\0<=(jG n L m g).2/\(jG n L m g).2<=8:=by
 unfold jG at a ⊢;grind
def HP(F:aB prog true (DX U) Ψ)(n:HB B U)(b:X.kind=.normal)(l:X.fn=19){M:aW}{m:Act}{g:aj}{f d:Nat}(j:m.defers=[])(o:B<=d){c i:Int}(o:1<=c/\c<=4)(o:0<=i/\i<=8)(e:St U d 70 [(12,i6 i),(11,i6 c),(10,ptr d),(9,i6 i),(8,i6 c),(7,.bool true),(4,ptr f)] (bR d [.slice none 0 0,.slice none 0 0]::bR f [.slice none 0 0,.slice none 0 0]::M) 1 m g)(K:∀w',g.heap.size<=w'.heap.size->Ψ (G (cf.finish (.tuple #[.agg #[.slice none 0 0,.slice none 0 0],.bool false,.bool true])) Y) w'):Ψ (G (X.at m (pc prog 19 44 [true] [])) (cf::Y)) g:=by
 replace e:=St.mk (c:=0) (B:=d+1) e.env e.sat e.sz;have g:i=0\/i=1\/i=2\/i=3\/i=4\/i=5\/i=6\/i=7\/i=8:=ω
 have k:c=1\/c=2\/c=3\/c=4:=ω
 have c:=e.sz;rcases g with rfl|rfl|rfl|rfl|rfl|rfl|rfl|rfl|rfl<;>rcases k with rfl|rfl|rfl|rfl
 all_goals
  refine bkU [oR d 0 [.slice none 0 0,.slice none 0 0] false] [(19,[]),(20,[(0,(0,1),true)]),(21,[]),(22,[]),(23,[])] F aK (λa wr z=>n a wr ω) b 24 (Hq [0,0,0,2,0,0,0,2]) [(true,true),(true,true),(true,true),(true,true),(true,true),(true,true),(true,true),(true,true),(true,true),(true,true),(true,true),(true,true),(true,true),(true,true)] [(30,.agg #[.slice none 0 0,.slice none 0 0]),(4,ptr f)] [(53,.bool true),(4,ptr f)] [] [] [] (Hq [1,0,0,2]) (λM=>bh 1 (0,1) (.slice none 0 0) (bh 1 (0,0) (.slice none 0 0) (M))) 5 (.bool false) j ρ ρ ρ ρ ρ ρ ρ ρ ρ ρ eU eU eU (λw h=>(h.sub (M':=[bR d [.slice none 0 0,.slice none 0 0]]) (.cons_cons _ (List.nil_sublist _))).fix) e λa a d a c=>Rb F n b a d 2 [] 1 [] [(6,.bool true),(5,.bool false),(4,ptr f)] 47 3 [26] λa c f a d d d=>cC F f b l a [1,0,0,2] (.tuple #[.agg #[.slice none 0 0,.slice none 0 0],.bool false,.bool true]) ?_;exact K c ω
theorem ES(H:Ds wI Q n L sa m g)(hZ:jG n L m g=(0,0)->Fin (nC n L m g) Z 80001 none (ko (nC n L m g)))(K0:∀l' N w',0<N->(∀x∈l',wI.heap.size<=x/\x<w'.heap.size)->Old wI w'->nM prog Post (Old wI) (jq l') N (G (cf.finish (.tuple #[.agg #[.slice none 0 0,.slice none 0 0],.bool false,.bool true])) Y) w')(K1:jG n L m g=(0,0)->∀t,Z t->∀l' N (o:Nat) ea W oh C w',0<N->(∀x∈l',wI.heap.size<=x/\x<w'.heap.size)->Old wI w'->((0<t.el->∃a,ea=some a)/\t.el<=W)->Sat (cP wI.heap.size l' []) w' C->Has C (sK ea t.ev t.el)->Has C (nv (some ⟨o,0,none⟩) t.ou oh m)->(∀j,j<m->fu C (oh j) (t.ou j).b.ch)->(∀r∈El Q n L::cM sa m g,Has C r)->nM prog Post (Old wI) (jq l') N (G (cf.finish (.tuple #[.agg #[.slice (some ⟨o,0,none⟩) m m,.slice ea t.el W],.bool true,.bool true])) Y) w'):
 nM prog Post (Old wI) (jq []) 1 (G (Frame.enter prog 19 #[.slice Q n c0,.slice sa m cap] .normal) (cf::Y)) wI:=by
 have F:=nA (P:=prog) (Post:=Post) (wI:=wI) (l:=[]) 1;have v:∀(a:Addr)(wr:Bool),wI.heap.size<=a.block->cP wI.heap.size [] [] a wr:=λa wr z=>iX (λx y=>by cases y) (az _) z wr;have hS:Sat (cP wI.heap.size [] []) wI []:=lD λr u=>by cases u
 refine cJ func19 hS 70 λX G k G h qh G Z N=>aq (λM=>bR (k) [.slice none 0 0,.slice none 0 0]::(M)) 1 F v h G Z 8 [] 1 [] [(4,ptr k),(0,.slice Q n c0),(1,.slice sa m cap)] 8 1 [] λG G S1 Z N N N=>Af F h 14 30 #[] ρ ρ δ S1 λcR P=>At.assume gN λN=>At.keep (K':=Old G) (λd=>Iw G) ?_;refine F5 (wI:=G) (N.cell _ _ H.hg) ω (Iw G) λI ng1 K T hl1 D=>?_;have hO2:=Fg N D;refine At.keep (K':=Old wI) (λd=>hO2) ?_;refine P _ _ _ λa2 OR DF=>?_;replace DF:=DF.trans Z;clear F P;have F:=nA (P:=prog) (Post:=Post) (wI:=wI) (l:=I) ng1;have d:G.heap.size<=K.heap.size:=D.2.2.2.1;clear v;have v:∀(a:Addr)(wr:Bool),K.heap.size<=a.block->cP wI.heap.size I [] a wr:=λa wr z=>iX (N:=K.heap.size) (λx y=>(hl1 x y).2) ω z wr;have hsB:∀l:List Nat,(∀x∈l,G.heap.size<=x)->∀j wr,cP wI.heap.size l [] ⟨k,j,none⟩ wr:=λl d j wr=>⟨(jN (N0:=0) (l:=l) (a:=⟨k,j,none⟩) λz=>χ).1,λ_=>⟨χ,fun⟨p,hp,z⟩=>by cases hp⟩⟩
 have d:∀j,j<2->K.cell? ⟨k,j,none⟩=some ([Value.slice none 0 0,.slice none 0 0].getD j undef):=λj b=>by
  refine D.cell _ _ ?_;refine(S1.sat.val 0 _ rfl (0,j) ⟨aD,b⟩).trans (cT some ?_);rfl
 have l:∀j,j<2->K.frozen? ⟨k,j,none⟩=false:=λj b=>(World.frozen?_of_block (D.2.2.2.2 k ω)).trans ((S1.sat.ok 0 _ rfl (0,j) ⟨aD,b⟩).2 rfl).2;have h2:Sat (cP wI.heap.size I []) K (bR k [.slice none 0 0,.slice none 0 0]::El Q n L::cM sa m g):=(H.sat (λx y=>χ) hO2).Wp d (hsB I λx y=>(hl1 x y).1) l λr u j b i U e=>by
  have:=H.lt u b;grind
 have S2:St (cP wI.heap.size I []) K.heap.size 70 [(14,.bool true),(0,.slice Q n c0),(1,.slice sa m cap),(4,ptr k)] (bR k [.slice none 0 0,.slice none 0 0]::El Q n L::cM sa m g) 0 a2 K:=⟨OR.sub (by intro p hp;simp only[ak,bH,or_false]at hp;rcases hp with rfl|rfl|rfl|rfl<;>rfl),h2,rfl⟩;have tM:K.heap.size=K.heap.size:=rfl;have q1:=H.q1;have q2:=H.q2;have q3:=H.q3;have M6:∀r∈El Q n L::cM sa m g,r.wr=false:=λr u=>Ds.ro u;have d:∀r∈El Q n L::cM sa m g,∀j,r.has j->(r.ad j).block<wI.heap.size:=λr u j b=>H.lt u b;generalize hM:El Q n L::cM sa m g=M at*;generalize hB2:K.heap.size=d at S2 tM v;refine Rb F v h DF S2 6 [] 1 [] [(17,.slice sa m cap),(16,.slice Q n c0),(7,.bool true),(0,.slice Q n c0),(1,.slice sa m cap),(4,ptr k)] 15 1 [] λd d l d D D D=>ah F h d l 18 16 #[.slice Q n c0,.slice sa m cap] λd d=>r8 F v (λz=>by let⟨a,B,w⟩:=q1 z;exact⟨a,B,w.cons⟩) (λz=>by let⟨a,B,w⟩:=q2 z;exact⟨a,B,w.cons⟩) (λj b z=>by let⟨a,B,w⟩:=q3 j b z;exact⟨a,B,w.cons⟩) l.sat ω λl D l=>d _ _ _ D λd d S4 Vx d=>?_;by_cases J:jG n L m g=(0,0)
 .rw[J]at S4;refine Rb F v h Vx S4 10 [] 1 [] [(23,.slice sa m cap),(22,.slice Q n c0),(9,i6 0),(8,i6 0),(7,.bool true),(1,.slice sa m cap),(4,ptr k)] 26 1 [] λa5 w5 S5 Yv Y5 Dw qO=>Af F h 24 24 #[.slice Q n c0,.slice sa m cap] ρ ρ δ S5 λcR P=>At.assume gN λd=>?_;have Xi:Sj (nC n L m g) sa (λj=>(g j).ta) (λj=>(g j).tc) M:=⟨M6,by
   subst hM;rw[bO];intro r u;rcases ak.1 u with rfl|u
   .rfl
   .exact(bO.1 GP) r u,q2,q3,by
   subst hM;exact Yn (aP _ (bI ..)) rfl⟩
  have d:∀x∈I,x<w5.heap.size:=λx y=>χ
  refine zw (V:=nC n L m g) (zl J) (Oe _) (hZ J) T d (sL:=Q) (sa:=sa) (cA:=c0) (cap:=cap) Xi q1 S5.sat.tail (λBL yR w' M' R VO LM KK=>?_) λt hLf W9 A o ea W oh C E k1 l l k3o k4 l k6 k7 k8 k9=>P _ _ _ λa6 TF O=>?_
  .exact r8 (n:=n) (m:=m) (L:=L) (g:=g) (nA ng1) (λa wr z=>iX (N:=w5.heap.size) d (az _) z wr) (λz=>χ) (λz=>χ) (λj b z=>by let⟨a,B,w⟩:=q3 j b z;grind) VO LM χ
  replace O:=O.trans Yv;clear F P;have F:=nA (P:=prog) (Post:=Post) (wI:=wI) (l:=A::I) W9;have d:w5.heap.size<=E.heap.size:=k4.2.2.2.1;have hl6:∀x∈A::I,wI.heap.size<=x/\x<E.heap.size:=λx y=>by
   rcases ak.1 y with rfl|y
   .omega
   grind
  clear v;have v:∀(a:Addr)(wr:Bool),E.heap.size<=a.block->cP wI.heap.size (A::I) [] a wr:=λa wr z=>iX (N:=E.heap.size) (λx y=>(hl6 x y).2) ω z wr;have hv6:∀j,j<2->E.cell? ⟨k,j,none⟩=some ([Value.slice none 0 0,.slice none 0 0].getD j undef):=λj b=>by
   refine k4.cell _ _ ?_;refine(S5.sat.val 0 _ rfl (0,j) ⟨aD,b⟩).trans (cT some ?_);rfl
  have hf6:∀j,j<2->E.frozen? ⟨k,j,none⟩=false:=λj b=>(World.frozen?_of_block (k4.2.2.2.2 k ω)).trans ((S5.sat.ok 0 _ rfl (0,j) ⟨aD,b⟩).2 rfl).2;have sl:∀i,i<2->∃s p q,E.cell? ⟨k,i,none⟩=some (Value.slice s p q):=λi U=>by
   rw[hv6 i U];have KG:i=0\/i=1:=ω
   rcases KG with rfl|rfl<;>exact⟨_,_,_,rfl⟩
  let⟨C',h6,S⟩:=Sat.aaR (b:=k) (vs:=[.slice none 0 0,.slice none 0 0]) k7 hv6 (hsB (A::I) λx y=>by
   grind) hf6
  have c1:Has C' (sK ea t.ev t.el):=S _ (Yn (bI ..) rfl) λj b i U e=>by
   have hv:=(k7.mem (bI ..)).val j b;let⟨s,p,q,z⟩:=sl i U;rw[e,z]at hv;let⟨j,f⟩:=j;have hf:f<5:=b.2;have Wm:f=0\/f=1\/f=2\/f=3\/f=4:=ω
   rcases Wm with rfl|rfl|rfl|rfl|rfl<;>cases hv
  have c2:Has C' (nv (some ⟨o,0,none⟩) t.ou oh m):=S _ (Yn (aP _ (bI ..)) rfl) λj b i U e=>by
   have d:=k3o (by have:j.1<m:=b.1;show 0<m;omega);have hb:(((⟨o,0,none⟩:Addr).add (j.1*4)).add j.2).block=k:=cT Addr.block e;rw[add_add]at hb;grind
  have c3:∀j,j<m->fu C' (oh j) (t.ou j).b.ch:=λj b=>by
   rcases k9 j b with z|⟨ca,cp,i,B,w⟩
   .exact .inl z
   .have d:Has C (gQ ca (t.ou j).b.ch):=⟨rfl,i,w⟩
    let⟨_,i',KG⟩:=S _ d.cons.cons λj b i U e=>by
     have hv:=(k7.mem (aP _ (aP _ (gO w)))).val j b;let⟨s,p,q,z⟩:=sl i U;rw[e,z]at hv;let⟨j,f⟩:=j;have hf:f<3:=b.2;have Wm:f=0\/f=1\/f=2:=ω
     rcases Wm with rfl|rfl|rfl<;>cases hv
    exact .inr ⟨ca,cp,i',B,KG⟩
  have c4:∀r∈M,Has C' r:=λr u=>S _ (k8 r (Yn u (M6 r u))).cons.cons λj b i U e=>by
   grind
  have t1:((m:Int)==(m:Int))=true:=ψ
  have S6:St (cP wI.heap.size (A::I) []) E.heap.size 70 [(24,.tuple #[.agg #[.slice (some ⟨o,0,none⟩) m m,.slice ea t.el W],i6 0,i6 0]),(8,i6 0),(7,.bool true),(1,.slice sa m cap),(4,ptr k)] (bR k [.slice none 0 0,.slice none 0 0]::C') 0 a6 E:=⟨TF.sub (by intro p hp;simp only[ak,bH,or_false]at hp;rcases hp with rfl|rfl|rfl|rfl|rfl<;>rfl),h6,rfl⟩;have YG:E.heap.size=E.heap.size:=rfl;generalize hB6:E.heap.size=B6 at S6 YG v;generalize Ty:t.el=el at S6;refine aq (λM=>bR (B6) [.slice (some ⟨o,0,none⟩) m m,.slice ea el W]::(bh 0 (0,1) (.slice ea el W) (bh 0 (0,0) (.slice (some ⟨o,0,none⟩) m m) (M)))) 1 F v h O S6 43 [0,0,0,2,0,0,0,1,0,0,0,2,1,0,0,2] 131069 [] [(6,.bool ((↑m:Int)==(↑m:Int))),(5,.bool ((↑m:Int)==(↑m:Int))),(4,ptr k)] 70 2 [] λa7 w7 S7 CI OD YQ DJ=>cC F S7 h qh CI [1,0,0,2] (.tuple #[.agg #[.slice (some ⟨o,0,none⟩) m m,.slice ea el W],.bool ((↑m:Int)==(↑m:Int)),.bool ((↑m:Int)==(↑m:Int))]) ?_;subst Ty;rw[t1];exact At.assume gN λXh=>K1 J t hLf (A::I) W9 o ea W oh C' w7 k1 (λx y=>χ) Xh k6 S7.sat.tail.tail c1 c2 c3 c4
 .have W1:=RP J;have V:((jG n L m g).1 !=0)=true:=χ
  have t1:((jG n L m g).1==(jG n L m g).1)=true:=ψ
  have t2:((jG n L m g).2==(jG n L m g).2)=true:=ψ
  generalize u:jG n L m g=r at W1 V t1 t2 S4;let⟨c,i⟩:=r;dsimp only at W1 V t1 t2 S4;refine Rb F v h Vx S4 10 [] 1 [] [(23,.slice sa m cap),(22,.slice Q n c0),(9,i6 i),(8,i6 c),(7,.bool true),(1,.slice sa m cap),(4,ptr k)] 26 1 [] λa5 w5 S5 Yv Y5 Dw qO=>ah F h Yv S5 24 24 #[.slice Q n c0,.slice sa m cap] λd d=>Ui (i:=i) F v W1 S5.sat ω (λBL yR w' M' R VO LM KK=>?_) λE h6 e=>d _ _ _ h6 λa6 B6 S6 O YG=>?_
  .exact r8 F v (λz=>by let⟨a,B,w⟩:=q1 z;exact⟨a,B,R _ w.cons⟩) (λz=>by let⟨a,B,w⟩:=q2 z;exact⟨a,B,R _ w.cons⟩) (λj b z=>by let⟨a,B,w⟩:=q3 j b z;exact⟨a,B,R _ w.cons⟩) VO LM χ
  refine aX (λM=>bR (B6) [.slice none 0 0,.slice none 0 0]::(M)) 1 F v h O S6 17 [0,0,0,2] 6 [] [(12,i6 i),(11,i6 c),(10,ptr B6),(9,i6 i),(8,i6 c),(7,.bool true),(4,ptr k)] 44 3 [] [] [(c !=0,true)] [] [] λa7 w7 S7 CI OD YQ DJ=>?_;let⟨r1,r2⟩:=Yx J;rw[u]at r1 r2;exact HP F v h qh CI ω r1 r2 (S7.dB _ rfl) λa b=>At.assume gN λXh=>K0 I ng1 a T (λx y=>χ) Xh
end
section
variable{n m:Nat}{L:oF}{g:Nat->Cl}
theorem Ds.old(H:Ds wI Q n L sa m g){w:aj}(c:Old wI w):Ds w Q n L sa m g:=
 have b:wI.heap.size<=w.heap.size:=c.2.2.2.1
 ⟨IJ H.hL c,λp a=>ga (H.bL p a) b,I4 H.hC c,λp a=>ga (H.bC p a) b,λi d e p a=>ga (H.bT i d e p a) b,ga H.i0 b,c.cell _ _ H.hg⟩
abbrev SY(o:Nat)(ou:Nat->Se)(os:p9)(oc:bU)(m:Nat):aH:=fR ⟨o,0,none⟩ 4 (λj=>[i6 (ou j).a,i6 (ou j).b.k,i6 (ou j).b.n,.slice (os j) (ou j).b.ch.length (oc j)]) m false
def Zt{w:aj}{a:Nat->Se}{g:yX}(h:Sat U w C)(q:Has C (nv (some ⟨o,0,none⟩) a g m))(n:∀j,j<m->fu C (g j) (a j).b.ch):
 ∃os l,Sat U w (SY o a os l m::C)/\∀j,j<m->0<(a j).b.ch.length->∃b,os j=some b/\Has C (gQ b (a j).b.ch):=by
 have d:∀j,∃p:Option Addr×Nat,j<m->g j=.slice p.1 (a j).b.ch.length p.2/\(0<(a j).b.ch.length->∃b,p.1=some b/\Has C (gQ b (a j).b.ch)):=λj=>by
  by_cases c:j<m
  .rcases n j c with ⟨k,f⟩|⟨b,cap,i,k,f⟩
   .exact⟨(none,0),λ_=>⟨by rw[k,f];rfl,λz=>by rw[f]at z;cases z⟩⟩
   .exact⟨(some b,cap),λ_=>⟨k,λ_=>⟨b,rfl,rfl,i,f⟩⟩⟩
  .exact⟨(none,0),λz=>absurd z c⟩
 refine⟨λj=>(d j).choose.1,λj=>(d j).choose.2,?_,λj c=>((d j).choose_spec c).2⟩;refine(h.get q).G7 0 rfl (SY o a _ _ m) (λj c=>⟨c,rfl,?_⟩) (λz=>by cases z) rfl;have e:=((d j.1).choose_spec c.1).1;show List.getD [i6 (a j.1).a,i6 (a j.1).b.k,i6 (a j.1).b.n,.slice (d j.1).choose.1 (a j.1).b.ch.length (d j.1).choose.2] j.2 undef=(yL (a j.1,g j.1)).getD j.2 undef;rw[<-e];rfl
end
def JI(c n:Int)(E:Nat->OZ):Nat->Nat->Int
 |0,_=>-1
 |r+1,i=>if(E i).c=c/\(E i).l=-1/\(E i).w=2/\(E i).n=n then(E i).a else JI c n E r (i+1)
def JQ(F:aB prog main (DX U) Ψ)(v:HB B U){X:aC}(e:X.kind=.normal)(u:X.fn=33){cf:aC}{Y:cO}{C:aW}{ea:eP}{len cap:Nat}{c n:Int}{E:Nat->OZ}(A:len<1000000)(D:0<len->∃a,ea=some a)(K:∀w' x,B<=w'.heap.size->x=JI c n E len 0->Sat U w' (sK ea E len::C)->Ψ (G (cf.finish (i6 x)) Y) w'):
 ∀(r i:Nat)(y:Act)(w:aj),i+r=len->JI c n E r i=JI c n E len 0->y.defers=[]->B<=w.heap.size->aR [(7,i6 i),(0,.slice ea len cap),(1,i6 c),(2,i6 n)] 51 y->Sat U w (sK ea E len::C)->Ψ (G (X.at y (pc prog 33 11 [] [])) (cf::Y)) w
 |0,i,y,w,L,j,f,t,J,I=>by
  have a:decide ((i:Int)<(len:Int))=false:=θ
  have q:St U w.heap.size 51 _ _ 0 y w:=⟨J,I,rfl⟩;have s:w.heap.size=w.heap.size:=rfl;generalize w.heap.size=M at q s t;refine TP F v e f q 14 [] 4 [] [(6,i6 (-1))] 25 2 [] [] [(decide ((↑i:Int)<(↑len:Int)),false)] [] [] λm g b d k l p=>cC F b e u d [] (i6 (-1)) ?_;exact K g _ ω j b.sat
 |r+1,i,y,w,L,j,f,t,J,I=>by
  obtain⟨H,rfl⟩:=D ω;have o:wp i=((i+1:Nat):Int):=j6;have q:St U w.heap.size 51 _ _ 0 y w:=⟨J,I,rfl⟩;have s:w.heap.size=w.heap.size:=rfl;generalize w.heap.size=M at q s t;simp only[JI]at j;have nx:=fun(h:JI c n E r (i+1)=JI c n E len 0) m g=>JQ (cap:=cap) F v e u A D K r (i+1) m g ω h;by_cases w:(E i).c=c
  .have a:((E i).c==c)=true:=by simpa using w
   by_cases r:(E i).l=-1
   .have a:((E i).l==-1)=true:=by simpa using r
    by_cases h:(E i).w=2
    .have a:((E i).w==2)=true:=by simpa using h
     by_cases a:(E i).n=n
     .have x:((E i).n==n)=true:=by simpa using a
      rw[sJ ⟨w,r,h,a⟩]at j;refine ZI F v e u f q 57 [0,i,1,104,0,i,0,101] 7599545181273066 [] 6 (i6 (E i).a) 68 7 [] [] [((E i).n==n,true),((E i).w==2,true),((E i).l==-1,true),((E i).c==c,true),(decide ((↑i:Int)<(↑len:Int)),true)] [((↑i:Int),len),((↑i:Int),len),((↑i:Int),len),((↑i:Int),len),((↑i:Int),len)] [(5,(i,len))] λg b k l=>K g _ ω j b.sat
     .rw[af λz=>a z.2.2.2]at j;refine TP F v e f q 56 [0,i,1,104] 1407095693638634 [] [(7,i6 (wp i)),(0,.slice (some H) len cap),(1,i6 c),(2,i6 n)] 67 5 [] [] [((E i).n==n,false),((E i).w==2,true),((E i).l==-1,true),((E i).c==c,true),(decide ((↑i:Int)<(↑len:Int)),true)] [((↑i:Int),len),((↑i:Int),len),((↑i:Int),len),((↑i:Int),len)] [(4,(i,len))] λm g b d k l p=>?_;rw[o]at b;rw[show pc prog 33 67 (Bo 5) []=pc prog 33 11 [] [] by kernel_rfl];exact nx j m g d ω (b.dB _ rfl).env b.sat
    .rw[af λz=>h z.2.2.1]at j;refine TP F v e f q 56 [0,i,1,103] 375298520251370 [] [(7,i6 (wp i)),(0,.slice (some H) len cap),(1,i6 c),(2,i6 n)] 67 5 [] [] [((E i).w==2,false),((E i).l==-1,true),((E i).c==c,true),(decide ((↑i:Int)<(↑len:Int)),true)] [((↑i:Int),len),((↑i:Int),len),((↑i:Int),len)] [(3,(i,len))] λm g b d k l p=>?_;rw[o]at b;rw[show pc prog 33 67 (Bo 5) []=pc prog 33 11 [] [] by kernel_rfl];exact nx j m g d ω (b.dB _ rfl).env b.sat
   .rw[af λz=>r z.2.1]at j;refine TP F v e f q 56 [0,i,1,102] 93824992148458 [] [(7,i6 (wp i)),(0,.slice (some H) len cap),(1,i6 c),(2,i6 n)] 67 5 [] [] [((E i).l==-1,false),((E i).c==c,true),(decide ((↑i:Int)<(↑len:Int)),true)] [((↑i:Int),len),((↑i:Int),len)] [(2,(i,len))] λm g b d k l p=>?_;rw[o]at b;rw[show pc prog 33 67 (Bo 5) []=pc prog 33 11 [] [] by kernel_rfl];exact nx j m g d ω (b.dB _ rfl).env b.sat
  .rw[af λz=>w z.1]at j;refine TP F v e f q 56 [0,i,1,101] 23456248059210 [] [(7,i6 (wp i)),(0,.slice (some H) len cap),(1,i6 c),(2,i6 n)] 67 5 [] [] [((E i).c==c,false),(decide ((↑i:Int)<(↑len:Int)),true)] [((↑i:Int),len)] [(1,(i,len))] λm g b d k l p=>?_;rw[o]at b;rw[show pc prog 33 67 (Bo 5) []=pc prog 33 11 [] [] by kernel_rfl];exact nx j m g d ω (b.dB _ rfl).env b.sat
def Tg(F:aB prog main (DX U) Ψ)(g:HB B U){len:Nat}{c n:Int}{w:aj}(b:len<1000000)(d:0<len->∃a,ea=some a)(a:Sat U w (sK ea E len::C))(e:B<=w.heap.size)(K:∀w' x,B<=w'.heap.size->x=JI c n E len 0->Sat U w' (sK ea E len::C)->Ψ (G (cf.finish (i6 x)) Y) w'):Ψ (G (Frame.enter prog 33 #[.slice ea len cap,i6 c,i6 n] .normal) (cf::Y)) w:=by
 refine cJ func33 a 51 λX a a a a f e i h=>Rb F g a e i 11 [] 1 [] [(7,i6 0),(0,.slice ea len cap),(1,i6 c),(2,i6 n)] 11 1 [] λj h e c i i i=>JQ F g a f b d K len 0 j h ω rfl c ω (e.dB _ rfl).env e.sat
def Cu(nt:Nat)(T:Nat->Lm)(n:Int):Lm:=if n<0\/n≥nt then⟨1,0,0⟩else T n.toNat
def Sc(F:aB prog main (DX U) Ψ)(u:HB B U){n:Int}{T:Nat->Lm}{w:aj}(t:0<nt->∃a,ta=some a/\Has C (fR a 3 (λj=>[i6 (T j).k,i6 (T j).n,i6 (T j).t]) nt false))(q:Sat U w C)(j:B<=w.heap.size)(K:∀w' x,B<=w'.heap.size->x=Cu nt T n->Sat U w' C->Ψ (G (cf.finish (.agg #[i6 x.k,i6 x.n,i6 x.t])) Y) w'):Ψ (G (Frame.enter prog 20 #[.agg #[i6 st,.slice ta nt tc],i6 n] .normal) (cf::Y)) w:=by
 by_cases h:n<0\/n≥nt
 .have e:Cu nt T n=⟨1,0,0⟩:=by unfold Cu;rw[sJ h]
  by_cases w:n<0
  .have j:decide (n<0)=true:=by simpa using w
   refine cJ func20 q 20 λX z g v b f d s o=>aX (λM=>bR (g+1) [i6 1,i6 0,i6 0]::(bR (g) [i6 st,.slice ta nt tc]::(M))) 2 F u b d s 24 [0,0,0,3] 8190 [] [(4,ptr (g+1))] 24 3 [] [] [(decide (n<0),true)] [] [] λy k i c l p r=>cC F i b f c [0,0,0,3] (.agg #[i6 1,i6 0,i6 0]) ?_;exact K k ⟨1,0,0⟩ ω e.symm i.sat.tail.tail
  .have j:decide (n<0)=false:=by simpa using w
   have j:decide (n≥(nt:Int))=true:=θ
   refine cJ func20 q 20 λX z g v b f d s o=>aX (λM=>bR (g+1) [i6 1,i6 0,i6 0]::(bR (g) [i6 st,.slice ta nt tc]::(M))) 2 F u b d s 24 [1,0,1,1,0,0,0,3] 6484 [] [(4,ptr (g+1))] 24 3 [] [] [(decide (n≥(↑nt:Int)),true),(decide (n<0),false)] [] [] λy k i c l p r=>cC F i b f c [0,0,0,3] (.agg #[i6 1,i6 0,i6 0]) ?_;exact K k ⟨1,0,0⟩ ω e.symm i.sat.tail.tail
 .obtain⟨a,rfl,A⟩:=t ω;have e:Cu nt T n=T n.toNat:=by unfold Cu;rw[af h]
  obtain⟨m,rfl⟩:∃m:Nat,n=m:=⟨n.toNat,ω⟩;have h:m<nt:=ω
  replace q:=q.get A;refine cJ func20 q 20 λX z g v b f d s o=>aX (λM=>bR (g+1) [i6 (T m).k,i6 (T m).n,i6 (T m).t]::(bR (g) [i6 st,.slice (some a) nt tc]::(M))) 2 F u b d s 29 [1,0,1,1,1,0,1,1,2,m,0,103,0,0,0,3] 24917 [] [(4,ptr (g+1))] 29 2 [] [] [(decide ((↑m:Int)≥(↑nt:Int)),false)] [((↑m:Int),nt)] [(3,(m,nt))] λy k i c l p r=>cC F i b f c [0,0,0,3] (.agg #[i6 (T m).k,i6 (T m).n,i6 (T m).t]) ?_;exact K k (T m) ω e.symm i.sat.tail.tail.tail
section
variable{L:LS}{c n:Int}
def Ib:∀r i,(∃m,i<=m/\m<i+r/\E4 2 c n (E m))->(∀m,i<=m->m<i+r->E4 2 c n (E m)->(E m).a=T)->JI c n E r i=T
 |0,i,⟨m,g,f,_⟩,_=>ω
 |r+1,i,⟨m,g,f,d⟩,h=>by
  unfold JI;split
  .exact h i ω ω ‹_›
  .rename_i z;refine Ib r (i+1) ⟨m,?_,ω,d⟩ λm a b=>h m ω ω;by_cases e:m=i
   .subst e;exact absurd d z
   .omega
def zD{q:Int}:∀a b,a<=b->kN q c E a<=kN q c E b
 |a,0,h=>by obtain rfl:a=0:=ω
            exact Int.le_refl _
 |a,b+1,h=>by
  by_cases e:a=b+1
  .subst e;exact Int.le_refl _
  .have:=zD (q:=q) a b ω;simp only[kN];split<;>omega
def Rm{q:Int}(h:i<j)(a:(E i).c=c/\(E i).l=-1/\(E i).w=q):kN q c E i<kN q c E j:=by
 have:=zD (q:=q) (c:=c) (E:=E) (i+1) j h;simp only[kN,a,and_self,if_true]at this;omega
structure Fth(V:Ev0)(L:LS)(c:Nat):Prop where
 w:∀i,i<L.el->(L.ev i).c=c->(L.ev i).l=-1->(L.ev i).w=1\/(L.ev i).w=2
 b:∀i,i<L.el->(L.ev i).c=c->(L.ev i).l=-1->(L.ev i).w=1->(L.ev i).n=kN 1 c L.ev i/\JI c (L.ev i).n (λm=>L.ev (i+m)) (L.el-i) 0=(L.ev i).a+(xm V c (L.ev i).n).t/\V.st c<=(L.ev i).a
 e:kN 1 c L.ev L.el=kN 2 c L.ev L.el
 o:V.st c<=(L.ou c).a
 n:∀i,i<L.el->(L.ev i).c=c->(L.ev i).l=-1->0<=(L.ev i).n
 v:(L.ou c).b.k=1->∃j n,j<L.el/\E4 2 c n (L.ev j)/\(L.ev j).a=(L.ou c).a/\(xm V c n).k=1/\(xm V c n).n=(L.ou c).b.n
def Pz(b:wM V){c:Nat}(a:c<V.nc)(n:Int):(1<=(xm V c n).k/\(xm V c n).k<=4)/\0<=(xm V c n).t/\(xm V c n).t<=1000:=by
 unfold xm aU;rw[mY];split
 .exact b.tr c a _ ‹_›
 .decide
def aab(E:wM V)(s:JA V none L)(l:JY V none L)(A:∀t,t<L.tl->(L.tk t).e=true)(r:∀w,w<L.wl->(L.wt w).x=false->(L.wt w).e=true){c:Nat}(k:c<V.nc):Fth V L c:=by
 let⟨h,u,_⟩:=s;have s:=u.nc;have no:∀w,w<L.wl->(L.wt w).l=V.nl->(L.wt w).e=false->False:=λw o e y=>by
  rw[r w o (h.nx w o e)]at y;cases y
 refine⟨λi a _ e=>h.l i a e,λi a g f t=>?_,?_,l.1.ou c k (A c ω),λi a g f=>?_,λC=>?_⟩
 .have v:E4 1 c (L.ev i).n (L.ev i):=⟨g,f,t,rfl⟩
  have e:=h.be i a c _ v;refine⟨e,?_,l.1.ev i a c g⟩;have s:∀m,m<L.el->E4 2 c (L.ev i).n (L.ev m)->(L.ev m).a=(L.ev i).a+(xm V c (L.ev i).n).t:=λm x e=>by
   let⟨r,p,b,l⟩:=h.en m x c _ e;have D:=h.be r ω c _ b;have:r=i:=by
    rcases Hu r i with z|z|z
    .have:=Rm (q:=1) (c:=(c:Int)) z ⟨b.1,b.2.1,b.2.2.1⟩;omega
    .exact z
    .have:=Rm (q:=1) (c:=(c:Int)) z ⟨g,f,t⟩;omega
   rw[l,this]
  rcases h.pe i a c _ v with ⟨j,p,b,l⟩|⟨w,ch,p,b,l,_⟩
  .refine Ib _ 0 ⟨j-i,ω,ω,?_⟩ λm _ x e=>s (i+m) ω e;show E4 2 c _ (L.ev (i+(j-i)));rw[show i+(j-i)=j by omega];exact l
  .exact(no w p b l).elim
 .have g:=h.sm c k;have f:=h.us c k;have t:kR (Cf V L c) L.wl=0:=by
   rw[uw (g:=λ_=>0) L.wl λw o=>?_]
   .have:∀n,kR (λ_=>0) n=0:=λn=>by induction n with|zero=>rfl|succ n B=>simp[kR,B]
    exact this _
   .have:=no w o;unfold Cf;grind
  omega
 .rcases h.l i a f with z|z
  .have:=h.be i a c _ ⟨g,f,z,rfl⟩;rw[this];exact zD (q:=1) 0 i (gl _)
  .let⟨j,p,b,_⟩:=h.en i a c _ ⟨g,f,z,rfl⟩;rw[h.be j ω c _ b];exact zD (q:=1) 0 j (gl _)
 .let⟨j,n,e,b,a,d,q⟩:=u.ou c k (A c ω) C;have:=(Pz E k n).1;refine⟨j,n,e,b,a,?_⟩;unfold cN at d q;split at d
  .cases d
  .split at d
   .cases d
   .split at d
    .cases d
    .simp only[*,if_false]at q;exact⟨ω,q⟩
end
def Sat.view{w:aj}{M:aW}{p:Nat}{r':aH}(h:Sat U w M)(l:nth M p=some r)(y:r.wr=false)(k:r'.wr=false)(A:r'.row=none)(m:Ix->Ix)(f:∀j,r'.has j->r.has (m j)/\r'.ad j=r.ad (m j)/\r'.get j=r.get (m j)):Sat U w (r'::M):=by
 refine⟨λi s d j a=>?_,λi s d j a=>?_,λi s m m d t b j q x v e=>?_,λi s d g e n u=>?_⟩
 .rcases iB d with ⟨o,rfl,c⟩|⟨rfl,rfl⟩
  .exact h.val _ _ c j a
  .rw[(f j a).2.1,(f j a).2.2];exact h.val p r l _ (f j a).1
 .rcases iB d with ⟨o,rfl,c⟩|⟨rfl,rfl⟩
  .exact h.ok _ _ c j a
  .rw[(f j a).2.1];exact⟨(h.ok p r l _ (f j a).1).1,λz=>by rw[k]at z;cases z⟩
 .rcases iB d with ⟨o,rfl,c⟩|⟨rfl,rfl⟩
  .rcases iB t with ⟨a,rfl,B⟩|⟨rfl,rfl⟩
   .have:=h.sep _ _ _ _ c B b j q x v e;exact⟨ω,this.2⟩
   .have:=h.sep _ _ _ _ c l b j _ x (f q v).1 (e.trans (f q v).2.1);obtain⟨rfl,_⟩:=this;rw[c]at l;cases l;rw[y]at b;cases b
  .rw[k]at b;cases b
 .rcases iB d with ⟨o,rfl,c⟩|⟨rfl,rfl⟩
  .exact h.row _ _ c g e n u
  .rw[A]at u;cases u
structure FtP(nt:Nat)(T:Nat->Lm)(el:Nat)(D:Nat->OZ)(c:Nat)(st oa ok on:Int):Prop where
 t:∀n,0<=(Cu nt T n).t/\(Cu nt T n).t<=1000
 w:∀i,i<el->(D i).c=c->(D i).l=-1->(D i).w=1\/(D i).w=2
 b:∀i,i<el->(D i).c=c->(D i).l=-1->(D i).w=1->(D i).n=kN 1 c D i/\JI c (D i).n (λm=>D (i+m)) (el-i) 0=(D i).a+(Cu nt T (D i).n).t/\st<=(D i).a
 e:kN 1 c D el=kN 2 c D el
 o:st<=oa
 v:ok=1->∃j n,j<el/\E4 2 c n (D j)/\(D j).a=oa/\(Cu nt T n).k=1/\(Cu nt T n).n=on
theorem aan(F:aB prog main (DX U) Ψ)(A:HB B U){X:aC}(d:X.kind=.normal)(qh:X.fn=22){cf:aC}{Y:cO}{R:aW}{ea ta:eP}{v ov:ay}{W el nt tc Br y q7 c:Nat}{st p ok on:Int}{D:Nat->OZ}{T:Nat->Lm}(Ty:el<1000000)(hec:el<=W)(hea:0<el->∃a,ea=some a)(hta:0<nt->∃a,ta=some a/\Has R (fR a 3 (λj=>[i6 (T j).k,i6 (T j).n,i6 (T j).t]) nt false))(hev:∀i,i<el->0<=(D i).a/\(D i).a<1000000000000)(P:FtP nt T el D c st p ok on)(K:∀w',B<=w'.heap.size->Sat U w' (sK ea D el::R)->Ψ (G (cf.finish (.bool true)) Y) w'):
 ∀(k i b e:Nat)(u:Bool)(a0:Act)(w:aj)(S:Nat),i+k=el->(b:Int)=kN 1 c D i->(e:Int)=kN 2 c D i->b<=i->e<=i->(∀j n,j<i->E4 2 c n (D j)->(D j).a=p->(Cu nt T n).k=1->(Cu nt T n).n=on->u=true)->a0.defers=[]->B<=S->w.heap.size=S->
   St U S 121 [(11,i6 i),(10,.bool u),(9,i6 e),(8,i6 b),(7,ptr q7),(4,ptr y),(3,ptr Br),(2,i6 c)] (bR q7 [i6 p,i6 ok,i6 on,ov]::bR y [i6 st,.slice ta nt tc]::bR Br [v,.slice ea el W]::sK ea D el::R) 0 a0 w->
   Ψ (G (X.at a0 (pc prog 22 35 [] [])) (cf::Y)) w
 |0,i,b,e,u,a0,w,S,hi,hb,C,hbi,hei,hu,E,hle,P9,S0=>by
  obtain rfl:i=el:=ω
  have g1:decide ((i:Int)<(i:Int))=false:=ψ
  have q1:((b:Int)==(e:Int))=true:=by rw[hb,C,P.e];simp
  have q2:decide (p≥st)=true:=by simpa using P.o
  by_cases J:ok=1
  .have h1':(ok==1)=true:=by simpa using J
   let⟨j,n,z1,z2,z3,z4,z5⟩:=P.v J;obtain rfl:u=true:=hu j n z1 z2 z3 z4 z5;refine ZI F A d qh E S0 33 [2,0,1,1,0,0,0,1,1,0,0,1,0,0,1,1] 30404600 [] 6 (.bool true) 68 2 [] [] [(ok !=1,false),(decide (p≥st),true),((↑b:Int)==(↑e:Int),true),(decide ((↑i:Int)<(↑i:Int)),false)] [] [] λf t zS Dx=>K f ω t.sat.tail.tail.tail
  .have h1':(ok==1)=false:=by simpa using J
   refine TP F A d E S0 33 [2,0,1,1,0,0,0,1,1,0,0,1,0,0,1,1] 32501752 [] [(6,.bool true)] 68 2 [] [] [(ok !=1,true),(decide (p≥st),true),((↑b:Int)==(↑e:Int),true),(decide ((↑i:Int)<(↑i:Int)),false)] [] [] λo f t s zS Dx o9=>cC F t d qh s [] (.bool true) ?_;exact K f ω t.sat.tail.tail.tail
 |k+1,i,b,e,u,a0,w,S,hi,hb,C,hbi,hei,hu,E,hle,P9,S0=>by
  obtain⟨H,rfl⟩:=hea ω;have r:wp i=((i+1:Nat):Int):=j6;have Xj:wp b=((b+1:Nat):Int):=j6;have hwe:wp e=((e+1:Nat):Int):=j6
  have nx:∀(b' e':Nat)(Z:Bool)(o:Act)(f:aj),(b':Int)=kN 1 c D (i+1)->(e':Int)=kN 2 c D (i+1)->b'<=i+1->e'<=i+1->(∀j n,j<i+1->E4 2 c n (D j)->(D j).a=p->(Cu nt T n).k=1->(Cu nt T n).n=on->Z=true)->o.defers=[]->B<=f.heap.size->
   aR [(11,i6 ((i+1:Nat):Int)),(10,.bool Z),(9,i6 e'),(8,i6 b'),(7,ptr q7),(4,ptr y),(3,ptr Br),(2,i6 c)] 121 o->Sat U f (bR q7 [i6 p,i6 ok,i6 on,ov]::bR y [i6 st,.slice ta nt tc]::bR Br [v,.slice (some H) el W]::sK (some H) D el::R)->
   Ψ (G (X.at o (pc prog 22 35 [] [])) (cf::Y)) f:=λb' e' Z o f O I y2' w y3 y4 y5 y6 y7=>aan F A d qh Ty hec hea hta hev P K k (i+1) b' e' Z o f f.heap.size ω O I y2' w y3 y4 y5 rfl ⟨y6,y7,rfl⟩
  have nu:∀q,¬((D i).c=c/\(D i).l=-1/\(D i).w=q)->kN q c D (i+1)=kN q c D i:=λq h=>by simp only[kN,h,if_false];omega
  have nj:∀q,((D i).c=c/\(D i).l=-1/\(D i).w=q)->kN q c D (i+1)=kN q c D i+1:=λq h=>by simp only[kN,h,and_self,if_true]
  by_cases J:(D i).c=c
  .have h1':((D i).c !=(c:Int))=false:=by simpa using J
   by_cases h2:(D i).l=-1
   .have h:((D i).l != -1)=false:=by simpa using h2
    refine aX (λM=>bR (S) [i6 (D i).a,i6 (D i).c,i6 (D i).l,i6 (D i).w,i6 (D i).n]::(M)) 1 F A d E S0 43 [2,0,1,1,2,0,1,1,3,i,0,105,0,0,0,5,0,0,1,2,2,0,0,2,0,0,4,1] 4426 [] [(43,i6 (D i).n),(41,.agg #[i6 st,.slice ta nt tc]),(12,ptr S),(11,i6 i),(10,.bool u),(9,i6 e),(8,i6 b),(7,ptr q7),(4,ptr y),(3,ptr Br),(2,i6 c)] 78 5 [] [] [((D i).l != -1,false),((D i).c !=(↑c:Int),false),(decide ((↑i:Int)<(↑el:Int)),true)] [((↑i:Int),el)] [(5,(i,el))] λo f t s zS Dx o9=>ah F d s t 44 20 #[.agg #[i6 st,.slice ta nt tc],i6 (D i).n] λh h=>Sc (nt:=nt) (T:=T) F A (λz=>by let⟨a,z1,z2⟩:=hta z;exact⟨a,z1,z2.cons.cons.cons.cons.cons⟩) t.sat ω λa x a hx a=>h _ _ _ a λa B3 S2 N a=>?_;let⟨Q,V,L⟩:=x;have hTx:=P.t (D i).n;rw[<-hx]at hTx;have a:=hev i ω;have h:wI ((D i).a+L)=(D i).a+L:=aA (by dsimp only at hTx;omega) (by dsimp only at hTx;omega);rcases P.w i ω J h2 with hq|hq
    .have Qs:((D i).w==1)=true:=by simpa using hq
     have a:decide (0<=(i:Int))=true:=ψ
     have a:(i:Int)<((if el<=W then el else 0:Nat):Int):=by rw[sJ hec];omega
     refine aX (λM=>bR (B3) [i6 Q,i6 V,i6 L]::(M)) 1 F A d N S2 17 [0,0,0,3,1,0,3,1,4,0,1,1,1,0,4,1] 26 [7] [(55,i6 (D i).n),(53,i6 c),(52,.slice (some (Addr.add H (i*5))) (el-i) (W-i)),(13,ptr B3),(12,ptr S),(11,i6 i),(10,.bool u),(9,i6 e),(8,i6 b),(7,ptr q7),(4,ptr y),(3,ptr Br),(2,i6 c)] 96 13 [7] [] [((D i).w==1,true)] [((↑i:Int),if el<=W then el else 0)] [] λa3 w3 l g YF yO mH=>ah F d g l 56 33 #[.slice (some (Addr.add H (i*5))) (el-i) (W-i),i6 c,i6 (D i).n] λa Nv=>?_;have k:=l.sat.view (p:=5) (r:=sK (some H) D el) (r':=sK (some (H.add (i*5))) (λm=>D (i+m)) (el-i)) rfl rfl rfl rfl (λj=>(i+j.1,j.2)) (λj a=>⟨⟨by have:j.1<el-i:=a.1;show i+j.1<el;omega,a.2⟩,by
      show((H.add (i*5)).add (j.1*5)).add j.2=(H.add ((i+j.1)*5)).add j.2;rw[show(H.add (i*5)).add (j.1*5)=H.add ((i+j.1)*5) by rw[Addr.add_add,YD]],rfl⟩)
     let⟨q,o2,a⟩:=P.b i ω J h2 hq;rw[<-hx]at o2;dsimp only at o2;refine Tg (ea:=some (H.add (i*5))) (E:=λm=>D (i+m)) F A ω (λ_=>⟨_,rfl⟩) k ω λa x a a k=>Nv _ _ _ k.tail λk k S4 k m=>?_;rw[a,o2]at S4;have a:((D i).n !=(b:Int))=false:=by rw[q,hb];simp
     have a:((D i).a+L !=wI ((D i).a+L))=false:=by rw[h];simp
     refine TP F A d k S4 41 [1,0,4,1,1,0,0,1,0,0,2,1,1,0,0,1,3,0,0,1] 72684884 [] [(11,i6 (wp i)),(8,i6 (wp b)),(10,.bool u),(9,i6 e),(7,ptr q7),(4,ptr y),(3,ptr Br),(2,i6 c)] 138 21 [7] [] [(decide ((D i).a<st),false),((D i).a+L !=wI ((D i).a+L),false),((D i).n !=(↑b:Int),false)] [] [] λk a S5 Yv h h h=>?_;rw[r,Xj]at S5;rw[show pc prog 22 138 (Bo 21) [7]=pc prog 22 35 [] [] by kernel_rfl];exact nx (b+1) e u k a (by rw[nj 1 ⟨J,h2,hq⟩,<-hb];rfl) (by rw[nu _ λz=>ω];exact C) ω ω (λj n O I=>by
      by_cases ej:j=i
      .subst ej;exact absurd I.2.2.1 ω
      .exact hu j n ω I) Yv ω (S5.dB _ rfl).env S5.sat.tail.tail
    .have Qs:((D i).w==1)=false:=by rw[hq];rfl
     have a:((D i).w==2)=true:=by rw[hq];rfl
     have fin:∀(Z:Bool)(o:Act)(f:aj)(h a:aH),(Z=true\/(u=false/\¬((D i).a=p/\Q=1/\V=on)))->o.defers=[]->B<=f.heap.size->aR [(11,i6 ((i+1:Nat):Int)),(10,.bool Z),(9,i6 ((e+1:Nat):Int)),(8,i6 b),(7,ptr q7),(4,ptr y),(3,ptr Br),(2,i6 c)] 121 o->Sat U f (h::a::bR q7 [i6 p,i6 ok,i6 on,ov]::bR y [i6 st,.slice ta nt tc]::bR Br [v,.slice (some H) el W]::sK (some H) D el::R)->Ψ (G (X.at o (pc prog 22 35 [] [])) (cf::Y)) f:=λZ o f h a O I y3 y4 y5=>
      nx b (e+1) Z o f (by rw[nu _ λz=>ω];exact hb) (by rw[nj 2 ⟨J,h2,hq⟩,<-C];rfl) ω ω (λj n z1 z2 z3 z4 z5=>by
       rcases O with O|⟨O,y6⟩
       .exact O
       .by_cases ej:j=i
        .subst ej;obtain rfl:=z2.2.2.2;rw[<-hx]at z4 z5;exact absurd ⟨z3,z4,z5⟩ y6
        .have:=hu j n ω z2 z3 z4 z5;rw[O]at this;cases this) I y3 y4 y5.tail.tail
     cases u with
     |true=>
      refine aX (λM=>bR (B3) [i6 Q,i6 V,i6 L]::(M)) 1 F A d N S2 58 [0,0,0,3,1,0,3,1] 8388600 [] [(11,i6 (wp i)),(10,.bool true),(9,i6 (wp e)),(8,i6 b),(7,ptr q7),(4,ptr y),(3,ptr Br),(2,i6 c)] 137 25 [] [] [((D i).w==2,true),((D i).w==1,false)] [] [] λa3 w3 l g YF yO mH=>?_;rw[r,hwe]at l;rw[show pc prog 22 137 (Bo 25) []=pc prog 22 35 [] [] by kernel_rfl];exact fin true a3 w3 _ _ (.inl rfl) g ω (l.dB _ rfl).env l.sat
     |false=>
      by_cases k:(D i).a=p
      .have a:((D i).a==p)=true:=by simpa using k
       by_cases h:Q=1
       .have a:(Q==1)=true:=by simpa using h
        refine aX (λM=>bR (B3) [i6 Q,i6 V,i6 L]::(M)) 1 F A d N S2 58 [0,0,0,3,1,0,3,1,1,0,0,1,2,0,0,1,0,0,0,2,2,0,2,1] 412207699288 [] [(11,i6 (wp i)),(10,.bool (V==on)),(9,i6 (wp e)),(8,i6 b),(7,ptr q7),(4,ptr y),(3,ptr Br),(2,i6 c)] 137 25 [] [] [(Q==1,true),((D i).a==p,true),((D i).w==2,true),((D i).w==1,false)] [] [] λa3 w3 l g YF yO mH=>?_;rw[r,hwe]at l;rw[show pc prog 22 137 (Bo 25) []=pc prog 22 35 [] [] by kernel_rfl];exact fin (V==on) a3 w3 _ _ (by
         by_cases a:V=on
         .exact .inl (by simpa using a)
         .exact .inr ⟨rfl,λz=>a z.2.2⟩) g ω (l.dB _ rfl).env l.sat
       .refine aX (λM=>bR (B3) [i6 Q,i6 V,i6 L]::(M)) 1 F A d N S2 58 [0,0,0,3,1,0,3,1,1,0,0,1,2,0,0,1,0,0,0,1] 366439454040 [] [(11,i6 (wp i)),(10,.bool false),(9,i6 (wp e)),(8,i6 b),(7,ptr q7),(4,ptr y),(3,ptr Br),(2,i6 c)] 137 25 [] [] [(Q==1,false),((D i).a==p,true),((D i).w==2,true),((D i).w==1,false)] [] [] λa3 w3 l g YF yO mH=>?_;rw[r,hwe]at l;rw[show pc prog 22 137 (Bo 25) []=pc prog 22 35 [] [] by kernel_rfl];exact fin false a3 w3 _ _ (.inr ⟨rfl,λz=>h z.2.1⟩) g ω (l.dB _ rfl).env l.sat
      .refine aX (λM=>bR (B3) [i6 Q,i6 V,i6 L]::(M)) 1 F A d N S2 58 [0,0,0,3,1,0,3,1,1,0,0,1,2,0,0,1] 366503810392 [] [(11,i6 (wp i)),(10,.bool false),(9,i6 (wp e)),(8,i6 b),(7,ptr q7),(4,ptr y),(3,ptr Br),(2,i6 c)] 137 25 [] [] [((D i).a==p,false),((D i).w==2,true),((D i).w==1,false)] [] [] λa3 w3 l g YF yO mH=>?_;rw[r,hwe]at l;rw[show pc prog 22 137 (Bo 25) []=pc prog 22 35 [] [] by kernel_rfl];exact fin false a3 w3 _ _ (.inr ⟨rfl,λz=>k z.1⟩) g ω (l.dB _ rfl).env l.sat
   .refine aX (λM=>bR (S) [i6 (D i).a,i6 (D i).c,i6 (D i).l,i6 (D i).w,i6 (D i).n]::(M)) 1 F A d E S0 44 [2,0,1,1,2,0,1,1,3,i,0,105,0,0,0,5,0,0,1,2] 6474 [] [(11,i6 (wp i)),(10,.bool u),(9,i6 e),(8,i6 b),(7,ptr q7),(4,ptr y),(3,ptr Br),(2,i6 c)] 79 7 [] [] [((D i).l != -1,true),((D i).c !=(↑c:Int),false),(decide ((↑i:Int)<(↑el:Int)),true)] [((↑i:Int),el)] [(5,(i,el))] λo f t s zS Dx o9=>?_;rw[r]at t;rw[show pc prog 22 79 (Bo 7) []=pc prog 22 35 [] [] by kernel_rfl];exact nx b e u o f (by rw[nu _ λz=>h2 z.2.1];exact hb) (by rw[nu _ λz=>h2 z.2.1];exact C) ω ω (λj n O I=>by
     by_cases ej:j=i
     .subst ej;exact absurd I.2.1 h2
     .exact hu j n ω I) s ω (t.dB _ rfl).env t.sat.tail
  .refine aX (λM=>bR (S) [i6 (D i).a,i6 (D i).c,i6 (D i).l,i6 (D i).w,i6 (D i).n]::(M)) 1 F A d E S0 44 [2,0,1,1,2,0,1,1,3,i,0,105,0,0,0,5,0,0,1,1] 8170 [] [(11,i6 (wp i)),(10,.bool u),(9,i6 e),(8,i6 b),(7,ptr q7),(4,ptr y),(3,ptr Br),(2,i6 c)] 79 7 [] [] [((D i).c !=(↑c:Int),true),(decide ((↑i:Int)<(↑el:Int)),true)] [((↑i:Int),el)] [(5,(i,el))] λo f t s zS Dx o9=>?_;rw[r]at t;rw[show pc prog 22 79 (Bo 7) []=pc prog 22 35 [] [] by kernel_rfl];exact nx b e u o f (by rw[nu _ λz=>J z.1];exact hb) (by rw[nu _ λz=>J z.1];exact C) ω ω (λj n O I=>by
    by_cases ej:j=i
    .subst ej;exact absurd I.1 J
    .exact hu j n ω I) s ω (t.dB _ rfl).env t.sat.tail
def L4(F:aB prog main (DX U) Ψ)(r:HB B U){os:p9}{f:bU}{m c:Nat}{b:Nat->Se}{T:Nat->Lm}{w:aj}(k:el<1000000)(l:el<=W)(p:0<el->∃a,ea=some a)(g:0<nt->∃a,ta=some a/\Has C (fR a 3 (λj=>[i6 (T j).k,i6 (T j).n,i6 (T j).t]) nt false))(h:∀i,i<el->0<=(D i).a/\(D i).a<1000000000000)(P:FtP nt T el D c st (b c).a (b c).b.k (b c).b.n)(d:c<m)(d:Sat U w (sK ea D el::SY o b os f m::C))(e:B<=w.heap.size)(K:∀w',B<=w'.heap.size->Sat U w' (sK ea D el::SY o b os f m::C)->Ψ (G (cf.finish (.bool true)) Y) w'):Ψ (G (Frame.enter prog 22 #[.agg #[.slice (some ⟨o,0,none⟩) m m,.slice ea el W],.agg #[i6 st,.slice ta nt tc],i6 c] .normal) (cf::Y)) w:=by
 refine cJ func22 d 121 λX d d e e q i t s=>aX (λM=>bR (d+2) [i6 (b c).a,i6 (b c).b.k,i6 (b c).b.n,.slice (os c) (List.length (b c).b.ch) (f c)]::(bR (d+1) [i6 st,.slice ta nt tc]::(bR (d) [.slice (some ⟨o,0,none⟩) m m,.slice ea el W]::(M)))) 3 F r e i t 35 [1,0,0,1,3,c,0,104,0,0,0,4] 6 [] [(11,i6 0),(10,.bool false),(9,i6 0),(8,i6 0),(7,ptr (d+2)),(4,ptr (d+1)),(3,ptr d),(2,i6 c)] 35 1 [] [] [] [((↑c:Int),m)] [(4,(c,m))] λi c d b f f f=>aan F r e q k l p (λz=>by let⟨a,f,e⟩:=g z;exact⟨a,f,e.cons⟩) h P K el 0 0 0 false i c c.heap.size ω rfl rfl ω ω (λj n z=>ω) b ω rfl ⟨(d.dB _ rfl).env,d.sat,rfl⟩
def aaQ(F:aB prog main (DX U) Ψ)(C:HB B U)(e:X.kind=.normal){R:aW}{m q:Nat}{v:ay}(I:el<1000000)(A:0<el->∃a,ea=some a)(t:∀i,i+1<el->(D i).a<=(D (i+1)).a):
 ∀(r i:Nat)(l:Act)(w:aj)(o:Nat),el<=i+1+r->i<1000000->l.defers=[]->B<=o->w.heap.size=o->
   St U o 61 [(8,i6 ((i+1:Nat):Int)),(5,ptr q),(1,.slice sa m cap)] (bR q [v,.slice ea el W]::sK ea D el::R) 0 l w->
   (∀n w',w.heap.size<=w'.heap.size->n.defers=[]->aR [(9,i6 ((0:Nat):Int)),(5,ptr q),(1,.slice sa m cap)] 61 n->Sat U w' (bR q [v,.slice ea el W]::sK ea D el::R)->Ψ (G (X.at n (pc prog 10 55 [false,false] [])) Y) w')->
   Ψ (G (X.at l (pc prog 10 37 [false] [])) Y) w:=by
 intro r;induction r with
 |zero=>
  intro i l w o H y c u s p K;have J:decide (((i+1:Nat):Int)<(el:Int))=false:=θ
  refine TP F C e c p 18 [0,0,1,1] 4 [] [(9,i6 0),(5,ptr q),(1,.slice sa m cap)] 55 4 [] [] [(decide ((↑(i+1):Int)<(↑el:Int)),false)] [] [] λk f d b g h j=>K k f ω b d.env d.sat
 |succ r E=>
  intro i l w o H y c u s p K;by_cases x:i+1<el
  .obtain⟨a,rfl⟩:=A ω;have J:decide (((i+1:Nat):Int)<(el:Int))=true:=θ
   have a:wp (i+1)=((i+1+1:Nat):Int):=j6;have o:wm (i+1)=(i:Int):=j6;have o:decide ((D (i+1)).a<(D i).a)=false:=by simpa using t i x
   refine TP F C e c p 26 [0,0,1,1,0,0,1,1,1,(i+1),0,101,0,0,1,1,1,Int.toNat (wm (i+1)),0,101] 298 [13] [(8,i6 (wp (i+1))),(5,ptr q),(1,.slice sa m cap)] 63 10 [13] [] [(decide ((D (i+1)).a<(D (Int.toNat (wm (i+1)))).a),false),(decide ((↑(i+1):Int)<(↑el:Int)),true)] [(wm (i+1),el),((↑(i+1):Int),el)] [(1,(Int.toNat (wm (i+1)),el)),(1,((i+1),el))] λk f d b g h j=>?_;rw[a]at d;rw[show pc prog 10 63 (Bo 10) [13]=pc prog 10 37 [false] [] by kernel_rfl];exact E (i+1) k f f.heap.size ω ω b ω rfl ⟨d.env,d.sat,rfl⟩ λn w' z=>K n w' ω
  .refine TP F C e c p 18 [0,0,1,1] 4 [] [(9,i6 0),(5,ptr q),(1,.slice sa m cap)] 55 4 [] [] [(decide ((↑(i+1):Int)<(↑el:Int)),false)] [] [] λk f d b g h j=>K k f ω b d.env d.sat
def aaq(F:aB prog main (DX U) Ψ)(u:HB B U){X:aC}(b:X.kind=.normal){Y:cO}{C:aW}{ea sa:eP}{os:p9}{oc:bU}{o m cap q el W:Nat}{f:Nat->Se}{D:Nat->OZ}{g:Nat->Cl}(V:m<=9)(n:el<1000000)(p:el<=W)(s:0<el->∃a,ea=some a)(k:0<m->∃a,sa=some a)(l:∀i,i<el->0<=(D i).a/\(D i).a<1000000000000)(h:∀c,c<m->0<(g c).nt->∃a,(g c).ta=some a/\Has C (fR a 3 (λj=>[i6 ((g c).T j 0),i6 ((g c).T j 1),i6 ((g c).T j 2)]) (g c).nt false))(S:∀c,c<m->FtP (g c).nt (λj=>⟨(g c).T j 0,(g c).T j 1,(g c).T j 2⟩) el D c (g c).st (f c).a (f c).b.k (f c).b.n):
 ∀(r c:Nat)(v:Act)(w:aj)(x:Nat),c+r=m->v.defers=[]->B<=x->w.heap.size=x->
   St U x 61 [(9,i6 c),(5,ptr q),(1,.slice sa m cap)] (bR q [.slice (some ⟨o,0,none⟩) m m,.slice ea el W]::Yt sa m g::sK ea D el::SY o f os oc m::C) 0 v w->
   (∀O w',O.defers=[]->aR [(4,.bool true)] 61 O->Ψ (G (X.at O (pc prog 10 69 [false,false,false] [])) Y) w')->
   Ψ (G (X.at v (pc prog 10 55 [false,false] [])) Y) w
 |0,c,v,w,x,Z,e,L,H,Q,K=>by
  have i:decide ((c:Int)<(m:Int))=false:=θ
  refine TP F u b e Q 14 [] 4 [] [(4,.bool true)] 69 8 [] [] [(decide ((↑c:Int)<(↑m:Int)),false)] [] [] λT R A d E I N=>K T R d A.env
 |r+1,c,v,w,x,Z,e,L,H,Q,K=>by
  obtain⟨y,rfl⟩:=k ω;have J:wp c=((c+1:Nat):Int):=j6;refine TP F u b e Q 14 [0,0,0,2,1,c,0,102] 26 [6] [(57,i6 c),(56,.agg #[i6 (g c).st,.slice (g c).ta (g c).nt (g c).tc]),(52,.agg #[.slice (some ⟨o,0,none⟩) m m,.slice ea el W]),(9,i6 c),(5,ptr q),(1,.slice (some y) m cap)] 69 12 [6] [] [(decide ((↑c:Int)<(↑m:Int)),true)] [((↑c:Int),m)] [(2,(c,m))] λT R A d E I N=>ah F b d A 58 22 #[.agg #[.slice (some ⟨o,0,none⟩) m m,.slice ea el W],.agg #[i6 (g c).st,.slice (g c).ta (g c).nt (g c).tc],i6 c] λd t=>?_;have h1:=A.sat.perm (M':=sK ea D el::SY o f os oc m::bR q [.slice (some ⟨o,0,none⟩) m m,.slice ea el W]::Yt (some y) m g::C) (D2 (l₁:=[_,_]) (l₂:=[_,_])|>.append_right _);refine L4 (T:=λj=>⟨(g c).T j 0,(g c).T j 1,(g c).T j 2⟩) F u n p s (λz=>by let⟨a,e,d⟩:=h c ω z;exact⟨a,e,d.cons.cons⟩) l (S c ω) ω h1 ω λa a a=>t _ _ _ (a.perm (M':=bR q [.slice (some ⟨o,0,none⟩) m m,.slice ea el W]::Yt (some y) m g::sK ea D el::SY o f os oc m::C) (D2 (l₁:=[_,_]) (l₂:=[_,_])|>.append_right _)) λd e S2 M a=>Rb F u b M S2 16 [] 5 [] [(9,i6 (wp c)),(5,ptr q),(1,.slice (some y) m cap)] 86 20 [6] λf d P a e e e=>?_;rw[J]at P;rw[show pc prog 10 86 (Bo 20) [6]=pc prog 10 55 [false,false] [] by kernel_rfl];exact aaq F u b V n p s k l h S r (c+1) f d d.heap.size ω a ω rfl ⟨(P.dB _ rfl).env,P.sat,rfl⟩ K
def zo{b:aC}{a:Act}{fn:Func}{c:eC}{w:aj}{v:ay}(e:b.kind=.normal)(f:P.inits.idxOf? b.fn=none)(i:a.defers=[])(g:P.funcs[b.fn]? =some fn)(d:(results fn a.tmps).run P w=.ok v w)(h:(results fn a.tmps).events P w #[]=#[]):
 stepG P true (G {b.at a c with mode:=.returning} []) w=.ended (.done v) w #[]:=by
 simp[G,stepG,unwind,doReturn,Frame.at,e,i,g,d,h,f,seen,GStep.after]
def JU:prog.inits.idxOf? 10=none:=ρ
theorem PM(F:aB prog true (DX (cP wI.heap.size l [])) (nM prog Post (Old wI) (jq l) ng))(f:X.kind=.normal)(c:X.fn=10){a:Act}{w:aj}{k:eC}(h:a.defers=[])(j:aR [(4,.bool true)] N a)(i:∀w',Old wI w'->Post (.bool true) w'):nM prog Post (Old wI) (jq l) ng (G (X.at a (.code .ret::k)) []) w:=by
 have b:∀t:List Item,nM prog Post (Old wI) (jq l) ng (G {X.at a t with mode:=.returning} []) w:=λt=>by
  have g:a.tmps.getD 4 undef=.bool true:=by rw[oK,j.val 4 (.bool true) rfl];rfl
  have e:=resultsC_tmp (P:=prog) (fn:=f10) (t:=4) φ a.tmps;rw[g]at e;refine At.Rv (v:=.bool true) (es:=#[]) rfl (λd=>?_) ψ (λd a=>i _ a) gN;exact zo f (by rw[c];exact JU) h (by rw[c];exact func10) (e _).1 (e _).2
 exact F.ctl (λ_=>stepG_ret') (b _)
section
variable{n m:Nat}{L:oF}{g:Nat->Cl}
theorem Fi(H:Ds wI Q n L sa m g)(hP:∀w',Old wI w'->Post (.bool true) w'):nM prog Post (Old wI) (jq []) 1 (G (Frame.enter prog 10 #[.slice Q n c0,.slice sa m cap] .normal) []) wI:=by
 have F:=nA (P:=prog) (Post:=Post) (wI:=wI) (l:=[]) 1;have s:∀(a:Addr)(wr:Bool),wI.heap.size<=a.block->cP wI.heap.size [] [] a wr:=λa wr z=>iX (λx P=>by cases P) (az _) z wr;have hS:Sat (cP wI.heap.size [] []) wI []:=lD λr hr=>by cases hr
 have G:wI.heap.size<=wI.heap.size:=az _;refine cJ func10 hS 61 λX G G G e Z G S0 P9=>Rb F s e G S0 8 [] 1 [] [(13,.slice sa m cap),(12,.slice Q n c0),(1,.slice sa m cap)] 8 1 [] λG l S1 V G G G=>Af F e 14 19 #[.slice Q n c0,.slice sa m cap] ρ ρ δ S1 λG Y=>At.assume gN λI=>At.keep (K':=Old l) (λd=>Iw l) ?_;have d:=H.old I;refine ES (wI:=l) d (λh=>Rr (zl h) (aak.and (p:=True) λ_=>aai (zl h)) ⟨aaw,λ_=>aau (zl h)⟩) (λt u b d A E=>?_) λhck O q t u o ea W h C b d A E ⟨U,hec⟩ hC hev hou mQ S=>?_
 .refine Y _ _ _ λa2 K f=>?_;clear F s;have F:=nA (P:=prog) (Post:=Post) (wI:=l) (l:=t) u;have y:l.heap.size<=b.heap.size:=E.2.2.2.1;have s:∀(a:Addr)(wr:Bool),b.heap.size<=a.block->cP l.heap.size t [] a wr:=λa wr z=>iX (N:=b.heap.size) (λx P=>(A x P).2) y z wr;have T0:Sat (cP l.heap.size t []) b []:=lD λr hr=>by cases hr
  have N:St (cP l.heap.size t []) b.heap.size 61 [(14,.tuple #[.agg #[.slice none 0 0,.slice none 0 0],.bool false,.bool true])] [] 0 a2 b:=⟨K.sub (by intro p R;simp only[ak,bH,or_false]at R;subst R;rfl),T0,rfl⟩;have v:b.heap.size=b.heap.size:=rfl;replace f:=f.trans V;generalize hB2:b.heap.size=B2 at N v s;refine aq (λM=>bR (B2) [.slice none 0 0,.slice none 0 0]::(M)) 1 F s e f N 25 [0,0,0,2] 127 [] [(4,.bool true)] 34 3 [] λa3 w3 S3 D YF yO mH=>PM F e Z D S3.env λw' w=>hP w' (Fg I w)
 .refine Y _ _ _ λa2 K f=>?_;clear F s;have F:=nA (P:=prog) (Post:=Post) (wI:=l) (l:=t) u;have y:l.heap.size<=b.heap.size:=E.2.2.2.1;have s:∀(a:Addr)(wr:Bool),b.heap.size<=a.block->cP l.heap.size t [] a wr:=λa wr z=>iX (N:=b.heap.size) (λx P=>(A x P).2) y z wr;let⟨os,oc,h2,d⟩:=Zt hC hou mQ;have N:St (cP l.heap.size t []) b.heap.size 61 [(14,.tuple #[.agg #[.slice (some ⟨o,0,none⟩) m m,.slice ea O.el W],.bool true,.bool true]),(1,.slice sa m cap)] (sK ea O.ev O.el::SY o O.ou os oc m::C) 0 a2 b:=⟨K.sub (by intro p R;simp only[ak,bH,or_false]at R;rcases R with rfl|rfl<;>rfl),h2.get hev.cons,rfl⟩;have v:b.heap.size=b.heap.size:=rfl;replace f:=f.trans V;have T:=q.2.2.2.1;generalize hB2:b.heap.size=B2 at N v s;have hV:=zl hck;generalize hE:O.el=el at N;refine aq (λM=>bR (B2) [.slice (some ⟨o,0,none⟩) m m,.slice ea el W]::(M)) 1 F s e f N 28 [0,0,0,2] 85 [] [(8,i6 1),(5,ptr B2),(1,.slice sa m cap)] 37 2 [] λa3 w3 S3 D YF yO mH=>?_;subst hE;have d:=q.1.1;have b:=q.1.2 trivial;have t:=λc (l:c<m)=>aab hV d b q.2.2.1 q.2.2.2.2 (c:=c) l;refine aaQ F s e T U (λi h=>(b.1.b (i+1) ω).2.2.2 i ω) O.el 0 a3 w3 w3.heap.size ω ω D ω rfl ⟨S3.env,S3.sat,rfl⟩ λx r d o q u=>?_;have p:Has C (Yt sa m g):=S _ (aP _ (aP _ (bI ..)));refine aaq F s e (m:=m) (g:=g) (C:=C) (os:=os) (oc:=oc) hV.nc T hec U (λz=>by let⟨a,d,_⟩:=H.q2 z;exact⟨a,d⟩) (λi h=>⟨(b.1.b i h).1,(b.1.b i h).2.1⟩) (λc l z=>?_) (λc l=>?_) m 0 x r r.heap.size ω o ω rfl ⟨q,(u.get p.cons.cons.cons).perm (List.Perm.swap ..),rfl⟩ λb w' b o=>PM F e Z b o λw' w=>hP w' (Fg I w)
  .let⟨a,d,b⟩:=H.q3 c l z;exact⟨a,d,S _ (mq.1 b).2⟩
  .have J:=t c l;have a:∀k:Int,0<=k->Cu (g c).nt (λj=>⟨(g c).T j 0,(g c).T j 1,(g c).T j 2⟩) k=xm (nC n L m g) c k:=λk e=>by
    show(if k<0\/k≥(g c).nt then _ else _)=(if k.toNat<(nC n L m g).nt (c:Int).toNat then(nC n L m g).tr (c:Int).toNat k.toNat else _)
    rw[mY];show _=(if k.toNat<(g c).nt then _ else _)
    by_cases z:k<(g c).nt
    .rw[af ω,sJ ω];rfl
    .rw[sJ ω,af ω]
   refine⟨λk=>?_,J.w,λi h c h2 g=>?_,J.e,J.o,λe=>?_⟩
   .by_cases z:0<=k
    .rw[a k z];exact(Pz hV l k).2
    .unfold Cu;rw[sJ ω];decide
   .rw[a _ (J.n i h c h2)];exact J.b i h c h2 g
   .let⟨j,k,d,b,o,g,c⟩:=J.v e;have B:=J.n j d b.1 b.2.1;rw[b.2.2.2]at B;exact⟨j,k,d,b,o,by rw[a k B];exact g,by rw[a k B];exact c⟩
end
end Go.Proofs.YtobagnjnbmgidaaGreatDoor
