import Derived.Test.YtobagnjnbmgidaaGreatDoorA6
import Derived.Test.YtobagnjnbmgidaaGreatDoorB2
set_option linter.all false
set_option maxHeartbeats 0
set_option maxRecDepth 100000
namespace Go.Proofs.YtobagnjnbmgidaaGreatDoor
open Go.Conc Go.RowKit Tryz
variable{f:Bool}{E:Env}{a:Int}{Z:LS->Prop}{B2 N N0 S cap cA o:Nat}{r:aH}{C M R:aW}{w':aj}{W O:aC}{v:ay}{os:p9}{J:cO}{X sL:eP}{vs:iO}
variable{V:Ev0}{q x now aat nx:Int}{L':LS}{t k c i el j B ng n m:Nat}{b:Bk}{vv:Nat->OZ}{e:OZ}{ob:Option Bk}{y:ju}{cur:Option (Nat×Nat×Option Bk)}{A:List Int}{sm D:Bool}{Q:dh}{Y:gi}{P:aG}{Post:qz}{wI:aj}{l:aN}{U sa:eP}{g:Nat->Cl}
abbrev Gate(q:Int)(e:OZ):Prop:=e.l=0/\(e.w=q\/e.w=7)
def zG(q:Int)(c:Nat)(vv:Nat->OZ):Nat->Nat
 |0=>0
 |i+1=>zG q c vv i+if Gate q (vv i)/\(vv i).c=c then 1 else 0
def Ms(q:Int)(vv:Nat->OZ)(el c:Nat):Prop:=zG q c vv el=0/\∀i,i<el->(vv i).c=c->(vv i).w≠1
def zD(q:Int)(vv:Nat->OZ)(el c:Nat):Prop:=zG q c vv el=1/\∀i,i<el->Gate q (vv i)->(vv i).c=c->(vv i).w=q
def Fj(q:Int)(vv:Nat->OZ)(el c:Nat)(a:Int):Prop:=zG q c vv el=1/\∀i,i<el->(vv i).c=c->(vv i).w≠1/\(Gate q (vv i)->(vv i).w=7/\(vv i).a=a)
def LO(q:Int)(vv:Nat->OZ)(el:Nat):Prop:=∃i,i<el/\(vv i).l=0/\(vv i).w=q
def Fst(q:Int)(vv:Nat->OZ)(el:Nat):Prop:=∀i,i<el->(vv i).l=0->(vv i).w=7->∃j,j<i/\(vv j).l=0/\(vv j).w=q
def NB(b:Bk):Prop:=∀x∈b.ch,x.k=3->x.l≠0
def yE(q:Int)(vv:Nat->OZ)(el c:Nat)(a:Int)(b:Bk):Prop:=(zD q vv el c/\NB b)\/(Fj q vv el c a/\b=c9 3 0 0)
def aau(g:Gt):Prop:=g.sm=true\/g.st≠0
structure JC(V:Ev0)(q:Int)(L:LS):Prop where
 nc:V.nc<=L.tl/\V.nc<=L.al
 tk:∀t:Nat,t<L.tl->(t<V.nc->(L.tk t).c=t/\(L.tk t).p=0)/\((L.tk t).p=0->t<V.nc)/\(V.nc<=t->∀c:Nat,(L.tk t).c=c->zD q L.ev L.el c)
 ag:∀i,i<L.al->(L.ag i).c=0->∀t:Nat,(L.ag i).t=t->t<V.nc->i=t
 fr:∀c,c<V.nc->(L.ag c).o=false->Ms q L.ev L.el c/\(L.tk c).w<0
 wt:∀w,w<L.wl->NB (L.wt w).b/\∀u:Nat,(L.wt w).t=u->(L.wt w).e=false->u<V.nc->(L.tk u).w=w/\zD q L.ev L.el u
 en:∀c,c<V.nc->(L.tk c).e=true->yE q L.ev L.el c (L.ou c).a (L.ou c).b
 fs:Fst q L.ev L.el
structure v7(V:Ev0)(q:Int)(L:LS)(t:Nat):Prop where
 tl:t<L.tl
 ph:∃c:Nat,(L.tk t).c=c/\zD q L.ev L.el c
 ow:t<V.nc->(L.tk t).w<0/\(L.ag t).o=true/\zD q L.ev L.el t
structure Ah(V:Ev0)(q:Int)(L:LS)(t:Nat):Prop where
 tl:t<V.nc
 w:(L.tk t).w<0
 o:(L.ag t).o=true
 ph:Ms q L.ev L.el t
abbrev JI(V:Ev0)(q:Int)(L:LS)(t:Nat):Prop:=JC V q L/\v7 V q L t
section
variable{L:LS}{w:Nat}
def It{m:Nat}:∀n,n<=m->zG q c (upd vv m e) n=zG q c vv n
 |0,_=>rfl
 |n+1,h=>by
  have a:n≠m:=ω
  simp only[zG,It n (by omega:n<=m),upd,af a]
def zi:zG q c (upd vv el e) (el+1)=zG q c vv el+if Gate q e/\e.c=c then 1 else 0:=by
 simp only[zG,It el (az _),upd,if_true]
def E4:∀n,zG q c vv n≠0->∃i,i<n/\Gate q (vv i)/\(vv i).c=c
 |0,h=>absurd rfl h
 |n+1,h=>by
  have:=E4 n;grind [zG]
def Fi:∀n,zG q c vv n=0->∀i,i<n->Gate q (vv i)->(vv i).c≠c
 |0,h=>λ_ z=>ω
 |n+1,h=>by
  have:=Fi n;grind [zG]
def Ms.say(h:Ms q vv el c)(a:¬Gate q e/\e.w≠1\/e.c≠c):Ms q (upd vv el e) (el+1) c:=by
 unfold Ms at*;rw[zi];grind [upd]
def zD.say(h:zD q vv el c)(a:¬Gate q e\/e.c≠c):zD q (upd vv el e) (el+1) c:=by
 unfold zD at*;rw[zi];grind [upd]
def Fj.say(h:Fj q vv el c a)(b:¬Gate q e/\e.w≠1\/e.c≠c):Fj q (upd vv el e) (el+1) c a:=by
 unfold Fj at*;rw[zi];grind [upd]
def LO.say(h:LO q vv el):LO q (upd vv el e) (el+1):=by
 let⟨i,_,a⟩:=h;have:upd vv el e i=vv i:=by grind [upd]
 exact⟨i,ω,by rwa[this]⟩
theorem Fst.say(h:Fst q vv el)(a:e.l=0->e.w=7->LO q vv el):Fst q (upd vv el e) (el+1):=λi b=>by
 have u:∀j,j<el->upd vv el e j=vv j:=by grind [upd]
 have b:upd vv el e el=e:=by grind [upd]
 have:=h i;unfold LO at a;intro b b;have:∃j,j<i/\j<el/\(vv j).l=0/\(vv j).w=q:=χ
 let⟨j,y⟩:=this;exact⟨j,y.1,by rw[u j y.2.1];exact y.2.2⟩
def Ms.n1(h:Ms q vv el c)(a:zD q vv el c):False:=by rw[Ms,a.1]at h;cases h.1
def Ms.n2(h:Ms q vv el c)(b:Fj q vv el c a):False:=by rw[Ms,b.1]at h;cases h.1
def zD.Hg(h:zD q vv el c):LO q vv el:=by
 have:=E4 (q:=q) (c:=c) (vv:=vv) el;unfold LO;grind [zD]
def zD.n2(h:zD q vv el c)(b:q≠7)(b:Fj q vv el c a):False:=by
 have:=E4 (q:=q) (c:=c) (vv:=vv) el;grind [zD,Fj]
def NB.nil{y:Int}:NB ⟨x,y,[]⟩:=λ_ h=>by cases h
def NB.err{l n:Int}(h:x=3->l≠0):NB (c9 x l n):=by
 unfold NB c9;grind
def v7.Hg(h:v7 V q L t):LO q L.ev L.el:=by
 let⟨c,_,a⟩:=h.ph;exact a.Hg
def JI.say{l r n:Int}(h:JI V q L t)(j:q≠7)(k:¬(l=0/\(r=q\/r=7))):JI V q (L.say t l r n) t:=by
 let⟨⟨_,_,_,_,_,_,_⟩,⟨i,⟨c,f,g⟩,d⟩⟩:=h;have ne:∀b:Nat,(L.tk t).c=b->c=b:=ω
 have e:¬Gate q ⟨L.now,(L.tk t).c,l,r,n⟩:=k;have h:∀b,Ms q L.ev L.el b->Ms q (upd L.ev L.el ⟨L.now,(L.tk t).c,l,r,n⟩) (L.el+1) b:=λb z=>z.say (.inr λy=>z.n1 (ne b y▸g));have h:∀b,zD q L.ev L.el b->zD q (upd L.ev L.el ⟨L.now,(L.tk t).c,l,r,n⟩) (L.el+1) b:=λb z=>z.say (.inl e);have e:∀b a,Fj q L.ev L.el b a->Fj q (upd L.ev L.el ⟨L.now,(L.tk t).c,l,r,n⟩) (L.el+1) b a:=λb a z=>z.say (.inr λy=>zD.n2 (ne b y▸g) j z);refine⟨?_,i,⟨c,f,h c g⟩,λz=>⟨(d z).1,(d z).2.1,h t (d z).2.2⟩⟩;constructor<;>simp only[LS.say]<;>grind [Fst.say,yE]
def JI.aO{g:Gt}(h:JI V q L t):JI V q (L.aO k g) t:=⟨⟨h.1.nc,h.1.tk,h.1.ag,h.1.fr,h.1.wt,h.1.en,h.1.fs⟩,h.2.tl,h.2.ph,h.2.ow⟩
def JC.ZY{x:Ot}{a:Nat}(h:JC V q L)(b:x.c=(L.tk a).c/\x.p=(L.tk a).p/\x.e=(L.tk a).e/\x.w=(L.tk a).w):JC V q {L with tk:=upd L.tk a x}:=by
 cases h;constructor<;>simp only[upd]<;>grind
def JI.ZY{x:Ot}{a:Nat}(h:JI V q L t)(b:x.c=(L.tk a).c/\x.p=(L.tk a).p/\x.e=(L.tk a).e/\x.w=(L.tk a).w):JI V q {L with tk:=upd L.tk a x} t:=by
 let⟨h,d,⟨c,_,a⟩,_⟩:=h;exact⟨h.ZY b,d,⟨c,by simp only[upd];grind,a⟩,by simp only[upd];grind⟩
def JC.pop(h:JC V q L):JC V q (L.pop i):=by
 cases h;constructor<;>simp only[LS.pop,upd]<;>grind
def JC.fix{z:Int}(h:JC V q L)(a:z≠0)(a:NB b):JC V q (L.fix w z b):=by
 cases h;constructor<;>simp only[LS.fix,LS.put,upd]<;>grind
def JC.qA{z:Int}(h:JC V q L)(a:z≠0)(c:NB b):JC V q (L.qA w z b):=by
 unfold LS.qA;split
 .exact h.fix a c
 .exact h
def JI.fix{z:Int}(h:JI V q L t)(a:z≠0)(c:NB b):JI V q (L.fix w z b) t:=⟨h.1.fix a c,h.2.tl,h.2.ph,λy=>by
 have:=h.1.nc;have:=h.2.ow y;simp only[LS.fix,LS.put,upd];grind⟩
def JI.AG:∀(a:aN)(L:LS),JI V q L t->JI V q (a.foldl LS.jv L) t
 |[],L,h=>h
 |j::a,L,h=>JI.AG a (L.jv j) (by
  unfold LS.jv LS.qA;split
  .exact h
  .split
   .exact h.fix δ NB.nil
   .exact h)
def JI.Aj:∀(a:aN)(L:LS),JI V q L t->JI V q (a.foldl LS.iC L) t
 |[],L,h=>h
 |j::a,L,h=>JI.Aj a (L.iC j) (by
  unfold LS.iC;split
  .exact h
  .exact h.ZY ⟨rfl,rfl,rfl,rfl⟩)
def JI.wait{l d:Int}{cb:Bool}(h:JI V q L t):JC V q (L.wait t l d cb):=by
 have:=NB.nil (x:=0) (y:=0);let⟨h,_,_,a⟩:=h;cases h;constructor<;>simp only[LS.wait,LS.cB,LS.put,upd]<;>(try grind)<;>(intro x _;by_cases x=L.wl<;>simp_all<;>grind)
def JC.nH(h:JC V q L)(a:(L.tk t).c=c)(a:zD q L.ev L.el c):JC V q (L.begin t w k):=by
 cases h;constructor<;>simp only[LS.begin,LS.put,upd]<;>grind [Int.natCast_inj]
def JC.bV(h:JC V q L)(b:w<L.wl)(a:(L.wt w).t=t)(a:(L.wt w).e=false):JC V q (L.bV t w)/\(t<V.nc->(L.ag t).o=true/\zD q L.ev L.el t):=by
 refine⟨?_,?_⟩
 .cases h;constructor<;>simp only[LS.bV,upd]<;>grind
 .have:=h.fr t;have:=h.wt w b;grind
def JC.tH(h:JC V q L)(a:NB b):JC V q {L with wt:=upd L.wt w {L.wt w with b:=b}}:=by
 cases h;constructor<;>simp only[upd]<;>grind
def JC.out(h:JC V q L)(a:yE q L.ev L.el t L.now b):JC V q (LS.done {L with ou:=upd L.ou t ⟨L.now,b⟩} t):=by
 cases h;constructor<;>simp only[LS.done,upd]<;>grind
def JC.done(h:JC V q L)(a:¬t<V.nc):JC V q (L.done t):=by
 cases h;constructor<;>simp only[LS.done,upd]<;>grind
def JC.gate{r:Int}(h:JC V q L)(A:Ah V q L t)(c:q≠7)(c:q≠1)(c:r=q\/r=7/\LO q L.ev L.el):JC V q (L.say t 0 r 0)/\(r=q->zD q (L.say t 0 r 0).ev (L.say t 0 r 0).el t)/\(r=7->Fj q (L.say t 0 r 0).ev (L.say t 0 r 0).el t L.now):=by
 let⟨g,_,c,d⟩:=A;let⟨_,c,_,_,_,_,_⟩:=h;have f:=(c t ω).1 g;have no:=Fi (q:=q) (c:=t) (vv:=L.ev) L.el d.1;have c:∀c,c≠t->Ms q L.ev L.el c->Ms q (upd L.ev L.el ⟨L.now,(L.tk t).c,0,r,0⟩) (L.el+1) c:=λc f z=>z.say (.inr (by simp only;omega));have h:∀c,c≠t->zD q L.ev L.el c->zD q (upd L.ev L.el ⟨L.now,(L.tk t).c,0,r,0⟩) (L.el+1) c:=λc f z=>z.say (.inr (by simp only;omega));have g:∀c a,c≠t->Fj q L.ev L.el c a->Fj q (upd L.ev L.el ⟨L.now,(L.tk t).c,0,r,0⟩) (L.el+1) c a:=λc a f z=>z.say (.inr (by simp only;omega));have f:=d.n1;have f:=λa=>d.n2 (a:=a);have d:∀c a b,yE q L.ev L.el c a b->yE q (upd L.ev L.el ⟨L.now,(L.tk t).c,0,r,0⟩) (L.el+1) c a b:=λc a b z=>by
  have:=h c;have:=g c a;unfold yE at*;by_cases e:c=t
  .subst e;grind
  .grind
 refine⟨?_,λz=>?_,λz=>?_⟩
 .constructor<;>simp only[LS.say]<;>grind [Fst.say]
 .simp only[LS.say,zD];rw[zi];grind [upd,Ms]
 .simp only[LS.say,Fj];rw[zi];grind [upd,Ms]
end
def Cu(V:Ev0)(q:Int)(L:LS)(t k:Nat)(ob:Option Bk):Prop:=t<L.tl/\(∀b,ob=some b->0<k->NB b)/\(t<V.nc->(L.tk t).w<0/\(L.ag t).o=true/\(0<k->zD q L.ev L.el t)/\(k=0->(ob=none->Ms q L.ev L.el t)/\∀b,ob=some b->yE q L.ev L.el t L.now b))
def JL(V:Ev0)(q:Int)(cur:Option (Nat×Nat×Option Bk))(L:LS):Prop:=JC V q L/\(aau (L.gt 0)->LO q L.ev L.el)/\∀t k ob,cur=some (t,k,ob)->Cu V q L t k ob
section
variable{L:LS}{w:Nat}
def Cu.ins(h:JC V q L)(C:Cu V q L t k ob)(f:mC V L t)(e:0<k):JI V q L t:=by
 let⟨a,_,g⟩:=C;let⟨c,b,_⟩:=f.c;have d:=h.tk t a;refine⟨h,a,⟨c,b,?_⟩,χ⟩;by_cases z:t<V.nc
 .have:c=t:=ω
  subst this;exact(g z).2.2.1 e
 .exact d.2.2 ω c b
def JL.go(h:JI V q L t)(a:∀b,ob=some b->NB b)(c:k=0->ob≠none):JL V q (some (t,k,ob)) L:=by
 refine⟨h.1,λ_=>h.2.Hg,λ_ _ _ e=>?_⟩;cases e;have:=h.2.ow;exact⟨h.2.tl,λb z _=>a b z,by unfold yE;grind⟩
def JL.ou(h:JI V q L t)(a:NB b):JL V q (some (t,k,some b)) L:=JL.go h (λ_ e=>by cases e;exact a) (λ_ e=>by cases e)
def JL.err{x:Int}(h:JI V q L t)(a:0<k):JL V q (some (t,k,some (c9 x k 0))) L:=JL.ou h (NB.err λ_=>ω)
def JL.E3(h:JI V q L t):JL V q (some (t,k+1,none)) L:=JL.go h (λ_ e=>by cases e) (λz=>ω)
def JL.non(h:JC V q L)(g:LO q L.ev L.el):JL V q none L:=⟨h,λ_=>g,λ_ _ _ e=>by cases e⟩
def JL.aaz(h:JC V q L)(A:Ah V q L t)(d:q=6\/q=8):JL V q (some (t,0+1,none)) (L.say t 0 q 0):=by
 let⟨c,a,_⟩:=h.gate A (r:=q) ω ω (.inl rfl);refine⟨c,λ_=>(a rfl).Hg,λ_ _ _ e=>?_⟩;cases e;exact⟨ga A.tl c.nc.1,λb e=>(by cases e),λ_=>⟨A.w,A.o,λ_=>a rfl,λz=>by cases z⟩⟩
def JL.ref(h:JC V q L)(A:Ah V q L t)(f:q=6\/q=8)(a:LO q L.ev L.el):JL V q (some (t,0,some (c9 3 0 0))) (L.say t 0 7 0):=by
 let⟨c,_,d⟩:=h.gate A (r:=7) ω ω (.inr ⟨rfl,a⟩);refine⟨c,λ_=>a.say,λ_ _ _ e=>?_⟩;cases e;exact⟨ga A.tl c.nc.1,λb _ z=>ω,λ_=>⟨A.w,A.o,λz=>ω,λ_=>⟨λz=>(by cases z),λb e=>by cases e;exact .inr ⟨d rfl,rfl⟩⟩⟩⟩
def JT(V:Ev0)(q:Int)(t:Nat)(r:LS×Option (Nat×Option Bk)):Prop:=JL V q (r.2.map λq=>(t,q.1,q.2)) r.1
def JI.s{l r n:Int}(h:JI V q L t)(a:(q=6\/q=8)/\¬(l=0/\(r=q\/r=7))):JI V q (L.say t l r n) t:=h.say ω a.2
def JI.aM(h:JI V q L t)(a:q=6\/q=8):JI V q (L.aM t k) t:=by
 unfold LS.aM;split
 .exact h.aO.s ω
 .exact h
def JI.cz(h:JI V q L t):JI V q (L.cz k) t:=by
 unfold LS.cz;split
 .exact h.aO
 .exact h
def JI.mark(h:JI V q L t):JI V q (L.mark t k) t:=h.ZY ⟨rfl,rfl,rfl,rfl⟩
def JI.count(h:JI V q L t)(a:q=6\/q=8):JI V q (L.count y t j b) t:=by
 unfold LS.count;dsimp only
 repeat' split
 all_goals first|exact h|exact h.aO|exact h.aO.s ω
def PM(h:JI V q L t)(a:q=6\/q=8)(a:0<k):JT V q t (L.jg y t k):=by
 unfold LS.jg;split
 .exact JL.err (h.s ω) a
 .exact JL.E3 (h.aO.s ω)
def JC.aO{g:Gt}(h:JC V q L):JC V q (L.aO k g):=⟨h.nc,h.tk,h.ag,h.fr,h.wt,h.en,h.fs⟩
def L7(h:JL V q cur L)(A:Ah V q L t)(a:q=6):JT V q t (L.jg y t 0):=by
 unfold LS.jg;split
 .rename_i z;exact JL.ref h.1 A (.inl a) (h.2.1 (.inl z.1))
 .subst a;exact JL.aaz h.1.aO ⟨A.tl,A.w,A.o,A.ph⟩ (.inl rfl)
def Iv(h:JI V q L t)(a:q=6\/q=8)(b:0<k):JT V q t (L.pass y t k):=by
 unfold LS.pass;split
 .exact JL.err (h.s ω) b
 .split
  .exact JL.err ((h.aM a).s ω) b
  .exact JL.E3 ((h.aM a).cz.mark.s ω)
def JC.ah{r:Int}(h:JC V q L)(A:Ah V q L t)(b:r≠7/\r≠q/\r≠1):JC V q (L.say t 0 r 0)/\Ah V q (L.say t 0 r 0) t:=by
 have c:∀b,Ms q L.ev L.el b->Ms q (upd L.ev L.el ⟨L.now,(L.tk t).c,0,r,0⟩) (L.el+1) b:=λb z=>z.say (.inl (by simp only[Gate];omega));have d:∀b,zD q L.ev L.el b->zD q (upd L.ev L.el ⟨L.now,(L.tk t).c,0,r,0⟩) (L.el+1) b:=λb z=>z.say (.inl (by simp only[Gate];omega));have d:∀b a,Fj q L.ev L.el b a->Fj q (upd L.ev L.el ⟨L.now,(L.tk t).c,0,r,0⟩) (L.el+1) b a:=λb a z=>z.say (.inl (by simp only[Gate];omega));let⟨e,d,b,a⟩:=A;refine⟨?_,e,d,b,c t a⟩;cases h;constructor<;>simp only[LS.say]<;>grind [Fst.say,yE]
def Pa(h:JL V q cur L)(A:Ah V q L t)(c:q=8):JT V q t (L.pass y t 0):=by
 have e:JC V q (L.aM t 0)/\Ah V q (L.aM t 0) t/\(aau ((L.aM t 0).gt 0)->LO q (L.aM t 0).ev (L.aM t 0).el):=by
  unfold LS.aM;split
  .rename_i z;have g:=JC.ah (L:=L.aO 0 ((L.gt 0).turn L.now 2)) (r:=10) h.1.aO ⟨A.tl,A.w,A.o,A.ph⟩ ω;exact⟨g.1,g.2,λ_=>(h.2.1 (.inr ω)).say⟩
  .exact⟨h.1,A,h.2.1⟩
 unfold LS.pass;split
 .rename_i z;exact JL.ref h.1 A (.inr c) (h.2.1 (.inr ω))
 .generalize L.aM t 0=M at*;let⟨d,a,f⟩:=e;split
  .rename_i z;exact JL.ref d a (.inr c) (f (.inr ω))
  .subst c;have b:JC V 8 (M.cz 0)/\Ah V 8 (M.cz 0) t:=by
    unfold LS.cz;split
    .exact⟨d.aO,a.tl,a.w,a.o,a.ph⟩
    .exact⟨d,a⟩
   generalize M.cz 0=i at*;exact JL.aaz (L:=i.mark t 0) (b.1.ZY ⟨rfl,rfl,rfl,rfl⟩) ⟨b.2.tl,by simp[LS.mark,upd,b.2.w],b.2.o,b.2.ph⟩ (.inr rfl)
def Zy(h:JI V q L t)(a:q=6\/q=8)(b:0<k):JT V q t (L.take y t k):=by
 have a:JI V q (L.say t k 12 0) t:=h.s ω;unfold LS.take;split
 .exact JL.E3 (h.aO.s ω)
 .split
  .exact JL.err (h.s ω) b
  .split
   .exact JL.err (a.s ω) b
   .exact JL.non a.wait a.2.Hg
def Pn(h:JI V q L t)(a:q=6\/q=8)(a:0<k):JT V q t (L.uX y t k):=by
 unfold LS.uX;split
 .exact JL.err (h.s ω) a
 .let⟨c,b,a⟩:=h.2.ph;exact JL.non (JC.nH h.wait (c:=c) (by simp[LS.wait,LS.cB,LS.put,upd,b]) a) a.Hg
def aag(x:Lm):NB (cN x):=by
 unfold cN NB c9;grind
def KM(h:JI V q L t)(b:q=6\/q=8):JT V q t (L.step V t V.nl none):=by
 unfold LS.step;simp only[if_true];have G:∀u n,JI V q (LS.say {L with us:=u} t (-1) 1 n) t:=λu n=>JI.s (L:={L with us:=u}) ⟨⟨h.1.nc,h.1.tk,h.1.ag,h.1.fr,h.1.wt,h.1.en,h.1.fs⟩,h.2.tl,h.2.ph,h.2.ow⟩ ω;split
 .exact JL.ou ((G _ _).s ω) (aag _)
 .refine JL.non (JC.tH (G _ _).wait λx b a=>?_) (G (upd L.us (L.tk t).c.toNat (L.us (L.tk t).c.toNat+1)) (L.us (L.tk t).c.toNat)).2.Hg;rcases ak.1 b with z|z
  .subst z;cases a
  .exact aag _ x z a
def aam(h:JL V q cur L)(C:Cu V q L t (L.tk t).p (some b)):JL V q none (L.end_ t b):=by
 let⟨i,g,f⟩:=C;let⟨d,j,k⟩:=h.1.tk t i;unfold LS.end_;split
 .rename_i a;have c:=j a;rw[(d c).1,mY];exact⟨h.1.out (((f c).2.2.2 a).2 b rfl),h.2.1,λ_ _ _ e=>by cases e⟩
 .rename_i a;refine⟨JC.done (h.1.qA δ (g b rfl ω)) λz=>a (d z).2,?_,λ_ _ _ e=>by cases e⟩;unfold LS.qA;split<;>exact h.2.1
def I4(h:JI V q L t)(a:q=6\/q=8)(a:NB b):JT V q t (L.fC t j,some (j,some b)):=by
 have G:JI V q (L.say t j 14 0) t:=h.s ω;unfold LS.fC;split
 .exact JL.ou (G.fix δ NB.nil) a
 .exact JL.ou G.aO a
def GQ(V:Ev0)(q:Int):Prop:=0<V.nl/\((V.ly 0).k=3/\q=6\/(V.ly 0).k=4/\q=8)
def ZA(H:GQ V q)(h:JL V q (some (t,k,ob)) L)(p:∀u,u<L.tl->mC V L u)(x:k<=V.nl)(w:(L.tk t).p<=k):JT V q t (L.step V t k ob):=by
 have C:=h.2.2 t k ob rfl;let⟨n,l⟩:=H;have c:q=6\/q=8:=ω
 have d:=Cu.ins h.1 C (p t C.1);cases ob with
 |none=>
  by_cases e:k=V.nl
  .subst e;exact KM (d n) c
  .by_cases r:k=0
   .subst r;have m:=(h.1.tk t C.1).2.1 ω;let⟨v,s,_,c3⟩:=C.2.2 m;have A:Ah V q L t:=⟨m,v,s,(c3 rfl).1 rfl⟩;unfold LS.step;simp only[af e];rcases l with ⟨i,g⟩|⟨i,g⟩
    .rw[af ω,sJ i];exact L7 h A g
    .rw[af ω,af ω,sJ i];exact Pa h A g
   .have a:0<k:=ω
    have I:=d a;unfold LS.step;simp only[af e]
    repeat' split
    .exact JL.E3 (I.ZY ⟨rfl,rfl,rfl,rfl⟩)
    .exact PM I c a
    .exact Iv I c a
    .exact Zy I c a
    .exact Pn I c a
    .exact JL.E3 I
 |some b=>
  unfold LS.step;dsimp only;split
  .rename_i e;subst e;exact aam h C
  .obtain⟨j,rfl⟩:∃j,k=j+1:=⟨k-1,ω⟩
   have I:=d (Nat.succ_pos _);have f:=C.2.1 b rfl (Nat.succ_pos _);rw[eM];split
   .have o:0<j:=Nat.pos_of_ne_zero λe=>by subst e;omega
    split
    .exact JL.ou I f
    .split
     .exact JL.ou (I.s ω) (by unfold NB at*;grind)
     .have G:JI V q {L.say t j 3 (aI (V.ly j) ((L.tk t).a j))with tk:=upd (L.say t j 3 (aI (V.ly j) ((L.tk t).a j))).tk t {(L.say t j 3 (aI (V.ly j) ((L.tk t).a j))).tk t with a:=upd ((L.say t j 3 (aI (V.ly j) ((L.tk t).a j))).tk t).a j ((L.tk t).a j+1)}} t:=(I.s ω).ZY ⟨rfl,rfl,rfl,rfl⟩;split
      .exact JL.err (G.s ω) o
      .split
       .exact JL.non G.wait G.2.Hg
       .exact JL.E3 G
   .repeat' split
    .exact JL.ou (I.count c) f
    .exact I4 I c f
    .exact JL.ou (I.s ω) (NB.err λz=>by cases z)
    .exact JL.ou I f
def aaB(H:GQ V q):Xb V (JL V q) where
 step:=λt k ob L h _ n B A=>ZA H h n B A
 start:=λi t L h d r a m=>by
  refine⟨h.1.pop,h.2.1,λ_ _ _ e=>?_⟩;cases e;let⟨A,B⟩:=qI _ _ _ r;have:=h.1.ag i A m t a;have:=h.1.fr i;have:=h.1.tk i;refine⟨d,λb e=>(by cases e),?_⟩;simp only[LS.pop,upd];grind
 late:=λi w L h _ _ _ _=>⟨h.1.pop,h.2.1,λ_ _ _ e=>by cases e⟩
 JQ:=λi t w L k ob L' h n d m b r a a a r S O=>by
  have b:q=6\/q=8:=by have:=H.2;omega
  let⟨b,own⟩:=JC.bV (L:=L.pop i) (t:=t) (w:=w) h.1.pop m a r;have f:=(b.wt w m).1;let⟨c,a,_⟩:=(n t d).c;have s:(((L.pop i).bV t w).tk t).c=c:=by simp[LS.bV,LS.pop,upd,a]
  have o:=b.tk t d;have I:JI V q ((L.pop i).bV t w) t:=⟨b,d,⟨c,s,by
   by_cases z:t<V.nc
   .have:c=t:=ω
    subst this;exact(own z).2
   .exact o.2.2 ω c s⟩,λz=>⟨by simp[LS.bV,upd],own z⟩⟩
  have kd:∀k:Nat,(V.ly k).k=1\/(V.ly k).k=5\/(V.ly k).k=6->0<k:=λk z=>Nat.pos_of_ne_zero λe=>by subst e;have:=H.2;omega
  generalize (L.pop i).bV t w=M at*;rcases O with ⟨_,a,y,ch,u,rfl,rfl,rfl⟩|⟨v,ok,ol,⟨_,j,rfl,rfl,rfl⟩|⟨_,a,rfl,rfl,rfl⟩|⟨l,_,rfl,rfl,rfl⟩|⟨l,_,rfl,rfl,rfl⟩|⟨p,_,rfl,rfl,g,of,rfl⟩|⟨p,a,rfl,rfl,rfl⟩⟩
  .exact JL.ou (I.s ω) λx a=>f x (by rw[u];exact aP _ a)
  .exact JL.err (I.s ω) (kd k j)
  .exact JL.E3 I
  .have:=kd k (.inr (.inl l));exact JL.err (I.s ω) this
  .have:=kd v (.inr (.inl l));exact JL.E3 (I.s ω)
  .exact JL.err (JI.AG g _ (JI.Aj g _ (I.s ω))) (kd k (.inr (.inr p)))
  .exact JL.ou I f
def aaP(V:Ev0)(q:Int):JL V q none (ko V):=by
 refine⟨?_,λz=>by rcases z with z|z;cases z;exact absurd rfl z,λ_ _ _ e=>by cases e⟩;constructor<;>simp only[ko,Ms,Fst]<;>grind [zG]
def Xb.and{J l:Option (Nat×Nat×Option Bk)->LS->Prop}{p:Prop}(h:Xb V J)(j:p->Xb V l):Xb V λc L=>J c L/\(p->l c L) where
 step:=λt k ob L a b c d e=>⟨h.step t k ob L a.1 b c d e,λz=>(j z).step t k ob L (a.2 z) b c d e⟩
 start:=λi t L a b c d e=>⟨h.start i t L a.1 b c d e,λz=>(j z).start i t L (a.2 z) b c d e⟩
 late:=λi w L a b c d e=>⟨h.late i w L a.1 b c d e,λz=>(j z).late i w L (a.2 z) b c d e⟩
 JQ:=λi t w L k ob L' a b c d e f g p o n m l=>⟨h.JQ i t w L k ob L' a.1 b c d e f g p o n m l,λz=>(j z).JQ i t w L k ob L' (a.2 z) b c d e f g p o n m l⟩
end
def tv(k:Int)(vv:Nat->OZ):Nat->List Int
 |0=>[]
 |i+1=>if(vv i).l=k/\(vv i).w=6 then tv k vv i++[(vv i).a]else tv k vv i
def RtL(y:ju)(A:List Int)(now:Int)(sm:Bool)(nx:Int):Prop:=∀j,j<A.length->sm=true/\A.getD j 0<=now/\A.getD j 0+y.a*((A.length:Int)-j)<=nx/\∀i,i<=j->A.getD i 0<=A.getD j 0/\((j:Int)-i+1-y.b)*y.a<=A.getD j 0-A.getD i 0
structure JR(V:Ev0)(L:LS):Prop where
 b:∀i,i<L.el->0<=(L.ev i).a/\(L.ev i).a<1000000000000
 n:∀i,i<L.al->(L.ag i).o=false->L.now<=(L.ag i).a
 r:∀k,k<V.nl->(V.ly k).k=3->RtL (V.ly k) (tv k L.ev L.el) L.now (L.gt k).sm (L.gt k).nx
section
variable{L:LS}{w:Nat}
def JB:∀n,n<=el->tv x (upd vv el e) n=tv x vv n
 |0,_=>rfl
 |n+1,h=>by
  have a:n≠el:=ω
  simp only[tv,JB n (by omega:n<=el),upd,af a]
def aai:tv x (upd vv el e) (el+1)=if e.l=x/\e.w=6 then tv x vv el++[e.a]else tv x vv el:=by
 simp only[tv,JB el (az _),upd,if_true]
def RtL.mono(h:RtL y A now sm nx)(a:now<=aat):RtL y A aat sm nx:=λj a=>by
 have:=h j a;grind
def RtL.add(h:RtL y A now sm nx)(f:1<=y.a)(f:¬(sm=true/\nx-now>(y.b-1)*y.a))(f:1<=y.b):RtL y (A++[now]) now true ((if sm=false\/nx<now then now else nx)+y.a):=by
 have c:∀i,i<A.length->(A++[now]).getD i 0=A.getD i 0:=λi b=>by simp[nO b]
 have a:(A++[now]).getD A.length 0=now:=ψ
 have f:0<=(y.b-1)*y.a:=YE ω ω;intro j d;simp only[YA,List.length_singleton]at d ⊢;by_cases e:j=A.length
 .subst e;rw[a];refine⟨by trivial,Int.le_refl _,by split<;>grind,λi b=>?_⟩;by_cases e:i=A.length
  .subst e;rw[a];grind
  .rw[c i ω];have:=h i ω;grind
 .have a:j<A.length:=ω
  have:=h j a;rw[c j a];refine⟨by trivial,this.2.1,by split<;>grind,λi b=>?_⟩;rw[c i ω];exact this.2.2.2 i b
def JR.same(h:JR V L)(e:L'.ev=L.ev/\L'.el=L.el/\L'.gt=L.gt/\L'.now=L.now)(a:∀i,i<L'.al->(L'.ag i).o=false->L.now<=(L'.ag i).a):JR V L':=by
 let⟨d,c,b,a⟩:=e;let⟨_,_,e⟩:=h;refine⟨?_,?_,?_⟩<;>simp only[d,c,b,a]<;>assumption
def JR.jz{f:LS->LS}(h:JR V L)(e:(f L).ev=L.ev/\(f L).el=L.el/\(f L).gt=L.gt/\(f L).now=L.now)(b:∀i,i<(f L).al->(f L).ag i=L.ag i/\i<L.al\/L.now<=((f L).ag i).a):JR V (f L):=
 h.same e λi a c=>by
  have:=h.n i;have:=b i a;grind
def JR.say{l r n:Int}(h:JR V L)(a:0<=L.now/\L.now<1000000000000)(b:r=6->∀k:Nat,l=k->(V.ly k).k≠3):JR V (L.say t l r n):=by
 refine⟨λi a=>?_,h.n,λk c a=>?_⟩
 .have:=h.b i;simp only[LS.say,upd]at*;grind
 .have:=h.r k c a;simp only[LS.say,aai];rwa[af λz=>b z.2 k z.1 a]
def JR.uw{r n:Int}(h:JR V L)(a:0<=L.now/\L.now<1000000000000)(b:r=6->(V.ly k).k≠3):JR V (L.say t k r n):=h.say a λz j e=>by
 have:j=k:=ω
 subst this;exact b z
def JR.aO{g:Gt}(h:JR V L)(a:(V.ly k).k=3->g.sm=(L.gt k).sm/\g.nx=(L.gt k).nx):JR V (L.aO k g):=⟨h.b,h.n,λj a b=>by
 have:=h.r j a b;simp only[LS.aO,upd];grind⟩
def Vz(h:JR V L)(l:wM V)(d:0<=L.now/\L.now<1000000000000)(f:k<V.nl)(m:(V.ly k).k=3):JR V (L.jg (V.ly k) t k).1:=by
 have b:=l.ra k f m;unfold LS.jg;split
 .exact h.uw d ω
 .rename_i g;refine⟨λi n=>?_,h.n,λj a c=>?_⟩
  .have:=h.b i;simp only[LS.say,LS.aO,upd]at*;grind
  .have a:=h.r j a c;simp only[LS.say,LS.aO,aai,upd];by_cases e:j=k
   .subst e;simp only[if_true,and_self];exact a.add b.1.1 g b.2.1
   .rw[af ω,af e];exact a
def aac(h:JR V L)(a:0<=L.now/\L.now<1000000000000)(c:(V.ly k).k=4):JR V (L.pass (V.ly k) t k).1:=by
 have d:JR V (L.aM t k)/\(L.aM t k).now=L.now:=by
  unfold LS.aM;split
  .exact⟨JR.uw (L:=L.aO k _) (h.aO λz=>ω) a ω,rfl⟩
  .exact⟨h,rfl⟩
 unfold LS.pass;split
 .exact h.uw a ω
 .generalize L.aM t k=M at*;let⟨c,e⟩:=d;rw[<-e]at a;split
  .exact c.uw a ω
  .have b:JR V (M.cz k)/\(M.cz k).now=M.now:=by
    unfold LS.cz;split
    .exact⟨c.aO λz=>ω,rfl⟩
    .exact⟨c,rfl⟩
   generalize M.cz k=f at*;rw[<-b.2]at a;exact JR.uw (L:=f.mark t k) (b.1.same ⟨rfl,rfl,rfl,rfl⟩ b.1.n) a ω
def RO(h:JR V L)(a:0<=L.now/\L.now<1000000000000)(c:(V.ly j).k=4):JR V (L.count y t j b):=by
 have g:∀g,JR V (L.aO j g):=λg=>h.aO λz=>ω
 have b:∀g r,r≠6->JR V ((L.aO j g).say t j r 0):=λq r z=>(g q).uw a λy=>absurd y z;unfold LS.count;dsimp only
 repeat' split
 all_goals first|exact h|exact g _|exact b _ _ δ
def JR.fix{z:Int}(h:JR V L):JR V (L.fix w z b):=h.jz (f:=λL=>L.fix w z b) ⟨rfl,rfl,rfl,rfl⟩ λi a=>by
 simp only[LS.fix,LS.put,upd]at*;grind
def JR.qA{z:Int}(h:JR V L):JR V (L.qA w z b):=by
 unfold LS.qA;split
 .exact h.fix
 .exact h
def JR.AG:∀(a:aN)(L:LS),JR V L->JR V (a.foldl LS.jv L)
 |[],L,h=>h
 |j::a,L,h=>JR.AG a (L.jv j) (by
  unfold LS.jv;split
  .exact h
  .exact h.qA)
def JR.Aj:∀(a:aN)(L:LS),JR V L->JR V (a.foldl LS.iC L)
 |[],L,h=>h
 |j::a,L,h=>JR.Aj a (L.iC j) (by
  unfold LS.iC;split
  .exact h
  .exact h.same ⟨rfl,rfl,rfl,rfl⟩ h.n)
def JR.wait{l d:Int}{cb:Bool}(h:JR V L)(a:0<=d):JR V (L.wait t l d cb):=h.jz (f:=λL=>L.wait t l d cb) ⟨rfl,rfl,rfl,rfl⟩ λi a=>by
 simp only[LS.wait,LS.cB,LS.put,upd]at*;grind
def aab(h:JR V L)(a:wM V)(S:qm V t L)(T:mC V L t)(d:k<=V.nl)(d:(L.tk t).p<=k):JR V (L.step V t k ob).1:=by
 have U:=S.now;have s:∀(r n:Int)(k:Nat),r≠6->JR V (L.say t k r n):=λr n k z=>h.uw U λy=>absurd y z;cases ob with
 |none=>
  unfold LS.step;dsimp only;split
  .have e:∀u r n,r≠6->JR V (LS.say {L with us:=u} t (-1) r n):=λu r n z=>JR.say (L:={L with us:=u}) (h.same ⟨rfl,rfl,rfl,rfl⟩ h.n) U λy=>absurd y z;let⟨c,f,d⟩:=T.c;rw[f,mY];have f:0<=(aU V c (L.us c).toNat).t:=by
    unfold aU;split
    .exact(a.tr c d _ ‹_›).2.1
    .exact Int.le_refl 0
   split
   .exact(e _ _ _ δ).say U ω
   .have d:=JR.wait (t:=t) (l:=V.nl) (d:=(aU V c (L.us c).toNat).t) (cb:=false) (e (upd L.us c (L.us c+1)) 1 (L.us c) δ) f;exact d.same ⟨rfl,rfl,rfl,rfl⟩ d.n
  .unfold LS.take LS.uX;have g:∀r g,(V.ly k).k=5->JR V ((L.aO k g).say t k r 0):=λr g z=>JR.uw (L:=L.aO k g) (h.aO λy=>ω) U ω
   repeat' split
   .exact h.same ⟨rfl,rfl,rfl,rfl⟩ h.n
   .exact Vz h a U ω (by assumption)
   .exact aac h U (by assumption)
   .exact g _ _ (by assumption)
   .exact s _ _ _ δ
   .exact(s 12 0 k δ).uw U ω
   .exact(s 12 0 k δ).wait (a.ro k ω (by assumption)).2.1
   .exact s _ _ _ δ
   .have d:=JR.wait (t:=t) (l:=k) (d:=(V.ly k).a) (cb:=true) h (by have:=a.li k ω (by assumption);omega);exact d.jz (f:=λM=>M.begin t L.wl k) ⟨rfl,rfl,rfl,rfl⟩ λi a=>by
     simp only[LS.begin,LS.put,upd]at*;grind
   .exact h
 |some b=>
  unfold LS.step;dsimp only;split
  .unfold LS.end_;split
   .exact h.same ⟨rfl,rfl,rfl,rfl⟩ h.n
   .exact h.qA.same ⟨rfl,rfl,rfl,rfl⟩ h.qA.n
  .obtain⟨j,rfl⟩:∃j,k=j+1:=⟨k-1,ω⟩
   rw[eM];have b:=s 3 (aI (V.ly j) ((L.tk t).a j)) j δ;have a:=λx=>b.same (L':={L.say t j 3 (aI (V.ly j) ((L.tk t).a j))with tk:=x}) ⟨rfl,rfl,rfl,rfl⟩ b.n;split
   .repeat' split
    .exact h
    .exact s _ _ _ δ
    .exact JR.uw (a _) U ω
    .exact(a _).wait ω
    .exact a _
   .split
    .exact RO h U (by assumption)
    .unfold LS.fC
     repeat' split
     .exact(s 14 0 j δ).fix
     .exact(s 14 0 j δ).aO λz=>ω
     .exact s _ _ _ δ
     .exact h
def Bu(a:Nat->qy):∀n,cj a n=-1->∀j,j<n->(a j).o=true
 |0,h,j,b=>ω
 |n+1,h,j,b=>by
  have:=Bu a n;unfold cj at h;grind
def Cf(a:Nat->qy):∀n (i:Nat),cj a n=i->∀j,j<n->(a j).o=false->(a i).a<=(a j).a
 |0,i,h,j,f,b=>ω
 |n+1,i,h,j,f,b=>by
  have:=Cf a n;have c:=rS a n;unfold cj at h;split at h
  .rename_i z;have:i=n:=ω
   subst this;by_cases e:j=i
   .subst e;exact Int.le_refl _
   .rcases c with c|⟨k,g,d⟩
    .exfalso;have:=Bu a i c j ω;rw[b]at this;cases this
    .have:=this k d j ω b;rw[d]at z;simp only[mY]at z;omega
  .rename_i z;by_cases e:j=n
   .subst e;rw[h]at z;simp only[mY]at z;have:¬((a j).a<(a i).a):=λy=>z ⟨b,.inr y⟩;omega
   .exact this i h j ω b
def JR.pop(h:JR V L)(a:cj L.ag L.al=i):JR V (L.pop i):=by
 let⟨c,b⟩:=qI _ _ _ a;have d:=Cf _ _ _ a;refine⟨h.b,λj e a=>?_,λk a f=>(h.r k a f).mono (h.n i c b)⟩;have:=d j e;simp only[LS.pop,upd]at*;grind
def aaA(e:wM V):Xb V (λ_=>JR V) where
 step:=λt k ob L h S T d b=>aab h e S (T t S.tn) d b
 start:=λi t L h _ b _ _=>h.pop b
 late:=λi w L h b _ _ _=>h.pop b
 JQ:=λi t w L k ob L' h d d d d b d d d d S O=>by
  have d:=h.pop b;have a:JR V ((L.pop i).bV t w):=d.same ⟨rfl,rfl,rfl,rfl⟩ d.n;generalize (L.pop i).bV t w=M at*;rcases O with ⟨_,b,y,ch,b,rfl,rfl,rfl⟩|⟨b,ok,ol,⟨_,b,rfl,rfl,rfl⟩|⟨_,b,rfl,rfl,rfl⟩|⟨b,_,rfl,rfl,rfl⟩|⟨b,_,rfl,rfl,rfl⟩|⟨b,_,rfl,rfl,c,of,rfl⟩|⟨b,b,rfl,rfl,rfl⟩⟩
  .exact a.say S.now ω
  .exact a.uw S.now ω
  .exact a
  .exact a.uw S.now ω
  .exact a.uw S.now ω
  .exact JR.AG c _ (JR.Aj c _ (a.uw S.now ω))
  .exact a
def aaO(b:wM V):JR V (ko V):=⟨λi a=>absurd a (uk _),λi a _=>(b.st i a).1,λk _ _ j a=>absurd a (uk _)⟩
end
abbrev oG(L:oF)(i:Nat):List Value:=[i6 (L i 0),i6 (L i 1),i6 (L i 2),i6 (L i 3),i6 (L i 4),i6 (L i 5)]
def iI(F:aB prog D (DX Q) Y)(o:HB B Q){w:aj}(n lo d:Int)(m:Sat Q w M)(a:B<=w.heap.size)(K:∀w',Sat Q w' M->w.heap.size<=w'.heap.size->Y (G (O.finish (.bool (eB lo n d))) J) w'):Y (G (Frame.enter prog 57 #[i6 lo,i6 n,i6 d] .normal) (O::J)) w:=by
 by_cases p:lo<=n
 .have j:decide (lo<=n)=true:=ξ
  refine cJ func57 m 15 λW r s q b c a l h=>ZI F o b c a l 16 [] 126 [] 6 (.bool (decide (n<=d))) 16 1 [] [] [(decide (lo<=n),true)] [] [] λf k g i=>?_;have e:eB lo n d=decide (n<=d):=by unfold eB;simp[p]
  rw[e]at K;exact K f k.sat ω
 .have j:decide (lo<=n)=false:=ξ
  refine cJ func57 m 15 λW r s q b c a l h=>ZI F o b c a l 16 [] 84 [] 6 (.bool false) 16 1 [] [] [(decide (lo<=n),false)] [] [] λf k g i=>?_;have e:eB lo n d=false:=by unfold eB;simp[p]
  rw[e]at K;exact K f k.sat ω
def F8(F:aB prog D (DX Q) Y)(h:HB B Q){w:aj}(k a b c d e:Int)(hS:Sat Q w M)(yQ:B<=w.heap.size)(K:∀w',Sat Q w' M->w.heap.size<=w'.heap.size->Y (G (O.finish (.bool (aF k a b c d e))) J) w'):Y (G (Frame.enter prog 40 #[.agg #[i6 k,i6 a,i6 b,i6 c,i6 d,i6 e]] .normal) (O::J)) w:=by
 by_cases k1:k=1
 .subst k1;refine cJ func40 hS 79 λW a0 p hn f g l R N=>aq (λM=>bR (p) [i6 1,i6 a,i6 b,i6 c,i6 d,i6 e]::(M)) 1 F h f l R 22 [0,0,0,2] 7 [] [(8,i6 a),(1,ptr p)] 22 3 [] λa1 w1 t s L P o9=>j5 F f s t 9 57 #[i6 1,i6 a,i6 9] λyS i=>iI F h a 1 9 t.sat ω λw2 h2 yP=>i _ _ _ h2 λa2 B2 y j Z=>?_;cases m:eB 1 a 9<;>rw[m]at y
  .refine UF F h f g j y 17 [] 349525 [] 2 (.bool false) 40 3 [] λI q u v=>?_;rw[show aF 1 a b c d e=false by simp[aF,m]]at K;exact K I q.sat.tail ω
  refine Rb F h f j y 3 [0,0,2,1] 31 [] [(12,i6 b),(10,.bool true),(1,ptr p)] 26 3 [] λa3 I q C u v mH=>j5 F f C q 13 57 #[i6 0,i6 b,i6 1000] λDl o=>iI F h b 0 1000 q.sat ω λw4 h4 FO=>o _ _ _ h4 λa4 B4 E n Bj=>?_;cases r:eB 0 b 1000<;>rw[r]at E
  .refine UF F h f g n E 13 [] 5461 [] 2 (.bool false) 40 3 [] λH x z A=>?_;rw[show aF 1 a b c d e=false by simp[aF,m,r]]at K;exact K H x.sat.tail ω
  refine Rb F h f n E 4 [0,0,3,1] 31 [] [(17,i6 c),(15,.bool true),(1,ptr p)] 31 3 [] λa5 H x Yv z A qO=>j5 F f Yv x 18 57 #[i6 1,i6 c,i6 9] λcf5 V=>iI F h c 1 9 x.sat ω λw6 h6 Hf=>V _ _ _ h6 λa6 B6 S6 T YG=>?_;cases X:eB 1 c 9<;>rw[X]at S6
  .refine UF F h f g T S6 8 [] 85 [] 2 (.bool false) 40 3 [] λw7 S7 OD YQ=>?_;rw[show aF 1 a b c d e=false by simp[aF,m,r,X]]at K;exact K w7 S7.sat.tail ω
  refine Rb F h f T S6 4 [0,0,4,1] 31 [] [(22,i6 d),(20,.bool true)] 36 3 [] λa7 w7 S7 CI OD YQ DJ=>j5 F f CI S7 23 57 #[i6 0,i6 d,i6 10000] λRU U=>iI F h d 0 10000 S7.sat ω λw8 h8 IV=>U _ _ _ h8 λa8 B8 S8 S FN=>?_;cases q4:eB 0 d 10000<;>rw[q4]at S8
  .refine UF F h f g S S8 3 [] 1 [] 2 (.bool false) 40 3 [] λw9 S9 Tl He=>?_;rw[show aF 1 a b c d e=false by simp[aF,m,r,X,q4]]at K;exact K w9 S9.sat.tail ω
  refine UF F h f g S S8 3 [] 1 [] 2 (.bool true) 40 3 [] λw9 S9 Tl He=>?_;rw[show aF 1 a b c d e=true by simp[aF,m,r,X,q4]]at K;exact K w9 S9.sat.tail ω
 have w:(k==1)=false:=ξ
 by_cases k2:k=2
 .subst k2;refine cJ func40 hS 79 λW a0 p hn f g l R N=>bB (λM=>bR (p) [i6 2,i6 a,i6 b,i6 c,i6 d,i6 e]::(M)) 1 F h f g l R 28 [0,0,0,1] 29 [] 2 (.bool true) 28 6 [] λw1 t L P=>K w1 t.sat.tail ω
 have w:(k==2)=false:=ξ
 by_cases k3:k=3
 .subst k3;refine cJ func40 hS 79 λW a0 p hn f g l R N=>aq (λM=>bR (p) [i6 3,i6 a,i6 b,i6 c,i6 d,i6 e]::(M)) 1 F h f l R 34 [0,0,0,2] 117 [] [(30,i6 a),(1,ptr p)] 34 12 [] λa1 w1 t s L P o9=>j5 F f s t 31 57 #[i6 1,i6 a,i6 1000] λyS i=>iI F h a 1 1000 t.sat ω λw2 h2 yP=>i _ _ _ h2 λa2 B2 y j Z=>?_;cases m:eB 1 a 1000<;>rw[m]at y
  .refine UF F h f g j y 7 [] 85 [] 2 (.bool false) 42 12 [] λI q u v=>?_;rw[show aF 3 a b c d e=false by simp[aF,m]]at K;exact K I q.sat.tail ω
  refine Rb F h f j y 3 [0,0,2,1] 31 [] [(34,i6 b),(32,.bool true)] 38 12 [] λa3 I q C u v mH=>j5 F f C q 35 57 #[i6 1,i6 b,i6 20] λDl o=>iI F h b 1 20 q.sat ω λw4 h4 FO=>o _ _ _ h4 λa4 B4 E n Bj=>?_;cases r:eB 1 b 20<;>rw[r]at E
  .refine UF F h f g n E 3 [] 1 [] 2 (.bool false) 42 12 [] λH x z A=>?_;rw[show aF 3 a b c d e=false by simp[aF,m,r]]at K;exact K H x.sat.tail ω
  refine UF F h f g n E 3 [] 1 [] 2 (.bool true) 42 12 [] λH x z A=>?_;rw[show aF 3 a b c d e=true by simp[aF,m,r]]at K;exact K H x.sat.tail ω
 have w:(k==3)=false:=ξ
 by_cases k4:k=4
 .subst k4;refine cJ func40 hS 79 λW a0 p hn f g l R N=>aq (λM=>bR (p) [i6 4,i6 a,i6 b,i6 c,i6 d,i6 e]::(M)) 1 F h f l R 40 [0,0,0,2] 469 [] [(40,i6 a),(1,ptr p)] 40 24 [] λa1 w1 t s L P o9=>j5 F f s t 41 57 #[i6 1,i6 a,i6 20] λyS i=>iI F h a 1 20 t.sat ω λw2 h2 yP=>i _ _ _ h2 λa2 B2 y j Z=>?_;cases m:eB 1 a 20<;>rw[m]at y
  .refine UF F h f g j y 24 [] 357913941 [] 2 (.bool false) 65 24 [] λI q u v=>?_;rw[show aF 4 a b c d e=false by simp[aF,m]]at K;exact K I q.sat.tail ω
  refine Rb F h f j y 5 [0,0,2,1,0,0,1,1] 511 [] [(46,i6 a),(42,.bool true),(44,i6 b),(1,ptr p)] 46 24 [] λa3 I q C u v mH=>j5 F f C q 47 57 #[i6 1,i6 b,i6 a] λDl o=>iI F h b 1 a q.sat ω λw4 h4 FO=>o _ _ _ h4 λa4 B4 E n Bj=>?_;cases r:eB 1 b a<;>rw[r]at E
  .refine UF F h f g n E 18 [] 349525 [] 2 (.bool false) 65 24 [] λH x z A=>?_;rw[show aF 4 a b c d e=false by simp[aF,m,r]]at K;exact K H x.sat.tail ω
  refine Rb F h f n E 4 [0,0,3,1] 31 [] [(51,i6 c),(49,.bool true),(1,ptr p)] 51 24 [] λa5 H x Yv z A qO=>j5 F f Yv x 52 57 #[i6 1,i6 c,i6 100] λcf5 V=>iI F h c 1 100 x.sat ω λw6 h6 Hf=>V _ _ _ h6 λa6 B6 S6 T YG=>?_;cases X:eB 1 c 100<;>rw[X]at S6
  .refine UF F h f g T S6 13 [] 5461 [] 2 (.bool false) 65 24 [] λw7 S7 OD YQ=>?_;rw[show aF 4 a b c d e=false by simp[aF,m,r,X]]at K;exact K w7 S7.sat.tail ω
  refine Rb F h f T S6 4 [0,0,4,1] 31 [] [(56,i6 d),(54,.bool true),(1,ptr p)] 56 24 [] λa7 w7 S7 CI OD YQ DJ=>j5 F f CI S7 57 57 #[i6 0,i6 d,i6 1000] λRU U=>iI F h d 0 1000 S7.sat ω λw8 h8 IV=>U _ _ _ h8 λa8 B8 S8 S FN=>?_;cases q4:eB 0 d 1000<;>rw[q4]at S8
  .refine UF F h f g S S8 8 [] 85 [] 2 (.bool false) 65 24 [] λw9 S9 Tl He=>?_;rw[show aF 4 a b c d e=false by simp[aF,m,r,X,q4]]at K;exact K w9 S9.sat.tail ω
  refine Rb F h f S S8 4 [0,0,5,1] 31 [] [(61,i6 e),(59,.bool true)] 61 24 [] λw w9 S9 w Tl He B=>j5 F f w S9 62 57 #[i6 1,i6 e,i6 9] λw w=>iI F h e 1 9 S9.sat ω λB B G=>w _ _ _ B λw w yU Zl w=>?_;cases q5:eB 1 e 9<;>rw[q5]at yU
  .refine UF F h f g Zl yU 3 [] 1 [] 2 (.bool false) 65 24 [] λw B G S=>?_;rw[show aF 4 a b c d e=false by simp[aF,m,r,X,q4,q5]]at K;exact K w B.sat.tail ω
  refine UF F h f g Zl yU 3 [] 1 [] 2 (.bool true) 65 24 [] λw B G S=>?_;rw[show aF 4 a b c d e=true by simp[aF,m,r,X,q4,q5]]at K;exact K w B.sat.tail ω
 have w:(k==4)=false:=ξ
 by_cases k5:k=5
 .subst k5;refine cJ func40 hS 79 λW a0 p hn f g l R N=>aq (λM=>bR (p) [i6 5,i6 a,i6 b,i6 c,i6 d,i6 e]::(M)) 1 F h f l R 46 [0,0,0,2] 1877 [] [(67,i6 a),(1,ptr p)] 46 48 [] λa1 w1 t s L P o9=>j5 F f s t 68 57 #[i6 1,i6 a,i6 9] λyS i=>iI F h a 1 9 t.sat ω λw2 h2 yP=>i _ _ _ h2 λa2 B2 y j Z=>?_;cases m:eB 1 a 9<;>rw[m]at y
  .refine UF F h f g j y 7 [] 85 [] 2 (.bool false) 54 48 [] λI q u v=>?_;rw[show aF 5 a b c d e=false by simp[aF,m]]at K;exact K I q.sat.tail ω
  refine Rb F h f j y 3 [0,0,2,1] 31 [] [(71,i6 b),(69,.bool true)] 50 48 [] λa3 I q C u v mH=>j5 F f C q 72 57 #[i6 0,i6 b,i6 1000] λDl o=>iI F h b 0 1000 q.sat ω λw4 h4 FO=>o _ _ _ h4 λa4 B4 E n Bj=>?_;cases r:eB 0 b 1000<;>rw[r]at E
  .refine UF F h f g n E 3 [] 1 [] 2 (.bool false) 54 48 [] λH x z A=>?_;rw[show aF 5 a b c d e=false by simp[aF,m,r]]at K;exact K H x.sat.tail ω
  refine UF F h f g n E 3 [] 1 [] 2 (.bool true) 54 48 [] λH x z A=>?_;rw[show aF 5 a b c d e=true by simp[aF,m,r]]at K;exact K H x.sat.tail ω
 have n:(k==5)=false:=ξ
 by_cases hk:k=6
 .subst hk;refine cJ func40 hS 79 λW a0 p hn f g l R N=>aq (λM=>bR (p) [i6 6,i6 a,i6 b,i6 c,i6 d,i6 e]::(M)) 1 F h f l R 52 [0,0,0,2] 7509 [] [(77,i6 a)] 52 96 [] λa1 w1 t s L P o9=>j5 F f s t 78 57 #[i6 1,i6 a,i6 1000] λyS i=>iI F h a 1 1000 t.sat ω λw2 h2 yP=>i _ _ _ h2 λa2 B2 y j Z=>UF F h f g j y 2 [] 1 [] 2 (.bool (eB 1 a 1000)) 55 96 [] λI q u v=>?_;rw[show aF 6 a b c d e=eB 1 a 1000 by simp[aF]]at K;exact K I q.sat.tail ω
 have i:(k==6)=false:=ξ
 refine cJ func40 hS 79 λW a0 p hn f g l R N=>oH (λM=>bR (p) [i6 k,i6 a,i6 b,i6 c,i6 d,i6 e]::(M)) 1 F h f g l R 54 [0,0,0,1] 4096 [] 2 (.bool false) 54 64 [] [] [(k==6,false),(k==5,false),(k==4,false),(k==3,false),(k==2,false),(k==1,false)] [] [] λw1 t L P=>?_;have e:aF k a b c d e=false:=by simp only[aF,af k1,af k2,af k3,af k4,af k5,af hk]
 rw[e]at K;exact K w1 t.sat.tail ω
def IG(F:aB prog D (DX Q) Y)(d:HB B Q){W:aC}(b:W.kind=.normal)(c:W.fn=41){O:aC}{J:cO}{M:aW}{r:eP}{n h:Nat}{T:oF}(L:n<=12)(k:0<n->∃a,r=some a){B1:Nat}(x:B<=B1):
 ∀(m i:Nat)(p:Act)(w:aj)(B2:Nat),i+m=n->p.defers=[]->B1<=B2->w.heap.size=B2->St Q B2 33 [(18,i6 i),(17,i6 n),(16,.slice r n h)] (fR (r.getD ⟨0,0,none⟩) 3 (λj=>[i6 (T j 0),i6 (T j 1),i6 (T j 2)]) n false::M) 0 p w->
   (∀w',Sat Q w' M->w.heap.size<=w'.heap.size->Y (G (O.finish (.bool (lQ T m i))) J) w')->Y (G (W.at p (pc prog 41 31 [false] [])) (O::J)) w
 |0,i,p,w,B2,N,g,y,t,C,K=>by
  have a:decide ((i:Int)<(n:Int))=false:=θ
  refine ZI F d b c g C 11 [] 4 [] 2 (.bool true) 42 4 [] [] [(decide ((↑i:Int)<(↑n:Int)),false)] [] [] λE q s v=>K E q.sat.tail ω
 |m+1,i,p,w,B2,N,g,y,t,C,K=>by
  obtain⟨u,rfl⟩:=k ω;have e:lQ T (m+1) i=(eB 1 (T i 0) 4&&eB 0 (T i 2) 1000&&lQ T m (i+1)):=rfl;rw[e]at K;refine aX (λM=>bR (B2) [i6 (T i 0),i6 (T i 1),i6 (T i 2)]::(M)) 1 F d b g C 20 [0,i,0,103,0,0,0,3,0,0,0,1] 26 [] [(23,i6 (T i 0)),(4,ptr B2),(18,i6 i),(17,i6 n),(16,.slice (some u) n h)] 51 6 [] [] [(decide ((↑i:Int)<(↑n:Int)),true)] [((↑i:Int),n)] [(3,(i,n))] λa E q a s v e=>j5 F b a q 24 57 #[i6 1,i6 (T i 0),i6 4] λa a=>iI F d (T i 0) 1 4 q.sat ω λe g e=>a _ _ _ g λa a A o a=>?_;cases I:eB 1 (T i 0) 4<;>rw[I]at A K
  .refine UF F d b c o A 13 [] 2047 [] 2 (.bool false) 65 14 [] λj e a g=>K j e.sat.tail.tail ω
  refine Rb F d b o A 4 [0,0,2,1] 21 [] [(28,i6 (T i 2)),(26,.bool false),(27,.pointer (some (Addr.mk B2 2 none))),(18,i6 i),(17,i6 n),(16,.slice (some u) n h)] 56 6 [] λo j e j a g a=>j5 F b j e 29 57 #[i6 0,i6 (T i 2),i6 1000] λa a=>iI F d (T i 2) 0 1000 e.sat ω λe g e=>a _ _ _ g λa P z l a=>?_;cases H:eB 0 (T i 2) 1000<;>rw[H]at z K
  .refine UF F d b c l z 8 [] 29 [] 2 (.bool false) 65 14 [] λa f e g=>K a f.sat.tail.tail ω
  have o:wp i=((i+1:Nat):Int):=j6;refine Rb F d b l z 11 [] 21 [] [(18,i6 (wp i)),(30,.bool false),(29,.bool true),(28,i6 (T i 2)),(27,.pointer (some (Addr.mk B2 2 none))),(17,i6 n),(16,.slice (some u) n h)] 68 10 [] λl a f j e g e=>?_;rw[o]at f;replace f:=f.dB [(18,i6 ((i+1:Nat):Int)),(17,i6 n),(16,.slice (some u) n h)] rfl;rw[show pc prog 41 68 (Bo 10) []=pc prog 41 31 [false] [] by kernel_rfl];exact IG F d b c L k x m (i+1) l a P ω j ω ω ⟨f.env,f.sat.tail,f.sz⟩ λw' a b=>K w' a ω
def NJ(F:aB prog D (DX Q) Y)(g:HB B Q){w:aj}{st:Int}{f:eP}{k:Nat}{T:oF}(h:0<n->∃a,f=some a/\Has M (fR a 3 (λj=>[i6 (T j 0),i6 (T j 1),i6 (T j 2)]) n false))(l:Sat Q w M)(a:B<=w.heap.size)(K:∀w',Sat Q w' M->w.heap.size<=w'.heap.size->Y (G (O.finish (.bool (iF st n T))) J) w'):Y (G (Frame.enter prog 41 #[.agg #[i6 st,.slice f n k]] .normal) (O::J)) w:=by
 replace l:Sat Q w (fR (f.getD ⟨0,0,none⟩) 3 (λj=>[i6 (T j 0),i6 (T j 1),i6 (T j 2)]) n false::M):=by
  by_cases z:0<n
  .obtain⟨u,rfl,i⟩:=h z;exact l.get i
  .exact l.qj ξ rfl
 refine cJ func41 l 33 λW a h a b e a j i=>aq (λM=>bR (h) [i6 st,.slice f n k]::(M)) 1 F g b a j 10 [0,0,0,1] 1 [] [(6,i6 st),(1,ptr h)] 10 1 [] λa a h a i i i=>j5 F b a h 7 57 #[i6 0,i6 st,i6 1000] λa a=>iI F g st 0 1000 h.sat ω λh i h=>a _ _ _ i λa o m d a=>?_;unfold iF at K;cases q:eB 0 st 1000<;>rw[q]at m K
 .refine UF F g b e d m 13 [] 2047 [] 2 (.bool false) 24 3 [] λa c h i=>K a c.sat.tail.tail ω
 by_cases p:n<=12
 .have j:decide ((n:Int)>12)=false:=θ
  rw[show decide (12<n)=false by simp;omega]at K;refine TP F g b d m 20 [0,0,1,1,0,0,1,1] 1109 [] [(18,i6 0),(17,i6 n),(16,.slice f n k)] 31 2 [] [] [(decide ((↑n:Int)>12),false)] [] [] λs a c j h i r=>?_;replace c:=c.dB [(18,i6 ((0:Nat):Int)),(17,i6 n),(16,.slice f n k)] rfl;exact IG F g b e p (λz=>χ) (B1:=o) ω n 0 s a o (bK _) j (az _) ω ⟨c.env,c.sat.tail,c.sz⟩ λw' f j=>K w' f ω
 .rw[show decide (12<n)=true by simp;omega]at K;refine ZI F g b e d m 13 [0,0,1,1] 1621 [] 2 (.bool false) 24 3 [] [] [(decide ((↑n:Int)>12),true)] [] [] λa c h i=>K a c.sat.tail.tail ω
def KZ(F:aB prog D (DX Q) Y)(h:HB B Q){W:aC}(b:W.kind=.normal)(f:W.fn=27){O:aC}{J:cO}{M:aW}{sa:eP}{n cap:Nat}{g:Nat->Cl}(I:n<=9)(k:0<n->∃a,sa=some a)(E:∀j,j<n->0<(g j).nt->∃a,(g j).ta=some a/\Has M (fR a 3 (λi=>[i6 ((g j).T i 0),i6 ((g j).T i 1),i6 ((g j).T i 2)]) (g j).nt false)):
 ∀(m i:Nat)(o:Act)(w:aj)(B2:Nat),i+m=n->o.defers=[]->B<=B2->w.heap.size=B2->St Q B2 19 [(7,i6 i),(6,i6 n),(5,.slice sa n cap),(0,.slice sa n cap)] (fR (sa.getD ⟨0,0,none⟩) 2 (λj=>[i6 (g j).st,.slice (g j).ta (g j).nt (g j).tc]) n false::M) 0 o w->
   (∀w',Sat Q w' M->w.heap.size<=w'.heap.size->Y (G (O.finish (i6 (fY g m i))) J) w')->Y (G (W.at o (pc prog 27 13 [] [])) (O::J)) w
 |0,i,o,w,B2,L,d,v,s,y,K=>by
  have j:decide ((i:Int)<(n:Int))=false:=θ
  have e:fY g 0 i=n:=by show i=n;omega
  rw[e]at K;refine ZI F h b f d y 13 [] 4 [] 2 (i6 n) 26 2 [] [] [(decide ((↑i:Int)<(↑n:Int)),false)] [] [] λC p r t=>K C p.sat.tail ω
 |m+1,i,o,w,B2,L,d,v,s,y,K=>by
  obtain⟨u,rfl⟩:=k ω;refine aX (λM=>bR (B2) [i6 (g i).st,.slice (g i).ta (g i).nt (g i).tc]::(M)) 1 F h b d y 21 [0,i,0,102,0,0,0,2,0,0,0,2] 26 [] [(12,.agg #[i6 (g i).st,.slice (g i).ta (g i).nt (g i).tc]),(3,i6 i),(7,i6 i),(6,i6 n),(5,.slice (some u) n cap),(0,.slice (some u) n cap)] 34 3 [] [] [(decide ((↑i:Int)<(↑n:Int)),true)] [((↑i:Int),n)] [(2,(i,n))] λd C p d r t j=>j5 F b d p 13 41 #[.agg #[i6 (g i).st,.slice (g i).ta (g i).nt (g i).tc]] λd d=>?_;have j:=E i ω;refine NJ F h (λz=>by let⟨a,q,A⟩:=j z;exact⟨a,q,A.cons.cons⟩) p.sat ω λa j a=>d _ _ _ j λa N x l a=>?_;have e:fY g (m+1) i=if iF (g i).st (g i).nt (g i).T=false then i else fY g m (i+1):=rfl;rw[e]at K;cases H:iF (g i).st (g i).nt (g i).T<;>rw[H]at x K
  .refine UF F h b f l x 8 [] 7 [] 2 (i6 i) 43 7 [] λa c d e=>K a c.sat.tail.tail ω
  have j:IntKind.wrap .i64 ((i:Int)+1)=((i+1:Nat):Int):=by rw[aA ω ω];rfl
  refine Rb F h b l x 10 [] 5 [] [(7,i6 (IntKind.wrap .i64 ((↑i:Int)+1))),(6,i6 n),(5,.slice (some u) n cap),(0,.slice (some u) n cap)] 45 5 [] λl a c g d e d=>?_;rw[j]at c;replace c:=c.dB [(7,i6 ((i+1:Nat):Int)),(6,i6 n),(5,.slice (some u) n cap),(0,.slice (some u) n cap)] rfl;rw[show pc prog 27 45 (Bo 5) []=pc prog 27 13 [] [] by kernel_rfl];exact KZ F h b f I k E m (i+1) l a N ω g ω ω ⟨c.env,c.sat.tail,c.sz⟩ λw' q A=>K w' q ω
def Ge(F:aB prog D (DX Q) Y)(f:HB B Q){W:aC}(b:W.kind=.normal)(d:W.fn=26){O:aC}{J:cO}{M:aW}{sL:eP}{n cap:Nat}{L:oF}(hn:n<=6)(t:0<n->∃a,sL=some a):
 ∀(m i:Nat)(r:Int)(H:Act)(w:aj)(B2:Nat),i+m=n->0<=r->r<=2->H.defers=[]->B<=B2->w.heap.size=B2->St Q B2 29 [(8,i6 i),(7,i6 n),(6,.slice sL n cap),(3,i6 r),(0,.slice sL n cap)] (fR (sL.getD ⟨0,0,none⟩) 6 (oG L) n false::M) 0 H w->
   (∀w',Sat Q w' M->w.heap.size<=w'.heap.size->Y (G (O.finish (i6 (cZ L m i r))) J) w')->Y (G (W.at H (pc prog 26 17 [] [])) (O::J)) w
 |0,i,r,H,w,B2,hi,X,hr,h,Rg,R,I,K=>by
  have g1:decide ((i:Int)<(n:Int))=false:=θ
  have e:cZ L 0 i r=n:=by show i=n;omega
  rw[e]at K;refine ZI F f b d h I 13 [] 4 [] 2 (i6 n) 30 2 [] [] [(decide ((↑i:Int)<(↑n:Int)),false)] [] [] λA k p s=>K A k.sat.tail ω
 |m+1,i,r,H,w,B2,hi,X,hr,h,Rg,R,I,K=>by
  have g1:decide ((i:Int)<(n:Int))=true:=θ
  obtain⟨u,rfl⟩:=t ω;have e:cZ L (m+1) i r=if 2<(if L i 0=1 then r+1 else r)\/aF (L i 0) (L i 1) (L i 2) (L i 3) (L i 4) (L i 5)=false then i else cZ L m (i+1) (if L i 0=1 then r+1 else r):=rfl;rw[e]at K;have hw:IntKind.wrap .i64 ((i:Int)+1)=((i+1:Nat):Int):=by rw[aA ω ω];rfl
  have T:IntKind.wrap .i64 (r+1)=r+1:=aA ω ω;by_cases E:L i 0=1
  .have C:(L i 0==1)=true:=ξ
   rw[sJ E]at K;by_cases V:r=2
   .subst V;rw[sJ (.inl δ)]at K;refine oH (λM=>bR (B2) [i6 (L i 0),i6 (L i 1),i6 (L i 2),i6 (L i 3),i6 (L i 4),i6 (L i 5)]::(M)) 1 F f b d h I 47 [0,i,0,106,0,0,0,6,0,0,0,1] 32746 [] 2 (i6 i) 64 15 [] [] [(L i 0==1,true),(decide ((↑i:Int)<(↑n:Int)),true)] [((↑i:Int),n)] [(6,(i,n))] λA k p s=>K A k.sat.tail.tail ω
   have a:decide (r+1>2)=false:=θ
   have U:decide (IntKind.wrap .i64 (r+1)>2)=false:=ξ
   refine aX (λM=>bR (B2) [i6 (L i 0),i6 (L i 1),i6 (L i 2),i6 (L i 3),i6 (L i 4),i6 (L i 5)]::(M)) 1 F f b h I 37 [0,i,0,106,0,0,0,6,0,0,0,1,0,0,0,6] 298 [] [(21,.agg #[i6 (L i 0),i6 (L i 1),i6 (L i 2),i6 (L i 3),i6 (L i 4),i6 (L i 5)]),(20,.bool false),(3,i6 (IntKind.wrap .i64 (r+1))),(4,i6 i),(8,i6 i),(7,i6 n),(6,.slice (some u) n cap),(0,.slice (some u) n cap)] 54 7 [] [] [(decide (IntKind.wrap .i64 (r+1)>2),false),(L i 0==1,true),(decide ((↑i:Int)<(↑n:Int)),true)] [((↑i:Int),n)] [(6,(i,n))] λa1 A k x p s o9=>j5 F b x k 22 40 #[.agg #[i6 (L i 0),i6 (L i 1),i6 (L i 2),i6 (L i 3),i6 (L i 4),i6 (L i 5)]] λyS j=>F8 F f (L i 0) (L i 1) (L i 2) (L i 3) (L i 4) (L i 5) k.sat ω λw2 y S=>j _ _ _ y λa2 B3 z g P=>?_;cases Z:aF (L i 0) (L i 1) (L i 2) (L i 3) (L i 4) (L i 5)<;>rw[Z]at z K
   .rw[sJ (.inr rfl)]at K;refine UF F f b d g z 9 [] 29 [] 2 (i6 i) 64 15 [] λl c o q=>K l c.sat.tail.tail ω
   rw[af ξ]at K;refine Rb F f b g z 11 [] 21 [] [(8,i6 (IntKind.wrap .i64 ((↑i:Int)+1))),(23,.bool false),(22,.bool true),(21,.agg #[i6 (L i 0),i6 (L i 1),i6 (L i 2),i6 (L i 3),i6 (L i 4),i6 (L i 5)]),(3,i6 (IntKind.wrap .i64 (r+1))),(7,i6 n),(6,.slice (some u) n cap),(0,.slice (some u) n cap)] 66 11 [] λa3 l c v o q mH=>?_;rw[hw,T]at c;replace c:=c.dB [(8,i6 ((i+1:Nat):Int)),(7,i6 n),(6,.slice (some u) n cap),(3,i6 (r+1)),(0,.slice (some u) n cap)] rfl;rw[show pc prog 26 66 (Bo 11) []=pc prog 26 17 [] [] by kernel_rfl];exact Ge F f b d hn t m (i+1) (r+1) a3 l B3 ω ω ω v ω ω ⟨c.env,c.sat.tail,c.sz⟩ λw' N z2=>K w' N ω
  .have C:(L i 0==1)=false:=ξ
   rw[af E]at K;have U:decide (r>2)=false:=θ
   refine aX (λM=>bR (B2) [i6 (L i 0),i6 (L i 1),i6 (L i 2),i6 (L i 3),i6 (L i 4),i6 (L i 5)]::(M)) 1 F f b h I 33 [0,i,0,106,0,0,0,6,0,0,0,1,0,0,0,6] 266 [] [(21,.agg #[i6 (L i 0),i6 (L i 1),i6 (L i 2),i6 (L i 3),i6 (L i 4),i6 (L i 5)]),(20,.bool false),(4,i6 i),(8,i6 i),(7,i6 n),(6,.slice (some u) n cap),(3,i6 r),(0,.slice (some u) n cap)] 50 5 [] [] [(decide (r>2),false),(L i 0==1,false),(decide ((↑i:Int)<(↑n:Int)),true)] [((↑i:Int),n)] [(6,(i,n))] λa1 A k x p s o9=>j5 F b x k 22 40 #[.agg #[i6 (L i 0),i6 (L i 1),i6 (L i 2),i6 (L i 3),i6 (L i 4),i6 (L i 5)]] λyS j=>F8 F f (L i 0) (L i 1) (L i 2) (L i 3) (L i 4) (L i 5) k.sat ω λw2 y S=>j _ _ _ y λa2 B3 z g P=>?_;cases Z:aF (L i 0) (L i 1) (L i 2) (L i 3) (L i 4) (L i 5)<;>rw[Z]at z K
   .rw[sJ (.inr rfl)]at K;refine UF F f b d g z 9 [] 29 [] 2 (i6 i) 60 13 [] λl c o q=>K l c.sat.tail.tail ω
   rw[af ξ]at K;refine Rb F f b g z 11 [] 21 [] [(8,i6 (IntKind.wrap .i64 ((↑i:Int)+1))),(23,.bool false),(22,.bool true),(21,.agg #[i6 (L i 0),i6 (L i 1),i6 (L i 2),i6 (L i 3),i6 (L i 4),i6 (L i 5)]),(7,i6 n),(6,.slice (some u) n cap),(3,i6 r),(0,.slice (some u) n cap)] 62 9 [] λa3 l c v o q mH=>?_;rw[hw]at c;replace c:=c.dB [(8,i6 ((i+1:Nat):Int)),(7,i6 n),(6,.slice (some u) n cap),(3,i6 r),(0,.slice (some u) n cap)] rfl;rw[show pc prog 26 62 (Bo 9) []=pc prog 26 17 [] [] by kernel_rfl];exact Ge F f b d hn t m (i+1) r a3 l B3 ω ω ω v ω ω ⟨c.env,c.sat.tail,c.sz⟩ λw' N z2=>K w' N ω
def Rj(F:aB prog D (DX Q) Y)(f:HB B Q){w:aj}{L:oF}(i:n<=6)(c:0<n->∃a,sL=some a/\Has M (fR a 6 (oG L) n false))(b:Sat Q w M)(a:B<=w.heap.size)(K:∀w',Sat Q w' M->w.heap.size<=w'.heap.size->Y (G (O.finish (i6 (cZ L n 0 0))) J) w'):Y (G (Frame.enter prog 26 #[.slice sL n cap] .normal) (O::J)) w:=by
 replace b:Sat Q w (fR (sL.getD ⟨0,0,none⟩) 6 (oG L) n false::M):=by
  by_cases z:0<n
  .obtain⟨u,rfl,d⟩:=c z;exact b.get d
  .exact b.qj ξ rfl
 refine cJ func26 b 29 λW a k a a d c h g=>Rb F f a c h 17 [] 1 [] [(8,i6 0),(7,i6 n),(6,.slice sL n cap),(3,i6 0),(0,.slice sL n cap)] 17 1 [] λj g e c h h h=>?_;replace e:=e.dB [(8,i6 ((0:Nat):Int)),(7,i6 n),(6,.slice sL n cap),(3,i6 0),(0,.slice sL n cap)] rfl;exact Ge F f a d i (λz=>χ) n 0 0 j g k (bK _) ω ω c ω ω e λw' a c=>K w' a ω
def Rk(F:aB prog D (DX Q) Y)(f:HB B Q){w:aj}(l:n<=9)(d:0<n->∃a,sa=some a/\Has M (fR a 2 (λj=>[i6 (g j).st,.slice (g j).ta (g j).nt (g j).tc]) n false))(k:∀j,j<n->0<(g j).nt->∃a,(g j).ta=some a/\Has M (fR a 3 (λi=>[i6 ((g j).T i 0),i6 ((g j).T i 1),i6 ((g j).T i 2)]) (g j).nt false))(b:Sat Q w M)(a:B<=w.heap.size)(K:∀w',Sat Q w' M->w.heap.size<=w'.heap.size->Y (G (O.finish (i6 (fY g n 0))) J) w'):Y (G (Frame.enter prog 27 #[.slice sa n cap] .normal) (O::J)) w:=by
 replace b:Sat Q w (fR (sa.getD ⟨0,0,none⟩) 2 (λj=>[i6 (g j).st,.slice (g j).ta (g j).nt (g j).tc]) n false::M):=by
  by_cases z:0<n
  .obtain⟨u,rfl,c⟩:=d z;exact b.get c
  .exact b.qj ξ rfl
 refine cJ func27 b 19 λW a j a a d c h g=>Rb F f a c h 13 [] 1 [] [(7,i6 0),(6,i6 n),(5,.slice sa n cap),(0,.slice sa n cap)] 13 1 [] λi g e c h h h=>?_;replace e:=e.dB [(7,i6 ((0:Nat):Int)),(6,i6 n),(5,.slice sa n cap),(0,.slice sa n cap)] rfl;exact KZ F f a d l (λz=>χ) k n 0 i g j (bK _) c ω ω e λw' a c=>K w' a ω
def r8(F:aB prog D (DX Q) Y)(d:HB B Q){w:aj}{L:oF}(s:0<n->∃a,sL=some a/\Has M (fR a 6 (oG L) n false))(u:0<m->∃a,sa=some a/\Has M (fR a 2 (λj=>[i6 (g j).st,.slice (g j).ta (g j).nt (g j).tc]) m false))(t:∀j,j<m->0<(g j).nt->∃a,(g j).ta=some a/\Has M (fR a 3 (λi=>[i6 ((g j).T i 0),i6 ((g j).T i 1),i6 ((g j).T i 2)]) (g j).nt false))(p:Sat Q w M)(a:B<=w.heap.size)(K:∀w',Sat Q w' M->w.heap.size<=w'.heap.size->Y (G (O.finish (.tuple #[i6 (jG n L m g).1,i6 (jG n L m g).2])) J) w'):Y (G (Frame.enter prog 16 #[.slice sL n cA,.slice sa m cap] .normal) (O::J)) w:=by
 unfold jG at K;by_cases q:6<n
 .have a:decide ((n:Int)>6)=true:=θ
  rw[sJ q]at K;refine cJ func16 p 28 λW w x r a b e l i=>TP F d a e l 18 [] 6 [] [(5,i6 0),(4,i6 1)] 18 3 [] [] [(decide ((↑n:Int)>6),true)] [] [] λv o f c h j k=>cC F f a b c [] (.tuple #[i6 1,i6 0]) ?_;exact K o f.sat ω
 rw[af q]at K;refine cJ func16 p 28 λW w x r a b e l i=>TP F d a e l 18 [] 4 [] [(11,.slice sL n cA),(0,.slice sL n cA),(1,.slice sa m cap)] 18 2 [] [] [(decide ((↑n:Int)>6),false)] [] [] λv o f c h j k=>j5 F a c f 12 26 #[.slice sL n cA] λc c=>Rj F d ω s f.sat ω λe f e=>c _ _ _ f λc B2 o f c=>?_;by_cases p:cZ L n 0 0<n
 .have l:decide (((cZ L n 0 0:Nat):Int)<(n:Int))=true:=ξ
  rw[sJ p]at K;refine TP F d a f o 16 [] 6 [] [(5,i6 (↑(cZ L n 0 0):Int)),(4,i6 2)] 35 6 [] [] [(decide ((↑(cZ L n 0 0):Int)<(↑n:Int)),true)] [] [] λq k e c h i j=>cC F e a b c [] (.tuple #[i6 2,i6 (↑(cZ L n 0 0):Int)]) ?_;exact K k e.sat ω
 have l:decide (((cZ L n 0 0:Nat):Int)<(n:Int))=false:=ξ
 rw[af p]at K;by_cases l:9<m
 .have p:decide ((m:Int)>9)=true:=θ
  rw[sJ l]at K;refine TP F d a f o 24 [] 24 [] [(5,i6 0),(4,i6 3)] 43 12 [] [] [(decide ((↑m:Int)>9),true),(decide ((↑(cZ L n 0 0):Int)<(↑n:Int)),false)] [] [] λq k e c h i j=>cC F e a b c [] (.tuple #[i6 3,i6 0]) ?_;exact K k e.sat ω
 rw[af l]at K;refine TP F d a f o 24 [] 16 [] [(21,.slice sa m cap),(1,.slice sa m cap)] 43 8 [] [] [(decide ((↑m:Int)>9),false),(decide ((↑(cZ L n 0 0):Int)<(↑n:Int)),false)] [] [] λq k e c h i j=>j5 F a c e 22 27 #[.slice sa m cap] λc c=>Rk F d ω u t e.sat ω λe f e=>c _ _ _ f λc c o e c=>?_;by_cases h:fY g m 0<m
 .have f:decide (((fY g m 0:Nat):Int)<(m:Int))=true:=ξ
  rw[sJ h]at K;refine TP F d a e o 16 [] 6 [] [(5,i6 (↑(fY g m 0):Int)),(4,i6 4)] 60 24 [] [] [(decide ((↑(fY g m 0):Int)<(↑m:Int)),true)] [] [] λp j i c k l n=>cC F i a b c [] (.tuple #[i6 4,i6 (↑(fY g m 0):Int)]) ?_;exact K j i.sat ω
 have f:decide (((fY g m 0:Nat):Int)<(m:Int))=false:=ξ
 rw[af h]at K;refine TP F d a e o 16 [] 4 [] [(5,i6 0),(4,i6 0)] 60 16 [] [] [(decide ((↑(fY g m 0):Int)<(↑m:Int)),false)] [] [] λp j i c k l n=>cC F i a b c [] (.tuple #[i6 0,i6 0]) ?_;exact K j i.sat ω
def bkU(Z:aW)(alt:List (Nat×List Hint))(F:aB P D (DX Q) Y)(Nd:P.follows .mixedOrders=true)(hB:HB B Q){b:aC}(hk:b.kind=.normal){f g:Nat}{d:iy}{c:aN}(q:Nat)(V:List Hint)(W:iK)(C E2:Env)(cY:iK)(X:List (Int×Nat))(A:List (Nat×Nat))(x:List Hint)(ed:List aH->List aH)(dx:Nat)(vx:ay){a:Act}{ds:wN}(hd:a.defers=ds){w:aj}(ht:mP (pc P f g d c)=true)(r:((aL (pc P f g d c))[q]?).map (λo=>o.guard.isNone&&o.dst.isNone)=some true)(m:((aL (pc P f g d c))[q+1]?).map (λo=>o.guard.isNone&&!lN o&&o.op.operands.all (kn []))=some true)(j:((aL (pc P f g d c))[q+1]?).map (λo=>(o.dst,cV P (execOp (ev []) o)))=some (some dx,some (.value vx)))(h:J6 P Z alt (aL (pc P f g d c)) q E M 0 0 (C.map Prod.fst) (E2.map Prod.fst) [] (ux P B N E M 0 V W (aL (pc P f g d c)) q)=some (⟨C.map (λp=>some p.2),E2.map (λp=>some p.2),M,0,cY,X,A,true⟩,[],true))(hq:K5 Prod.fst (ux P B N E M 0 V W (aL (pc P f g d c)) q)=K5 Prod.snd (ux P B N E M 0 V W (aL (pc P f g d c)) q))(halt:tT P (aL (pc P f g d c)) Z alt true (ux P B N E M 0 V W (aL (pc P f g d c)) q)=tT P (aL (pc P f g d c)) Z alt false (ux P B N E M 0 V W (aL (pc P f g d c)) q))(i:(MF P B C (((aL (pc P f g d c))[q]?).getD default) ⟨[],⟨x,M,0,[],[]⟩,[],[],[]⟩).map (λp=>(p.1,p.2.m.M,p.2.m.c,p.2.m.cW,p.2.cY,p.2.eK))=some (.tuple #[],ed M,0,[],[],[]))(n:(MF P B C (((aL (pc P f g d c))[q]?).getD default) ⟨[],⟨x,M,0,[],[]⟩,[],[],[]⟩).map (λp=>p.2.m.eqs.map Prod.fst)=(MF P B C (((aL (pc P f g d c))[q]?).getD default) ⟨[],⟨x,M,0,[],[]⟩,[],[],[]⟩).map (λp=>p.2.m.eqs.map Prod.snd))(UU:.inRegion (aL (pc P f g d c)) (bP (q+2) ((aL (pc P f g d c)).size-(q+2)))::behind (pc P f g d c)=pc P f (g+1) d (c++[q+2]))(KN:∀p∈cY,p.1=p.2)(Vo:∀p∈X,0<=p.1/\p.1<(p.2:Int))(VE:∀p∈A,p.1<p.2)(hZ:∀w,Sat Q w (ed M)->Sat Q w Z)(S:St Q B N E M 0 a w)(K:∀a' w',St Q B N ((dx,vx)::E2) (ed M) 0 a' w'->a'.defers=ds->w'.heap.size=B->Y (G (b.at a' (pc P f (g+1) d (c++[q+2]))) J) w'):Y (G (b.at a (pc P f g d c)) J) w:=by
 have Nh:b.kind≠.early:=ξ
 have L:∃id,pc P f g d c=.code (.region id (aL (pc P f g d c)) true)::behind (pc P f g d c):=by
  unfold mP at ht;split at ht
  .rename_i e;rw[e];exact⟨_,rfl⟩
  .cases ht
 let⟨id,L⟩:=L;rw[L];generalize UY:aL (pc P f g d c)=I at*;generalize QX:behind (pc P f g d c)=k at*;cases ho:I[q]? with
 |none=>rw[ho]at r;cases r
 |some o=>
 cases R:I[q+1]? with
 |none=>rw[R]at m;cases m
 |some ox=>
 rw[ho]at r i n;rw[R]at m j;simp only[cQ]at i n;simp only[fI,Option.some.injEq,bZ,Option.isNone_iff_eq_none,mA,Prod.mk.injEq]at r m j;let⟨hg,Nl⟩:=r;let⟨⟨Uw,Qb⟩,UM⟩:=m;let⟨j,Uu⟩:=j;cases O:ux P B N E M 0 V W I q with
 |none=>rw[O]at h;cases h
 |some rr=>
  let⟨gL,al,y⟩:=rr;rw[O]at h hq halt;simp only[J6,Option.some.injEq,Prod.mk.injEq,PX.mk.injEq,bZ]at h;let⟨⟨h1,h2,h3,h4,h5,h6,h7,h8,h9⟩,KW,KV⟩:=h;have hM:oE y:=⟨fB _ hq,ξ,ξ,χ⟩;cases hv:MF P B C o ⟨[],⟨x,M,0,[],[]⟩,[],[],[]⟩with
  |none=>rw[hv]at i;cases i
  |some vy=>
   let⟨v,y2⟩:=vy;rw[hv]at i n;simp only[fI,Option.some.injEq,Prod.mk.injEq]at i n;obtain⟨rfl,ZV,s3,s4,s5,s6⟩:=i;have hm:oE y2:=⟨fB _ n,ξ,ξ,ξ⟩;refine XT (Post:=λv U=>v=.tuple #[]/\Sat Q U y2.m.M/\U.heap.size=B) (ox:=ox) (Ex:=λ_=>[]) (vx:=λ_=>vx) F Nd hB Nh (az 1) ho O hM h8 h9 halt S (λv U hp=>⟨hZ _ ξ,ω⟩) (λ_=>⟨R,KV,Uw⟩) (λv U Ze _ a hA w=>?_) (λv U _ _ e u t=>by cases t) (λa1 w1 rest z1 H z3 z4=>?_) (λM5 v U l a' w3 z1 H z3 z4 z5=>?_)
   .have T:execOp a.eval ox=execOp (ev []) ox:=execOp_congr Qb λy hy=>hA.eval (yJ.1 UM y hy);have Na:=fV _ _ Uu;exact⟨by rw[T,<-fH (es:=#[]),Na],by unfold raw Sem.events;simp_all⟩
   .have S1:St Q B N C M 0 a1 w1:=⟨⟨z1.sz,λe u t=>z1.val e u (fy C _ h1 e u t)⟩,by rw[<-h3];exact H.fg _,by rw[z3,h4]⟩
    refine Fe F hB Nh ho (by simp[Region.wanted,hg]) hv hm S1.env ⟨S1.sat,S1.sz⟩ λw' hI _ _=>z4 _ _ ⟨rfl,hI.sat,by have:=hI.sz;omega⟩
   .rw[UU];refine K a' w3 ⟨⟨H.sz,λe u t=>?_⟩,by rw[<-ZV];exact z1.2.1.keep z4,ω⟩ (H.DL.trans hd) ω;simp only[look]at t;cases he:(dx==e)with
    |true=>rw[he]at t;simp at he t;subst he;subst t;exact H.ext rfl (z3 (q+1) ω) _ j
    |false=>
     rw[he]at t;have:=fy E2 _ h2 e u t;rcases lM _ _ _ _ this with ⟨s,s1,s2,s3⟩|z
     .rw[<-s3];exact H.val s s1 (z3 s.i χ) e s2
     .exact H.old e u z
abbrev sK(e:eP)(ev:Nat->OZ)(el:Nat):aH:=fR (e.getD ⟨0,0,none⟩) 5 (λj=>yt (ev j)) el false
abbrev nv(o:eP)(ou:Nat->Se)(oh:yX)(n:Nat):aH:=fR (o.getD ⟨0,0,none⟩) 4 (λj=>yL (ou j,oh j)) n false
abbrev Ru:aH:=oR 0 0 [.iface 217 (.agg #[.pointer (some ⟨1,121,none⟩)])] false
abbrev Yt(sa:eP)(m:Nat)(g:Nat->Cl):aH:=fR (sa.getD ⟨0,0,none⟩) 2 (λj=>[i6 (g j).st,.slice (g j).ta (g j).nt (g j).tc]) m false
abbrev Kd(g:Nat->Cl)(j:Nat):aH:=fR ((g j).ta.getD ⟨0,0,none⟩) 3 (λi=>[i6 ((g j).T i 0),i6 ((g j).T i 1),i6 ((g j).T i 2)]) (g j).nt false
def cM(sa:eP)(m:Nat)(g:Nat->Cl):List aH:=Ru::Yt sa m g::(List.range m).map (Kd g)
abbrev El(U:eP)(n:Nat)(L:oF):aH:=fR (U.getD ⟨0,0,none⟩) 6 (oG L) n false
def pY:∀r∈cM sa m g,r.wr=false:=λr a=>by
 simp only[cM,ak,gV]at a;grind
def GP:Flat (cM sa m g):=by
 rw[bO];intro r a;simp only[cM,ak,gV]at a;grind
def Yn(h:r∈C)(a:r.wr=false):Has C r:=mq.2 ⟨a,h⟩
section
variable{w:aj}
def lD(h:∀r∈M,xE Q w r/\r.wr=false):Sat Q w M:=by
 refine sat_iff.2 ⟨λr a=>(h r a).1,?_⟩;refine WE λr a a a a=>?_;simp_all
def nU(a:r.wr=false)(a:r.row=none)(a:∀j,r.has j->w.cell? (r.ad j)=some (r.get j))(b:∀j,r.has j->Q (r.ad j) false):xE Q w r:=
 ⟨a,λj a=>⟨b j a,λz=>ξ⟩,λz=>ξ,λg e n z=>ξ⟩
def vD{L:oF}(h:nF w U n L)(k:∀p:Addr,U=some p->∀a:Addr,a.block=p.block->Q a false):xE Q w (El U n L):=by
 refine nU rfl rfl (λj c=>?_) (λj c=>?_)
 .let⟨i,f⟩:=j;let⟨g,e⟩:=c;obtain⟨b,o,rfl,d⟩:=h i g;simp only at g e;have:=d f e;simp only[cQ,ey];rw[show o+i*6+f=o+i*6+f from rfl,this];rcases f with _|_|_|_|_|_|f
  .rfl
  .rfl
  .rfl
  .rfl
  .rfl
  .rfl
  .omega
 .let⟨i,f⟩:=j;obtain⟨b,o,rfl,d⟩:=h i c.1;exact k _ rfl _ (by simp only[cQ,ey])
def zv(h:sG w sa m g)(u:w.cell? ⟨0,0,none⟩=some (.iface 217 (.agg #[.pointer (some ⟨1,121,none⟩)])))(t:TO Q sa m g)(q:Q ⟨0,0,none⟩ false):Sat Q w (cM sa m g):=by
 refine lD λr p=>?_;refine⟨?_,pY r p⟩;simp only[cM,ak,gV]at p;rcases p with rfl|rfl|⟨j,a,rfl⟩
 .refine nU rfl rfl (λj a=>?_) (λj a=>?_)
  .let⟨i,f⟩:=j;let⟨c,d⟩:=a;simp only[gB,iT]at c d;have s:f=0:=ω
   subst s;exact u
  .let⟨i,f⟩:=j;let⟨c,d⟩:=a;simp only[gB,iT]at c d;have s:f=0:=ω
   subst s;exact q
 .refine nU rfl rfl (λj a=>?_) (λj a=>?_)
  .let⟨i,f⟩:=j;let⟨c,d⟩:=a;obtain⟨b,o,rfl,n,l,_⟩:=h i c;simp only at c d;simp only[cQ,ey];rcases f with _|_|f
   .exact n
   .exact l
   .omega
  .let⟨i,f⟩:=j;obtain⟨b,o,rfl,n,l,_⟩:=h i a.1;exact t.1 _ rfl _ (by simp only[cQ,ey])
 .have l:j<m:=aZ.1 a;let⟨_,a,_,_,_,m⟩:=h j l;refine nU rfl rfl (λk a=>?_) (λk a=>?_)
  .let⟨i,f⟩:=k;let⟨c,d⟩:=a;let⟨b,o,e,h⟩:=m i c;simp only at c d;have:=h f d;show w.cell? ((((g j).ta.getD ⟨0,0,none⟩).add (i*3)).add f)=some (List.getD [i6 ((g j).T i 0),i6 ((g j).T i 1),i6 ((g j).T i 2)] f undef);rw[e];simp only[cQ,ey];grind
  .let⟨i,f⟩:=k;let⟨b,o,e,h⟩:=m i a.1;have b:=a.1;show Q ((((g j).ta.getD ⟨0,0,none⟩).add (i*3)).add f) false;rw[e];exact t.2 j l χ _ e _ (by simp only[cQ,ey])
def Sat.ZL{s:PS}(h:Sat Q w (pM s++C)):Sat Q w (sK s.ea s.l.ev s.l.el::nv (some ⟨s.k.O,0,none⟩) s.l.ou s.oh s.k.V.nc::C):=by
 have c:Sat Q w ([vR s.ea 5 (λj=>yt (s.l.ev j)) s.l.el s.ec 55,fR ⟨s.k.O,0,none⟩ 4 (λj=>yL (s.l.ou j,s.oh j)) s.k.V.nc true]++C):=h.sub (D7 (by
  show List.Sublist [_,_] [_,_,_,_,_,_,_];exact .cons _ (.cons _ (.cons _ (.cons_cons _ (.cons _ (.cons _ (.cons_cons _ .slnil))))))) C)
 have b:=c.G7 0 rfl (sK s.ea s.l.ev s.l.el) (λj a=>⟨a,rfl,rfl⟩) (λz=>by cases z) rfl;exact b.G7 1 rfl (nv (some ⟨s.k.O,0,none⟩) s.l.ou s.oh s.k.V.nc) (λj a=>⟨a,rfl,rfl⟩) (λz=>by cases z) rfl
end
def Sat.Wp{w:aj}{b:Nat}(h:Sat Q w M)(l:∀j,j<vs.length->w.cell? ⟨b,j,none⟩=some (vs.getD j undef))(k:∀j wr,Q ⟨b,j,none⟩ wr)(m:∀j,j<vs.length->w.frozen? ⟨b,j,none⟩=false)(o:∀r∈M,∀j,r.has j->∀i,i<vs.length->r.ad j≠⟨b,i,none⟩):Sat Q w (bR b vs::M):=by
 refine sat_iff.2 ⟨λr d=>?_,iG.2 ⟨λr d i j f a c e=>?_,(sat_iff.1 h).2⟩⟩
 .rcases ak.1 d with rfl|d
  .refine⟨λj a=>?_,λj a=>⟨k _ _,λ_=>⟨k _ _,m _ a.2⟩⟩,λ_ j f a c e=>?_,λg e n z=>(by cases z)⟩
   .rw[show(bR b vs).ad j=⟨b,j.2,none⟩from rfl,l j.2 a.2];congr 1;have b:j.2<vs.length:=a.2;unfold aH.get;grind
   .have b:j.1<1:=a.1;have b:f.1<1:=c.1;grind
  .exact(sat_iff.1 h).1 r d
 .exact o r d f c j.2 a.2 e.symm
def Sat.aa9{w:aj}{b:Nat}(h:Sat Q w M)(a:∀j,j<vs.length->w.cell? ⟨b,j,none⟩=some (vs.getD j undef))(c:∀j wr,Q ⟨b,j,none⟩ wr)(d:∀j,j<vs.length->w.frozen? ⟨b,j,none⟩=false):∃C,Sat Q w (bR b vs::C)/\∀r,Has M r->(∀j,r.has j->∀i,i<vs.length->r.ad j≠⟨b,i,none⟩)->Has C r:=by
 classical
 refine⟨M.filter λr=>decide (∀j,r.has j->∀i,i<vs.length->r.ad j≠⟨b,i,none⟩),(h.sub List.filter_sublist).Wp a c d λr a=>?_,λr a b=>?_⟩
 .simp_all
 .let⟨c,b⟩:=mq.1 a;exact mq.2 ⟨c,mK.2 ⟨b,ξ⟩⟩
def Ba:∀{E:Env}{n:Nat}{v:ay},look E n=some v->(n,v)∈E
 |[],n,v,h=>by cases h
 |(d,u)::E,n,v,h=>by
  simp only[look]at h;by_cases e:d=n
  .simp_all
  .have a:(d==n)=false:=ξ
   rw[a]at h;exact aP _ (Ba h)
def aR.sub{b:Env}{a:Act}(h:aR E N a)(c:∀p∈b,look E p.1=some p.2):aR b N a:=⟨h.sz,λn v a=>h.val n v (c (n,v) (Ba a))⟩
def Iw(w:aj):Old w w:=⟨rfl,rfl,rfl,az _,λ_ _=>rfl⟩
def Fg{a b c:aj}(h:Old a b)(k:Old b c):Old a c:=⟨k.1.trans h.1,k.2.1.trans h.2.1,k.2.2.1.trans h.2.2.1,aT h.2.2.2.1 k.2.2.2.1,λi a=>(k.2.2.2.2 i (ga a h.2.2.2.1)).trans (h.2.2.2.2 i a)⟩
theorem zw{L:LS}(R:wM V)(S:yI V L)(Q:Fin V Z m none L)(m:0<ng){w:aj}(L:∀x∈l,x<w.heap.size){dL:p9}{eu:bU}(B:Sj V sa dL eu M)(u:0<V.nl->∃c,sL=some c/\Has M (fR c 6 (λi=>EV (V.ly i)) V.nl false))(x:Sat (cP wI.heap.size l []) w M)(q:O3 (cP w.heap.size l []) (nM prog Post (Old w) (jq l) ng) w.heap.size M 16 #[.slice sL V.nl cA,.slice sa V.nc cap] (.tuple #[i6 0,i6 0]))(K:∀(c:LS),Z c->∀(b A:Nat)(o:Nat)(X:eP)(U:Nat)(i:yX)(C:aW)(w':aj),0<b->w.heap.size<=A->A<w'.heap.size->(0<V.nc->w.heap.size<=o)->Old w w'->Old wI w'->(0<c.el->∃a,X=some a)->Sat (cP wI.heap.size (A::l) []) w' (sK X c.ev c.el::nv (some ⟨o,0,none⟩) c.ou i V.nc::C)->(∀r,Has M r->Has C r)->(∀j,j<V.nc->fu C (i j) (c.ou j).b.ch)->
 nM prog Post (Old wI) (jq (A::l)) b (G (O.finish (.tuple #[.agg #[.slice (some ⟨o,0,none⟩) V.nc V.nc,.slice X c.el U],i6 0,i6 0])) J) w'):
 nM prog Post (Old wI) (jq l) ng (G (Frame.enter prog 24 #[.slice sL V.nl cA,.slice sa V.nc cap] .normal) (O::J)) w:=by
 refine At.assume gN λt=>At.keep (K':=Old w) (λd=>Iw w) ?_;have p:wI.heap.size<=w.heap.size:=t.2.2.2.1;refine Pm R S Q m L B u (x.OB (λr e j y h=>⟨h.1,λz=>by cases z⟩) (λr e n=>by rw[B.ro r e]at n;cases n)) q λb A s C w' P N I H F f v E D k=>?_;subst F;refine At.keep (λd=>Fg t f) ?_;have T:Sat (cP wI.heap.size (A::l) []) w' (pM s++C):=v.OB (λr e j y h=>⟨h.1,λz=>by cases z⟩) (λr e n j y h=>⟨h.1,λz=>⟨aT p (h.2 z).1,(h.2 z).2⟩⟩);exact K s.l H b A s.k.O s.ea s.ec s.oh C w' P N I (λz=>(((v.ok 6 (fR ⟨s.k.O,0,none⟩ 4 (λj=>yL (s.l.ou j,s.oh j)) s.k.V.nc true) rfl (0,0) ⟨z,(by decide:0<4)⟩).2 rfl).1.2 rfl).1) f (Fg t f) (λz=>by
  rcases E.jr.row with ⟨_,a,_⟩|⟨g,a,_⟩
  .omega
  simp_all) T.ZL D k
def iX(c:∀A∈l,A<N)(c:N0<=N){a:Addr}(c:N<=a.block)(wr:Bool):cP N0 l [] a wr:=
 ⟨fun⟨A,a,z⟩=>χ,λ_=>⟨ω,fun⟨p,b,z⟩=>by cases b⟩⟩
def RP{L:oF}(h:jG n L m g≠(0,0)):(jG n L m g).1≠0:=by
 unfold jG at h ⊢;grind
structure Ds(wI:aj)(U:eP)(n:Nat)(L:oF)(sa:eP)(m:Nat)(g:Nat->Cl):Prop where
 hL:nF wI U n L
 bL:∀p:Addr,U=some p->p.block<wI.heap.size
 hC:sG wI sa m g
 bC:∀p:Addr,sa=some p->p.block<wI.heap.size
 bT:∀i,i<m->0<(g i).nt->∀p:Addr,(g i).ta=some p->p.block<wI.heap.size
 i0:0<wI.heap.size
 hg:wI.cell? ⟨0,0,none⟩=some (.iface 217 (.agg #[.pointer (some ⟨1,121,none⟩)]))
def JA{w:aj}(h:sG w sa m g)(a:Old w w'):sG w' sa m g:=λi c=>by
 let⟨b,o,e,g,d,f⟩:=h i c;exact⟨b,o,e,a.cell _ _ g,a.cell _ _ d,λj c=>by
  let⟨b,o,e,d⟩:=f j c;exact⟨b,o,e,λk b=>a.cell _ _ (d k b)⟩⟩
def IJ{w:aj}{L:oF}(h:nF w sa n L)(c:Old w w'):nF w' sa n L:=λi a=>by
 let⟨b,o,e,d⟩:=h i a;exact⟨b,o,e,λk a=>c.cell _ _ (d k a)⟩
def jN{a:Addr}(h:a.block∉l):cP N0 l [] a false:=
 ⟨fun⟨A,a,z⟩=>h χ,λz=>by cases z⟩
section
variable{L:oF}
theorem Ds.rd(h:Ds wI U n L sa m g)(b:∀B∈l,wI.heap.size<=B):TO (cP N0 l []) sa m g:=⟨λp b a d=>jN λz=>by have:=h.bC p b;grind,λi c e p b a d=>jN λz=>by have:=h.bT i c e p b;grind⟩
end
def Q3(_ j:Nat):Int:=match j with|0=>1|1=>7|_=>3
abbrev CN(t:Nat)(_:Nat):Cl:=⟨5,some ⟨t,0,none⟩,1,1,Q3⟩
def Xy(t:Nat):jG 0 (λ_ _=>0) 1 (CN t)=(0,0):=ρ
def Oe(V:Ev0):yI V (ko V):=⟨rfl,rfl,λ_ _=>⟨rfl,rfl,rfl,rfl⟩,λ_=>rfl,λ_=>rfl,rfl,λ_=>rfl,rfl,rfl,λ_ _=>⟨rfl,rfl,rfl,rfl,rfl⟩⟩
theorem F5{w:aj}(hg:wI.cell? ⟨0,0,none⟩=some (.iface 217 (.agg #[.pointer (some ⟨1,121,none⟩)])))(i0:0<wI.heap.size)(hO:Old wI w)(K:∀l' C w',0<C->(∀x∈l',wI.heap.size<=x/\x<w'.heap.size)->Old wI w'->nM prog Post (Old wI) (jq l') C (G (O.finish (.bool true)) J) w'):nM prog Post (Old wI) (jq []) 1 (G (Frame.enter prog 30 #[] .normal) (O::J)) w:=by
 have F:=nA (P:=prog) (Post:=Post) (wI:=wI) (l:=[]) 1;have h:wI.heap.size<=w.heap.size:=hO.2.2.2.1;have u:∀(a:Addr)(wr:Bool),w.heap.size<=a.block->cP wI.heap.size [] [] a wr:=λa wr z=>iX (λx g=>by cases g) h z wr;have hS:Sat (cP wI.heap.size [] []) w []:=lD λr s=>by cases s
 have n:w.heap.size<=w.heap.size:=az _;generalize hB0:w.heap.size=B at u n h;rw[<-hB0]at n;replace n:B<=w.heap.size:=ω
 refine cJ func30 hS 59 λW a0 b hn m qh tN S0 P9=>aq (λM=>bR (b+1) [i6 5,.slice (some ⟨b,0,none⟩) 1 1]::(bR (b) [i6 1,i6 7,i6 3]::(M))) 2 F u m tN S0 10 [] 1 [] [(9,.slice (some ⟨b+1,0,none⟩) 1 1)] 10 1 [] λa1 V U Nt zS Dx o9=>?_;have I:sG V (some ⟨b+1,0,none⟩) 1 (CN b):=λi hi=>by
  have e:i=0:=ω
  subst e;refine⟨b+1,0,rfl,U.sat.val 0 _ rfl (0,0) ⟨aD,(by decide:0<2)⟩,U.sat.val 0 _ rfl (0,1) ⟨aD,(by decide:1<2)⟩,λj t=>?_⟩;have e:j=0:=ξ
  subst e;refine⟨b,0,rfl,λk hk=>?_⟩;have:=U.sat.val 1 _ rfl (0,k) ⟨aD,hk⟩;rw[show(⟨b,0+0*3+k,none⟩:Addr)=⟨b,k,none⟩ by simp];refine this.trans (cT some ?_);have Nh:k=0\/k=1\/k=2:=ω
  rcases Nh with rfl|rfl|rfl<;>rfl
 have H:∀N:Nat,TO (cP N [] []) (some ⟨b+1,0,none⟩) 1 (CN b):=λN=>⟨λp T a ha=>jN ψ,λi hi h0 p T a ha=>jN ψ⟩
 refine Af F m 10 24 #[.slice none 0 0,.slice (some ⟨b+1,0,none⟩) 1 1] ρ ρ δ U λcR L=>At.assume gN λhO3=>?_;have VR:Sat (cP wI.heap.size [] []) V (cM (some ⟨b+1,0,none⟩) 1 (CN b)):=zv I (hO3.cell _ _ hg) (H _) (jN ψ);have d:∀r∈cM (some ⟨b+1,0,none⟩) 1 (CN b),Has (cM (some ⟨b+1,0,none⟩) 1 (CN b)) r:=λr s=>Yn s (pY r s);refine zw (V:=nC 0 (λ_ _=>0) 1 (CN b)) (M:=cM (some ⟨b+1,0,none⟩) 1 (CN b)) (dL:=λ_=>some ⟨b,0,none⟩) (eu:=λ_=>1) (sL:=none) (cA:=0) (sa:=some ⟨b+1,0,none⟩) (cap:=1) (zl (Xy b)) (Oe _) Xs δ (λx g=>by cases g) ⟨λr s=>pY r s,GP,λ_=>⟨_,rfl,d _ (aP _ (bI ..))⟩,λc hc _=>⟨_,rfl,?_⟩,d _ (bI ..)⟩ (λz=>absurd z (Ap 0)) VR (λBL yR w' M' P VO LM KK=>?_) λX1 hX1 A R S ea1 Q y C1 f k1 k2' k3 k3o k4 k5 k6 Y k8 k9=>L _ _ _ λa4 o l=>?_
 .have e:c=0:=by have:c<1:=hc;omega
  subst e;exact d (Kd (CN b) 0) (aP _ (aP _ (gV.2 ⟨0,aZ.2 δ,rfl⟩)))
 .exact r8 (n:=0) (m:=1) (L:=λ_ _=>0) (g:=CN b) (nA 1) (λa wr z=>iX (N:=V.heap.size) (λx g=>by cases g) (az _) z wr) (λz=>ω) (λ_=>⟨_,rfl,P _ (d _ (aP _ (bI ..)))⟩) (λj t _=>⟨_,rfl,P _ (by
   have e:j=0:=ω
   subst e;exact d (Kd (CN b) 0) (aP _ (aP _ (gV.2 ⟨0,aZ.2 δ,rfl⟩))))⟩) VO LM (by rw[Xy];exact KK)
 clear F;have F:=nA (P:=prog) (Post:=Post) (wI:=wI) (l:=[R]) A;let⟨f1,f2,f3⟩:=end_1 hX1;replace l:=l.trans Nt;obtain⟨X,rfl⟩:=k6 ω;obtain⟨q,v,hoh⟩:∃q v,y 0=.slice q 0 v:=by
  have:=k9 0 aD;rw[f1]at this;rcases this with ⟨z,_⟩|⟨ca,cap,i,z,_⟩
  .simp_all
  simp_all
 rw[f2]at o Y;have h7:=(Y.sub (M':=[_,_]) (.cons_cons _ (.cons_cons _ (List.nil_sublist _)))).G7 0 rfl (fR X 5 (λj=>if j=1 then[i6 8,i6 0,i6 (-1),i6 2,i6 0]else yt (X1.ev j)) 2 false) (λj t=>⟨t,rfl,by
  show(if j.1=1 then[i6 8,i6 0,i6 (-1),i6 2,i6 0]else yt (X1.ev j.1)).getD j.2 undef=(yt (X1.ev j.1)).getD j.2 undef;split
  .rename_i e;rw[e,f3];rfl
  .rfl⟩) (λz=>by cases z) rfl
 have h8:=h7.G7 1 rfl (fR ⟨S,0,none⟩ 4 (λ_=>[i6 8,i6 1,i6 7,.slice q 0 v]) 1 false) (λj t=>⟨t,rfl,by
  have e:j.1=0:=by have:j.1<1:=t.1;omega
  show List.getD [i6 8,i6 1,i6 7,.slice q 0 v] j.2 undef=(yL (X1.ou j.1,y j.1)).getD j.2 undef;rw[e,hoh,f1];rfl⟩) (λz=>by cases z) rfl
 have S4:St (cP wI.heap.size [R] []) f.heap.size 59 [(10,.tuple #[.agg #[.slice (some ⟨S,0,none⟩) 1 1,.slice (some X) 2 Q],i6 0,i6 0])] [fR X 5 (λj=>if j=1 then[i6 8,i6 0,i6 (-1),i6 2,i6 0]else yt (X1.ev j)) 2 false,fR ⟨S,0,none⟩ 4 (λ_=>[i6 8,i6 1,i6 7,.slice q 0 v]) 1 false] 0 a4 f:=⟨o.sub (by intro p T;simp only[ak,bH,or_false]at T;subst T;rfl),h8,rfl⟩;have E:wI.heap.size<=f.heap.size:=k5.2.2.2.1;clear u;have D:∀x∈[R],wI.heap.size<=x/\x<f.heap.size:=λx g=>by
  grind
 have u:∀(a:Addr)(wr:Bool),f.heap.size<=a.block->cP wI.heap.size [R] [] a wr:=λa wr z=>iX (N:=f.heap.size) (λx g=>(D x g).2) E z wr;have Z:f.heap.size=f.heap.size:=rfl;clear o Y k8 k9 L h7 h8;generalize hB4:f.heap.size=B4 at S4 Z u D;refine oH (λM=>bR (B4+1) [i6 8,i6 1,i6 7,.slice q 0 v]::(bR (B4) [.slice (some ⟨S,0,none⟩) 1 1,.slice (some X) 2 Q]::(M))) 2 F u m qh l S4 69 [0,0,0,2,0,0,0,2,0,0,0,1,2,0,0,4,0,0,0,4,0,0,0,4,1,0,1,1,2,1,0,5] 35958428274349397 [] 0 (.bool true) 80 2 [] [] [] [(1,2),(0,1)] [] λw5 S5 Y5 Dw=>At.assume gN λXh=>K [R] A w5 k1 (λx g=>χ) Xh
section
variable{L:oF}
theorem Ds.sat(H:Ds wI U n L sa m g)(d:∀x∈l,wI.heap.size<=x){w:aj}(c:Old wI w):Sat (cP wI.heap.size l []) w (El U n L::cM sa m g):=lD λr b=>by
 rcases ak.1 b with rfl|b
 .exact⟨vD (IJ H.hL c) λp e a a=>jN λz=>by have:=H.bL p e;grind,rfl⟩
 .exact⟨(zv (JA H.hC c) (c.cell _ _ H.hg) (H.rd d) (jN λz=>by have h:wI.heap.size<=0:=d _ z;have:=H.i0;omega)).mem b,pY r b⟩
theorem Ds.lt(H:Ds wI U n L sa m g)(b:r∈El U n L::cM sa m g){j:Nat×Nat}(c:r.has j):(r.ad j).block<wI.heap.size:=
 au (((H.sat (l:=[]) (λx a=>by cases a) (Iw wI)).mem b).val j c)
def Ds.ro(a:r∈El U n L::cM sa m g):r.wr=false:=by
 rcases ak.1 a with rfl|a
 .rfl
 .exact pY r a
theorem Ds.q1(H:Ds wI U n L sa m g):0<n->∃a,U=some a/\Has (El U n L::cM sa m g) (fR a 6 (oG L) n false):=λz=>by
 obtain⟨b,o,rfl,_⟩:=H.hL 0 z;exact⟨_,rfl,Yn (bI ..) rfl⟩
theorem Ds.q2(H:Ds wI U n L sa m g):0<m->∃a,sa=some a/\Has (El U n L::cM sa m g) (fR a 2 (λj=>[i6 (g j).st,.slice (g j).ta (g j).nt (g j).tc]) m false):=λz=>by
 obtain⟨b,o,rfl,_⟩:=H.hC 0 z;exact⟨_,rfl,Yn (aP _ (aP _ (bI ..))) rfl⟩
theorem Ds.q3(H:Ds wI U n L sa m g):∀j,j<m->0<(g j).nt->∃a,(g j).ta=some a/\Has (El U n L::cM sa m g) (fR a 3 (λi=>[i6 ((g j).T i 0),i6 ((g j).T i 1),i6 ((g j).T i 2)]) (g j).nt false):=λj a z=>by
 let⟨_,_,_,_,_,c⟩:=H.hC j a;let⟨b,o,e,_⟩:=c 0 z;refine⟨_,e,?_⟩;have:=Yn (C:=El U n L::cM sa m g) (r:=Kd g j) (aP _ (aP _ (aP _ (gV.2 ⟨j,aZ.2 a,rfl⟩)))) rfl;grind
def Yx(a:jG n L m g≠(0,0)):(1<=(jG n L m g).1/\(jG n L m g).1<=4)/\0<=(jG n L m g).2/\(jG n L m g).2<=8:=by
 unfold jG at a ⊢;grind
def HP(F:aB prog true (DX Q) Y)(n:HB B Q)(b:W.kind=.normal)(l:W.fn=19){m:Act}{g:aj}{f d:Nat}(j:m.defers=[])(o:B<=d){c i:Int}(o:1<=c/\c<=4)(o:0<=i/\i<=8)(e:St Q d 70 [(12,i6 i),(11,i6 c),(10,ptr d),(9,i6 i),(8,i6 c),(7,.bool true),(4,ptr f)] (bR d [.slice none 0 0,.slice none 0 0]::bR f [.slice none 0 0,.slice none 0 0]::M) 1 m g)(K:∀w',g.heap.size<=w'.heap.size->Y (G (O.finish (.tuple #[.agg #[.slice none 0 0,.slice none 0 0],.bool false,.bool true])) J) w'):Y (G (W.at m (pc prog 19 44 [true] [])) (O::J)) g:=by
 replace e:=St.mk (c:=0) (B:=d+1) e.env e.sat e.sz;have g:i=0\/i=1\/i=2\/i=3\/i=4\/i=5\/i=6\/i=7\/i=8:=ω
 have k:c=1\/c=2\/c=3\/c=4:=ω
 have c:=e.sz;rcases g with rfl|rfl|rfl|rfl|rfl|rfl|rfl|rfl|rfl<;>rcases k with rfl|rfl|rfl|rfl
 all_goals
  refine bkU [oR d 0 [.slice none 0 0,.slice none 0 0] false] [(19,[]),(20,[(0,(0,1),true)]),(21,[]),(22,[]),(23,[])] F aK (λa wr z=>n a wr ω) b 24 (Hq [0,0,0,2,0,0,0,2]) [(true,true),(true,true),(true,true),(true,true),(true,true),(true,true),(true,true),(true,true),(true,true),(true,true),(true,true),(true,true),(true,true),(true,true)] [(30,.agg #[.slice none 0 0,.slice none 0 0]),(4,ptr f)] [(53,.bool true),(4,ptr f)] [] [] [] (Hq [1,0,0,2]) (λM=>bh 1 (0,1) (.slice none 0 0) (bh 1 (0,0) (.slice none 0 0) (M))) 5 (.bool false) j ρ ρ ρ ρ ρ ρ ρ ρ ρ ρ eU eU eU (λw h=>(h.sub (M':=[bR d [.slice none 0 0,.slice none 0 0]]) (.cons_cons _ (List.nil_sublist _))).fix) e λa a d a c=>Rb F n b a d 2 [] 1 [] [(6,.bool true),(5,.bool false),(4,ptr f)] 47 3 [26] λa c f a d d d=>cC F f b l a [1,0,0,2] (.tuple #[.agg #[.slice none 0 0,.slice none 0 0],.bool false,.bool true]) ?_;exact K c ω
theorem ES(H:Ds wI U n L sa m g)(hZ:jG n L m g=(0,0)->Fin (nC n L m g) Z 80001 none (ko (nC n L m g)))(K0:∀l' P w',0<P->(∀x∈l',wI.heap.size<=x/\x<w'.heap.size)->Old wI w'->nM prog Post (Old wI) (jq l') P (G (O.finish (.tuple #[.agg #[.slice none 0 0,.slice none 0 0],.bool false,.bool true])) J) w')(K1:jG n L m g=(0,0)->∀v,Z v->∀l' P (o:Nat) X ec oh C w',0<P->(∀x∈l',wI.heap.size<=x/\x<w'.heap.size)->Old wI w'->(0<v.el->∃a,X=some a)->Sat (cP wI.heap.size l' []) w' C->Has C (sK X v.ev v.el)->Has C (nv (some ⟨o,0,none⟩) v.ou oh m)->(∀j,j<m->fu C (oh j) (v.ou j).b.ch)->(∀r∈El U n L::cM sa m g,Has C r)->nM prog Post (Old wI) (jq l') P (G (O.finish (.tuple #[.agg #[.slice (some ⟨o,0,none⟩) m m,.slice X v.el ec],.bool true,.bool true])) J) w'):
 nM prog Post (Old wI) (jq []) 1 (G (Frame.enter prog 19 #[.slice U n S,.slice sa m cap] .normal) (O::J)) wI:=by
 have F:=nA (P:=prog) (Post:=Post) (wI:=wI) (l:=[]) 1;have u:∀(a:Addr)(wr:Bool),wI.heap.size<=a.block->cP wI.heap.size [] [] a wr:=λa wr z=>iX (λx y=>by cases y) (az _) z wr;have hS:Sat (cP wI.heap.size [] []) wI []:=lD λr t=>by cases t
 refine cJ func19 hS 70 λW G k G h qh G Z P=>aq (λM=>bR (k) [.slice none 0 0,.slice none 0 0]::(M)) 1 F u h G Z 8 [] 1 [] [(4,ptr k),(0,.slice U n S),(1,.slice sa m cap)] 8 1 [] λG G S1 Z P P P=>Af F h 14 30 #[] ρ ρ δ S1 λcR R=>At.assume gN λP=>At.keep (K':=Old G) (λd=>Iw G) ?_;refine F5 (wI:=G) (P.cell _ _ H.hg) ω (Iw G) λI ng1 N Y hl1 D=>?_;have hO2:=Fg P D;refine At.keep (K':=Old wI) (λd=>hO2) ?_;refine R _ _ _ λa2 OR DF=>?_;replace DF:=DF.trans Z;clear F R;have F:=nA (P:=prog) (Post:=Post) (wI:=wI) (l:=I) ng1;have d:G.heap.size<=N.heap.size:=D.2.2.2.1;clear u;have u:∀(a:Addr)(wr:Bool),N.heap.size<=a.block->cP wI.heap.size I [] a wr:=λa wr z=>iX (N:=N.heap.size) (λx y=>(hl1 x y).2) ω z wr;have hsB:∀l:List Nat,(∀x∈l,G.heap.size<=x)->∀j wr,cP wI.heap.size l [] ⟨k,j,none⟩ wr:=λl d j wr=>⟨(jN (N0:=0) (l:=l) (a:=⟨k,j,none⟩) λz=>χ).1,λ_=>⟨χ,fun⟨p,hp,z⟩=>by cases hp⟩⟩
 have d:∀j,j<2->N.cell? ⟨k,j,none⟩=some ([Value.slice none 0 0,.slice none 0 0].getD j undef):=λj b=>by
  refine D.cell _ _ ?_;refine(S1.sat.val 0 _ rfl (0,j) ⟨aD,b⟩).trans (cT some ?_);rfl
 have l:∀j,j<2->N.frozen? ⟨k,j,none⟩=false:=λj b=>(World.frozen?_of_block (D.2.2.2.2 k ω)).trans ((S1.sat.ok 0 _ rfl (0,j) ⟨aD,b⟩).2 rfl).2;have h2:Sat (cP wI.heap.size I []) N (bR k [.slice none 0 0,.slice none 0 0]::El U n L::cM sa m g):=(H.sat (λx y=>χ) hO2).Wp d (hsB I λx y=>(hl1 x y).1) l λr t j b i hi e=>by
  have:=H.lt t b;grind
 have S2:St (cP wI.heap.size I []) N.heap.size 70 [(14,.bool true),(0,.slice U n S),(1,.slice sa m cap),(4,ptr k)] (bR k [.slice none 0 0,.slice none 0 0]::El U n L::cM sa m g) 0 a2 N:=⟨OR.sub (by intro p hp;simp only[ak,bH,or_false]at hp;rcases hp with rfl|rfl|rfl|rfl<;>rfl),h2,rfl⟩;have tM:N.heap.size=N.heap.size:=rfl;have q1:=H.q1;have q2:=H.q2;have q3:=H.q3;have M6:∀r∈El U n L::cM sa m g,r.wr=false:=λr t=>Ds.ro t;have d:∀r∈El U n L::cM sa m g,∀j,r.has j->(r.ad j).block<wI.heap.size:=λr t j b=>H.lt t b;generalize hM:El U n L::cM sa m g=M at*;generalize hB2:N.heap.size=B2 at S2 tM u;refine Rb F u h DF S2 6 [] 1 [] [(17,.slice sa m cap),(16,.slice U n S),(7,.bool true),(0,.slice U n S),(1,.slice sa m cap),(4,ptr k)] 15 1 [] λd d l d D D D=>j5 F h d l 18 16 #[.slice U n S,.slice sa m cap] λd d=>r8 F u (λz=>by let⟨a,B,w⟩:=q1 z;exact⟨a,B,w.cons⟩) (λz=>by let⟨a,B,w⟩:=q2 z;exact⟨a,B,w.cons⟩) (λj b z=>by let⟨a,B,w⟩:=q3 j b z;exact⟨a,B,w.cons⟩) l.sat ω λl D l=>d _ _ _ D λd d S4 Vx d=>?_;by_cases K:jG n L m g=(0,0)
 .rw[K]at S4;refine Rb F u h Vx S4 10 [] 1 [] [(23,.slice sa m cap),(22,.slice U n S),(9,i6 0),(8,i6 0),(7,.bool true),(1,.slice sa m cap),(4,ptr k)] 26 1 [] λa5 w5 S5 Yv Y5 Dw qO=>Af F h 24 24 #[.slice U n S,.slice sa m cap] ρ ρ δ S5 λcR R=>At.assume gN λd=>?_;have Xi:Sj (nC n L m g) sa (λj=>(g j).ta) (λj=>(g j).tc) M:=⟨M6,by
   subst hM;rw[bO];intro r t;rcases ak.1 t with rfl|t
   .rfl
   .exact(bO.1 GP) r t,q2,q3,by
   subst hM;exact Yn (aP _ (bI ..)) rfl⟩
  have d:∀x∈I,x<w5.heap.size:=λx y=>χ
  refine zw (V:=nC n L m g) (zl K) (Oe _) (hZ K) Y d (sL:=U) (sa:=sa) (cA:=S) (cap:=cap) Xi q1 S5.sat.tail (λBL yR w' M' T VO LM KK=>?_) λv hLf W9 A o X ec oh C E k1 l l k3o k4 l k6 k7 k8 k9=>R _ _ _ λa6 TF Q=>?_
  .exact r8 (n:=n) (m:=m) (L:=L) (g:=g) (nA ng1) (λa wr z=>iX (N:=w5.heap.size) d (az _) z wr) (λz=>χ) (λz=>χ) (λj b z=>by let⟨a,B,w⟩:=q3 j b z;grind) VO LM χ
  replace Q:=Q.trans Yv;clear F R;have F:=nA (P:=prog) (Post:=Post) (wI:=wI) (l:=A::I) W9;have d:w5.heap.size<=E.heap.size:=k4.2.2.2.1;have hl6:∀x∈A::I,wI.heap.size<=x/\x<E.heap.size:=λx y=>by
   rcases ak.1 y with rfl|y
   .omega
   grind
  clear u;have u:∀(a:Addr)(wr:Bool),E.heap.size<=a.block->cP wI.heap.size (A::I) [] a wr:=λa wr z=>iX (N:=E.heap.size) (λx y=>(hl6 x y).2) ω z wr;have hv6:∀j,j<2->E.cell? ⟨k,j,none⟩=some ([Value.slice none 0 0,.slice none 0 0].getD j undef):=λj b=>by
   refine k4.cell _ _ ?_;refine(S5.sat.val 0 _ rfl (0,j) ⟨aD,b⟩).trans (cT some ?_);rfl
  have hf6:∀j,j<2->E.frozen? ⟨k,j,none⟩=false:=λj b=>(World.frozen?_of_block (k4.2.2.2.2 k ω)).trans ((S5.sat.ok 0 _ rfl (0,j) ⟨aD,b⟩).2 rfl).2;have sl:∀i,i<2->∃s p q,E.cell? ⟨k,i,none⟩=some (Value.slice s p q):=λi hi=>by
   rw[hv6 i hi];have KG:i=0\/i=1:=ω
   rcases KG with rfl|rfl<;>exact⟨_,_,_,rfl⟩
  let⟨C',h6,V⟩:=Sat.aa9 (b:=k) (vs:=[.slice none 0 0,.slice none 0 0]) k7 hv6 (hsB (A::I) λx y=>by
   grind) hf6
  have c1:Has C' (sK X v.ev v.el):=V _ (Yn (bI ..) rfl) λj b i hi e=>by
   have hv:=(k7.mem (bI ..)).val j b;let⟨s,p,q,z⟩:=sl i hi;rw[e,z]at hv;let⟨j,f⟩:=j;have hf:f<5:=b.2;have Wm:f=0\/f=1\/f=2\/f=3\/f=4:=ω
   rcases Wm with rfl|rfl|rfl|rfl|rfl<;>cases hv
  have c2:Has C' (nv (some ⟨o,0,none⟩) v.ou oh m):=V _ (Yn (aP _ (bI ..)) rfl) λj b i hi e=>by
   have d:=k3o (by have:j.1<m:=b.1;show 0<m;omega);have hb:(((⟨o,0,none⟩:Addr).add (j.1*4)).add j.2).block=k:=cT Addr.block e;rw[add_add]at hb;grind
  have c3:∀j,j<m->fu C' (oh j) (v.ou j).b.ch:=λj b=>by
   rcases k9 j b with z|⟨ca,cp,i,B,w⟩
   .exact .inl z
   .have d:Has C (gQ ca (v.ou j).b.ch):=⟨rfl,i,w⟩
    let⟨_,i',KG⟩:=V _ d.cons.cons λj b i hi e=>by
     have hv:=(k7.mem (aP _ (aP _ (gO w)))).val j b;let⟨s,p,q,z⟩:=sl i hi;rw[e,z]at hv;let⟨j,f⟩:=j;have hf:f<3:=b.2;have Wm:f=0\/f=1\/f=2:=ω
     rcases Wm with rfl|rfl|rfl<;>cases hv
    exact .inr ⟨ca,cp,i',B,KG⟩
  have c4:∀r∈M,Has C' r:=λr t=>V _ (k8 r (Yn t (M6 r t))).cons.cons λj b i hi e=>by
   grind
  have t1:((m:Int)==(m:Int))=true:=ψ
  have S6:St (cP wI.heap.size (A::I) []) E.heap.size 70 [(24,.tuple #[.agg #[.slice (some ⟨o,0,none⟩) m m,.slice X v.el ec],i6 0,i6 0]),(8,i6 0),(7,.bool true),(1,.slice sa m cap),(4,ptr k)] (bR k [.slice none 0 0,.slice none 0 0]::C') 0 a6 E:=⟨TF.sub (by intro p hp;simp only[ak,bH,or_false]at hp;rcases hp with rfl|rfl|rfl|rfl|rfl<;>rfl),h6,rfl⟩;have YG:E.heap.size=E.heap.size:=rfl;generalize hB6:E.heap.size=B6 at S6 YG u;generalize Ty:v.el=el at S6;refine aq (λM=>bR (B6) [.slice (some ⟨o,0,none⟩) m m,.slice X el ec]::(bh 0 (0,1) (.slice X el ec) (bh 0 (0,0) (.slice (some ⟨o,0,none⟩) m m) (M)))) 1 F u h Q S6 43 [0,0,0,2,0,0,0,1,0,0,0,2,1,0,0,2] 131069 [] [(6,.bool ((↑m:Int)==(↑m:Int))),(5,.bool ((↑m:Int)==(↑m:Int))),(4,ptr k)] 70 2 [] λa7 w7 S7 CI OD YQ DJ=>cC F S7 h qh CI [1,0,0,2] (.tuple #[.agg #[.slice (some ⟨o,0,none⟩) m m,.slice X el ec],.bool ((↑m:Int)==(↑m:Int)),.bool ((↑m:Int)==(↑m:Int))]) ?_;subst Ty;rw[t1];exact At.assume gN λXh=>K1 K v hLf (A::I) W9 o X ec oh C' w7 k1 (λx y=>χ) Xh k6 S7.sat.tail.tail c1 c2 c3 c4
 .have W1:=RP K;have aaD:((jG n L m g).1 !=0)=true:=χ
  have t1:((jG n L m g).1==(jG n L m g).1)=true:=ψ
  have t2:((jG n L m g).2==(jG n L m g).2)=true:=ψ
  generalize t:jG n L m g=r at W1 aaD t1 t2 S4;let⟨c,i⟩:=r;dsimp only at W1 aaD t1 t2 S4;refine Rb F u h Vx S4 10 [] 1 [] [(23,.slice sa m cap),(22,.slice U n S),(9,i6 i),(8,i6 c),(7,.bool true),(1,.slice sa m cap),(4,ptr k)] 26 1 [] λa5 w5 S5 Yv Y5 Dw qO=>j5 F h Yv S5 24 24 #[.slice U n S,.slice sa m cap] λd d=>Ui (i:=i) F u W1 S5.sat ω (λBL yR w' M' T VO LM KK=>?_) λE h6 e=>d _ _ _ h6 λa6 B6 S6 Q YG=>?_
  .exact r8 F u (λz=>by let⟨a,B,w⟩:=q1 z;exact⟨a,B,T _ w.cons⟩) (λz=>by let⟨a,B,w⟩:=q2 z;exact⟨a,B,T _ w.cons⟩) (λj b z=>by let⟨a,B,w⟩:=q3 j b z;exact⟨a,B,T _ w.cons⟩) VO LM χ
  refine aX (λM=>bR (B6) [.slice none 0 0,.slice none 0 0]::(M)) 1 F u h Q S6 17 [0,0,0,2] 6 [] [(12,i6 i),(11,i6 c),(10,ptr B6),(9,i6 i),(8,i6 c),(7,.bool true),(4,ptr k)] 44 3 [] [] [(c !=0,true)] [] [] λa7 w7 S7 CI OD YQ DJ=>?_;let⟨r1,r2⟩:=Yx K;rw[t]at r1 r2;exact HP F u h qh CI ω r1 r2 (S7.dB _ rfl) λa b=>At.assume gN λXh=>K0 I ng1 a Y (λx y=>χ) Xh
end
section
variable{L:oF}
theorem Ds.old(H:Ds wI U n L sa m g){w:aj}(c:Old wI w):Ds w U n L sa m g:=
 have b:wI.heap.size<=w.heap.size:=c.2.2.2.1
 ⟨IJ H.hL c,λp a=>ga (H.bL p a) b,JA H.hC c,λp a=>ga (H.bC p a) b,λi d e p a=>ga (H.bT i d e p a) b,ga H.i0 b,c.cell _ _ H.hg⟩
abbrev SY(o:Nat)(ou:Nat->Se)(os:p9)(oc:bU)(m:Nat):aH:=fR ⟨o,0,none⟩ 4 (λj=>[i6 (ou j).a,i6 (ou j).b.k,i6 (ou j).b.n,.slice (os j) (ou j).b.ch.length (oc j)]) m false
def Zt{w:aj}{a:Nat->Se}{g:yX}(h:Sat Q w C)(q:Has C (nv (some ⟨o,0,none⟩) a g m))(n:∀j,j<m->fu C (g j) (a j).b.ch):
 ∃os l,Sat Q w (SY o a os l m::C)/\∀j,j<m->0<(a j).b.ch.length->∃b,os j=some b/\Has C (gQ b (a j).b.ch):=by
 have d:∀j,∃p:Option Addr×Nat,j<m->g j=.slice p.1 (a j).b.ch.length p.2/\(0<(a j).b.ch.length->∃b,p.1=some b/\Has C (gQ b (a j).b.ch)):=λj=>by
  by_cases c:j<m
  .rcases n j c with ⟨k,f⟩|⟨b,cap,i,k,f⟩
   .exact⟨(none,0),λ_=>⟨by rw[k,f];rfl,λz=>by rw[f]at z;cases z⟩⟩
   .exact⟨(some b,cap),λ_=>⟨k,λ_=>⟨b,rfl,rfl,i,f⟩⟩⟩
  .exact⟨(none,0),λz=>absurd z c⟩
 refine⟨λj=>(d j).choose.1,λj=>(d j).choose.2,?_,λj c=>((d j).choose_spec c).2⟩;refine(h.get q).G7 0 rfl (SY o a _ _ m) (λj c=>⟨c,rfl,?_⟩) (λz=>by cases z) rfl;have e:=((d j.1).choose_spec c.1).1;show List.getD [i6 (a j.1).a,i6 (a j.1).b.k,i6 (a j.1).b.n,.slice (d j.1).choose.1 (a j.1).b.ch.length (d j.1).choose.2] j.2 undef=(yL (a j.1,g j.1)).getD j.2 undef;rw[<-e];rfl
end
def Tg{q:Int}{c:Nat}{vv:Nat->OZ}:∀n,zG q c vv n<=n
 |0=>az _
 |n+1=>by
  have:=Tg (q:=q) (c:=c) (vv:=vv) n;grind [zG]
def Lt(q:Int)(c:Nat)(vv:Nat->OZ)(i:Nat)(f g r:Bool)(n:Nat)(a:Int):Prop:=(f=true->∀j,j<i->¬Gate q (vv j))/\n=zG q c vv i/\(g=true->∃j,j<i/\(vv j).c=c/\(vv j).w=1)/\(n≠0->∃j,j<i/\Gate q (vv j)/\(vv j).c=c/\a=(vv j).a/\r=((vv j).w==7))
def Lt.next{g r k j b:Bool}{d:Nat}{e:Int}(h:Lt q c vv i f g r n a){y:Bool}(h:y=true↔Gate q (vv i))(h:k=true->f=true/\y=false)(f:j=true->g=true\/(vv i).c=c/\(vv i).w=1)(f:(y=true/\(vv i).c=c/\d=n+1/\e=(vv i).a/\b=((vv i).w==7))\/(¬(y=true/\(vv i).c=c)/\d=n/\e=a/\b=r)):Lt q c vv (i+1) k j b d e:=by
 unfold Lt at*;simp only[zG];grind
def aaw(F:aB prog D (DX Q) Y)(I:HB B Q){W:aC}(o:W.kind=.normal)(qh:W.fn=23){O:aC}{J:cO}{R:aW}{X:eP}{v:ay}{Z el u c:Nat}{q:Int}{vv:Nat->OZ}(Ty:el<1000000)(hea:0<el->∃a,X=some a):
 ∀(k i:Nat)(f g r:Bool)(n:Nat)(a:Int)(x:Act)(w:aj)(B2:Nat),i+k=el->Lt q c vv i f g r n a->x.defers=[]->B<=B2->w.heap.size=B2->
   St Q B2 131 [(11,i6 i),(10,i6 a),(9,.bool r),(8,.bool g),(7,i6 n),(6,i6 c),(5,.bool f),(2,ptr u),(1,i6 q)] (bR u [v,.slice X el Z]::sK X vv el::R) 0 x w->
   (∀w',w.heap.size<=w'.heap.size->Sat Q w' (sK X vv el::R)->(∃i,i<el/\Gate q (vv i)/\(vv i).w≠q/\∀j,j<i->¬Gate q (vv j))->Y (G (O.finish (.bool false)) J) w')->
   (∀f g r n a L w',w.heap.size<=w'.heap.size->Lt q c vv el f g r n a->L.defers=[]->aR [(10,i6 a),(9,.bool r),(8,.bool g),(7,i6 ((n:Nat):Int)),(6,i6 c),(5,.bool f),(2,ptr u),(1,i6 q)] 131 L->Sat Q w' (bR u [v,.slice X el Z]::sK X vv el::R)->Y (G (W.at L (pc prog 23 62 [true,false] [])) (O::J)) w')->
   Y (G (W.at x (pc prog 23 52 [true] [])) (O::J)) w
 |0,i,f,g,r,n,a,x,w,B2,hi,hL,e,hle,T,E,KF,K=>by
  have j:decide ((i:Int)<(el:Int))=false:=θ
  refine TP F I o e E 10 [0,0,1,1] 4 [] [(10,i6 a),(9,.bool r),(8,.bool g),(7,i6 n),(6,i6 c),(5,.bool f),(2,ptr u),(1,i6 q)] 62 5 [] [] [(decide ((↑i:Int)<(↑el:Int)),false)] [] [] λp d l b m s t=>K f g r n a p d ω (by rw[show el=i by omega];exact hL) b (l.dB _ rfl).env l.sat
 |k+1,i,f,g,r,n,a,x,w,B2,hi,hL,e,hle,T,E,KF,K=>by
  obtain⟨U,rfl⟩:=hea ω;have V:wp i=((i+1:Nat):Int):=j6;have j:=Tg (q:=q) (c:=c) (vv:=vv) i;have j:=hL.2.1;have hwn:wp n=((n+1:Nat):Int):=j6;have zV:∀(y H P:Bool)(S:Nat)(L:Int)(x:Act)(d:aj),(y=true↔Gate q (vv i))->(H=true->f=true/\y=false)->((y=true/\(vv i).c=c/\S=n+1/\L=(vv i).a/\P=((vv i).w==7))\/(¬(y=true/\(vv i).c=c)/\S=n/\L=a/\P=r))->x.defers=[]->d.heap.size=B2+1->St Q B2 131 [(12,ptr B2),(11,i6 i),(10,i6 L),(9,.bool P),(8,.bool g),(7,i6 ((S:Nat):Int)),(6,i6 c),(5,.bool H),(2,ptr u),(1,i6 q)] (bR B2 [i6 (vv i).a,i6 (vv i).c,i6 (vv i).l,i6 (vv i).w,i6 (vv i).n]::bR u [v,.slice (some U) el Z]::sK (some U) vv el::R) 1 x d->Y (G (W.at x (pc prog 23 131 [true,true,false,false] [])) (O::J)) d:=by
   intro y H P S L x w0 N hf B e T E;have nx:∀(w:Bool)(p:Act)(j:aj),(w=true->g=true\/(vv i).c=c/\(vv i).w=1)->p.defers=[]->j.heap.size=B2+1->St Q B2 131 [(11,i6 ((i+1:Nat):Int)),(10,i6 L),(9,.bool P),(8,.bool w),(7,i6 ((S:Nat):Int)),(6,i6 c),(5,.bool H),(2,ptr u),(1,i6 q)] (bR B2 [i6 (vv i).a,i6 (vv i).c,i6 (vv i).l,i6 (vv i).w,i6 (vv i).n]::bR u [v,.slice (some U) el Z]::sK (some U) vv el::R) 1 p j->Y (G (W.at p (pc prog 23 52 [true] [])) (O::J)) j:=λw p j hg b m l=>
    aaw F I o qh Ty hea k (i+1) H w P S L p j (B2+1) ω (hL.next N hf hg B) b ω m ⟨l.env,l.sat.tail,l.sz⟩ (λw' z=>KF w' ω) λf g r n a L w' z=>K f g r n a L w' ω
   cases g with
   |true=>
    refine aq (λM=>M) 1 F I o e E 22 [] 8191 [] [(11,i6 (wp i)),(8,.bool true),(10,i6 L),(9,.bool P),(7,i6 S),(6,i6 c),(5,.bool H),(2,ptr u),(1,i6 q)] 153 19 [] λp d l b m s t=>?_;rw[V]at l;rw[show pc prog 23 153 (Bo 19) []=pc prog 23 52 [true] [] by kernel_rfl];exact nx true p d (λ_=>.inl rfl) b ω (l.dB _ rfl)
   |false=>
    by_cases h:(vv i).c=c
    .have h':((vv i).c==(c:Int))=true:=by simpa using h
     refine aX (λM=>M) 1 F I o e E 22 [0,0,1,1,0,0,3,1] 391509 [] [(11,i6 (wp i)),(8,.bool ((vv i).w==1)),(10,i6 L),(9,.bool P),(7,i6 S),(6,i6 c),(5,.bool H),(2,ptr u),(1,i6 q)] 153 19 [] [] [((vv i).c==(↑c:Int),true)] [] [] λp d l b m s t=>?_;rw[V]at l;rw[show pc prog 23 153 (Bo 19) []=pc prog 23 52 [true] [] by kernel_rfl];exact nx ((vv i).w==1) p d (λz=>.inr ⟨h,by simpa using z⟩) b ω (l.dB _ rfl)
    .have h':((vv i).c==(c:Int))=false:=by simpa using h
     refine aX (λM=>M) 1 F I o e E 22 [0,0,1,1] 348501 [] [(11,i6 (wp i)),(8,.bool false),(10,i6 L),(9,.bool P),(7,i6 S),(6,i6 c),(5,.bool H),(2,ptr u),(1,i6 q)] 153 19 [] [] [((vv i).c==(↑c:Int),false)] [] [] λp d l b m s t=>?_;rw[V]at l;rw[show pc prog 23 153 (Bo 19) []=pc prog 23 52 [true] [] by kernel_rfl];exact nx false p d (λz=>by cases z) b ω (l.dB _ rfl)
  have C:∀(y H:Bool)(x:Act)(d:aj),(y=true↔Gate q (vv i))->(H=true->f=true/\y=false)->x.defers=[]->d.heap.size=B2+1->St Q B2 131 [(13,.bool y),(12,ptr B2),(11,i6 i),(10,i6 a),(9,.bool r),(8,.bool g),(7,i6 n),(6,i6 c),(5,.bool H),(2,ptr u),(1,i6 q)] (bR B2 [i6 (vv i).a,i6 (vv i).c,i6 (vv i).l,i6 (vv i).w,i6 (vv i).n]::bR u [v,.slice (some U) el Z]::sK (some U) vv el::R) 1 x d->Y (G (W.at x (pc prog 23 118 [true,true,false] [])) (O::J)) d:=by
   intro y H x w0 N hf e T E;by_cases h:(vv i).c=c
   .have h':((vv i).c==(c:Int))=true:=by simpa using h
    cases y with
    |true=>
     refine aX (λM=>M) 1 F I o e E 30 [0,0,1,1,0,0,0,1,0,0,3,1] 30 [] [(9,.bool ((vv i).w==7)),(10,i6 (vv i).a),(7,i6 (wp n)),(12,ptr B2),(11,i6 i),(8,.bool g),(6,i6 c),(5,.bool H),(2,ptr u),(1,i6 q)] 148 27 [] [] [((vv i).c==(↑c:Int),true)] [] [] λp d l b m s t=>?_;rw[hwn]at l;rw[show pc prog 23 148 (Bo 27) []=pc prog 23 131 [true,true,false,false] [] by kernel_rfl];exact zV true H ((vv i).w==7) (n+1) (vv i).a p d N hf (.inl ⟨rfl,h,rfl,rfl,rfl⟩) b ω (l.dB _ rfl)
    |false=>
     refine aX (λM=>M) 1 F I o e E 13 [0,0,1,1] 22 [] [(12,ptr B2),(11,i6 i),(10,i6 a),(9,.bool r),(8,.bool g),(7,i6 n),(6,i6 c),(5,.bool H),(2,ptr u),(1,i6 q)] 131 19 [] [] [((vv i).c==(↑c:Int),true)] [] [] λp d l b m s t=>zV false H r n a p d N hf (.inr ⟨λz=>(by cases z.1),rfl,rfl,rfl⟩) b ω (l.dB _ rfl)
   .have h':((vv i).c==(c:Int))=false:=by simpa using h
    refine aX (λM=>M) 1 F I o e E 13 [0,0,1,1] 20 [] [(12,ptr B2),(11,i6 i),(10,i6 a),(9,.bool r),(8,.bool g),(7,i6 n),(6,i6 c),(5,.bool H),(2,ptr u),(1,i6 q)] 131 19 [] [] [((vv i).c==(↑c:Int),false)] [] [] λp d l b m s t=>zV y H r n a p d N hf (.inr ⟨λz=>h z.2,rfl,rfl,rfl⟩) b ω (l.dB _ rfl)
  have A:∀(y:Bool)(x:Act)(d:aj),(y=true↔Gate q (vv i))->x.defers=[]->d.heap.size=B2+1->St Q B2 131 [(13,.bool y),(12,ptr B2),(11,i6 i),(10,i6 a),(9,.bool r),(8,.bool g),(7,i6 n),(6,i6 c),(5,.bool f),(2,ptr u),(1,i6 q)] (bR B2 [i6 (vv i).a,i6 (vv i).c,i6 (vv i).l,i6 (vv i).w,i6 (vv i).n]::bR u [v,.slice (some U) el Z]::sK (some U) vv el::R) 1 x d->Y (G (W.at x (pc prog 23 93 [true,true] [])) (O::J)) d:=by
   intro y x w0 N e T E;cases f with
   |false=>
    cases y with
    |false=>
     refine aq (λM=>M) 1 F I o e E 25 [] 87381 [] [(5,.bool false),(13,.bool false),(12,ptr B2),(11,i6 i),(10,i6 a),(9,.bool r),(8,.bool g),(7,i6 n),(6,i6 c),(2,ptr u),(1,i6 q)] 118 11 [] λp d l b m s t=>C false false p d N (λz=>by cases z) b ω (l.dB _ rfl)
    |true=>
     refine aq (λM=>M) 1 F I o e E 25 [] 87383 [] [(5,.bool false),(13,.bool true),(12,ptr B2),(11,i6 i),(10,i6 a),(9,.bool r),(8,.bool g),(7,i6 n),(6,i6 c),(2,ptr u),(1,i6 q)] 118 11 [] λp d l b m s t=>C true false p d N (λz=>by cases z) b ω (l.dB _ rfl)
   |true=>
    cases y with
    |false=>
     refine aq (λM=>M) 1 F I o e E 25 [] 128341 [] [(5,.bool true),(13,.bool false),(12,ptr B2),(11,i6 i),(10,i6 a),(9,.bool r),(8,.bool g),(7,i6 n),(6,i6 c),(2,ptr u),(1,i6 q)] 118 11 [] λp d l b m s t=>C false true p d N (λz=>⟨rfl,rfl⟩) b ω (l.dB _ rfl)
    |true=>
     by_cases h:(vv i).w=q
     .have h':((vv i).w !=q)=false:=by simpa using h
      refine aX (λM=>M) 1 F I o e E 25 [0,0,3,1] 127999 [] [(5,.bool false),(13,.bool true),(12,ptr B2),(11,i6 i),(10,i6 a),(9,.bool r),(8,.bool g),(7,i6 n),(6,i6 c),(2,ptr u),(1,i6 q)] 118 11 [] [] [((vv i).w !=q,false)] [] [] λp d l b m s t=>C true false p d N (λz=>by cases z) b ω (l.dB _ rfl)
     .refine oH (λM=>M) 1 F I o qh e E 19 [0,0,3,1] 7167 [] 4 (.bool false) 112 15 [] [] [((vv i).w !=q,true)] [] [] λd l m s=>KF d ω l.sat.tail.tail ⟨i,ω,N.1 rfl,h,hL.1 rfl⟩
  by_cases h1:(vv i).l=0
  .have h:((vv i).l==0)=true:=by simpa using h1
   by_cases h:(vv i).w=q
   .have j:((vv i).w==q)=true:=by simpa using h
    refine aX (λM=>bR (B2) [i6 (vv i).a,i6 (vv i).c,i6 (vv i).l,i6 (vv i).w,i6 (vv i).n]::(M)) 1 F I o e E 41 [0,0,1,1,0,0,1,1,1,i,0,105,0,0,0,5,0,0,2,2] 8372202 [] [(13,.bool true),(12,ptr B2),(11,i6 i),(10,i6 a),(9,.bool r),(8,.bool g),(7,i6 n),(6,i6 c),(5,.bool f),(2,ptr u),(1,i6 q)] 93 7 [] [] [((vv i).w==q,true),((vv i).l==0,true),(decide ((↑i:Int)<(↑el:Int)),true)] [((↑i:Int),el)] [(5,(i,el))] λp d l b m s t=>A true p d ⟨λ_=>⟨h1,.inl h⟩,λ_=>rfl⟩ b ω (l.dB _ rfl)
   .refine aX (λM=>bR (B2) [i6 (vv i).a,i6 (vv i).c,i6 (vv i).l,i6 (vv i).w,i6 (vv i).n]::(M)) 1 F I o e E 41 [0,0,1,1,0,0,1,1,1,i,0,105,0,0,0,5,0,0,2,2,0,0,3,1] 7684074 [] [(13,.bool ((vv i).w==7)),(12,ptr B2),(11,i6 i),(10,i6 a),(9,.bool r),(8,.bool g),(7,i6 n),(6,i6 c),(5,.bool f),(2,ptr u),(1,i6 q)] 93 7 [] [] [((vv i).w==q,false),((vv i).l==0,true),(decide ((↑i:Int)<(↑el:Int)),true)] [((↑i:Int),el)] [(5,(i,el))] λp d l b m s t=>A ((vv i).w==7) p d ⟨λz=>⟨h1,.inr (by simpa using z)⟩,λz=>by rcases z.2 with y|y;exact absurd y h;simpa using y⟩ b ω (l.dB _ rfl)
  .refine aX (λM=>bR (B2) [i6 (vv i).a,i6 (vv i).c,i6 (vv i).l,i6 (vv i).w,i6 (vv i).n]::(M)) 1 F I o e E 41 [0,0,1,1,0,0,1,1,1,i,0,105,0,0,0,5,0,0,2,1] 87370 [] [(13,.bool false),(12,ptr B2),(11,i6 i),(10,i6 a),(9,.bool r),(8,.bool g),(7,i6 n),(6,i6 c),(5,.bool f),(2,ptr u),(1,i6 q)] 93 7 [] [] [((vv i).l==0,false),(decide ((↑i:Int)<(↑el:Int)),true)] [((↑i:Int),el)] [(5,(i,el))] λp d l b m s t=>A false p d ⟨λz=>(by cases z),λz=>absurd z.1 h1⟩ b ω (l.dB _ rfl)
def aaf(q:Int)(L:LS)(m:Nat):Prop:=Fst q L.ev L.el/\∀c,c<m->yE q L.ev L.el c (L.ou c).a (L.ou c).b
def ET(b:Bk):Prop:=b.k=2/\b.ch=[⟨3,0,0⟩]
def Lt.fin{L:LS}{g r:Bool}(h:Lt q c L.ev L.el f g r n a)(e:aaf q L m)(o:q≠7)(d:c<m):n=1/\((r=false/\¬ET (L.ou c).b)\/(r=true/\ET (L.ou c).b/\g=false/\(L.ou c).a=a)):=by
 let⟨_,k,a,i⟩:=h;rcases e.2 c d with ⟨⟨c,a⟩,m⟩|⟨⟨c,a⟩,l⟩
 .have d:n=1:=k.trans c;let⟨j,g,f,e,h,b⟩:=i ω;rw[a j g f e]at b;refine⟨d,.inl ⟨by rw[b];simpa using o,λz=>?_⟩⟩;exact m ⟨3,0,0⟩ (by rw[z.2];exact bI ..) rfl rfl
 .have d:n=1:=k.trans c;let⟨j,g,f,e,h,b⟩:=i ω;let⟨i,c⟩:=(a j g e).2 f;exact⟨d,.inr ⟨by rw[b,i];rfl,by rw[l];exact⟨rfl,rfl⟩,χ,by rw[h,c]⟩⟩
def aaM(F:aB prog D (DX Q) Y)(m:HB B Q)(e:W.kind=.normal)(k:W.fn=23){E H:ay}{s Bo:Nat}{g r z:Bool}{p ok on:Int}(L:c<9){A:Act}{w:aj}(d:A.defers=[])(L:B<=B2)(B:w.heap.size=B2)(o:St Q B2 131 [(15,.bool z),(14,ptr Bo),(10,i6 a),(9,.bool r),(8,.bool g),(7,i6 n),(6,i6 c),(5,.bool f),(2,ptr s),(1,i6 q)] (bR Bo [i6 p,i6 ok,i6 on,H]::bR s [v,E]::R) 0 A w)(u:∀w',w.heap.size<=w'.heap.size->Sat Q w' R->¬(n=1/\(r=false/\z=false\/r=true/\z=true/\g=false/\p=a))->Y (G (O.finish (.bool false)) J) w')(K:∀C w',w.heap.size<=w'.heap.size->C.defers=[]->aR [(6,i6 ((c+1:Nat):Int)),(5,.bool f),(2,ptr s),(1,i6 q)] 131 C->Sat Q w' (bR s [v,E]::R)->Y (G (W.at C (pc prog 23 16 [] [])) (O::J)) w'):Y (G (W.at A (pc prog 23 94 [true,false] [])) (O::J)) w:=by
 have t:wp c=((c+1:Nat):Int):=j6;by_cases I:n=1
 .have v:((n:Int) !=1)=false:=θ
  cases z with
  |false=>
   cases r with
   |false=>
    refine TP F m e d o 31 [] 1398100 [] [(6,i6 (wp c)),(5,.bool f),(2,ptr s),(1,i6 q)] 125 9 [] [] [((↑n:Int) !=1,false)] [] [] λy h b l i j x=>?_;rw[t]at b;exact K y h ω l (b.dB _ rfl).env b.sat.tail
   |true=>
    refine ZI F m e k d o 27 [] 32724 [] 4 (.bool false) 121 13 [] [] [((↑n:Int) !=1,false)] [] [] λh b i j=>u h ω b.sat.tail.tail ψ
  |true=>
   cases r with
   |false=>
    refine ZI F m e k d o 27 [] 32724 [] 4 (.bool false) 121 13 [] [] [((↑n:Int) !=1,false)] [] [] λh b i j=>u h ω b.sat.tail.tail ψ
   |true=>
    cases g with
    |true=>
     refine ZI F m e k d o 27 [] 503315796 [] 4 (.bool false) 121 13 [] [] [((↑n:Int) !=1,false)] [] [] λh b i j=>u h ω b.sat.tail.tail ψ
    |false=>
     by_cases g:p=a
     .have r:(p !=a)=false:=by simpa using g
      refine TP F m e d o 31 [0,0,0,1] 299203924 [] [(6,i6 (wp c)),(5,.bool f),(2,ptr s),(1,i6 q)] 125 9 [] [] [(p !=a,false),((↑n:Int) !=1,false)] [] [] λy h b l i j x=>?_;rw[t]at b;exact K y h ω l (b.dB _ rfl).env b.sat.tail
     .refine ZI F m e k d o 27 [0,0,0,1] 433421652 [] 4 (.bool false) 121 13 [] [] [(p !=a,true),((↑n:Int) !=1,false)] [] [] λh b i j=>u h ω b.sat.tail.tail (by simp[g])
 .refine ZI F m e k d o 27 [] 32766 [] 4 (.bool false) 121 13 [] [] [((↑n:Int) !=1,true)] [] [] λh b i j=>u h ω b.sat.tail.tail λz=>I z.1
def aaN(F:aB prog D (DX Q) Y)(A:HB B Q)(d:W.kind=.normal){k:Nat}{b:Nat->Se}{l:bU}{g r:Bool}(N:c<m)(N:m<=9)(N:0<(b c).b.ch.length->∃h,os c=some h/\Has C (gQ h (b c).b.ch)){R:Act}{w:aj}(O:R.defers=[])(V:B<=B2)(B:w.heap.size=B2)(V:St Q B2 131 [(10,i6 a),(9,.bool r),(8,.bool g),(7,i6 n),(6,i6 c),(5,.bool f),(2,ptr k),(1,i6 q)] (bR k [.slice (some ⟨o,0,none⟩) m m,v]::sK X vv el::SY o b os l m::C) 0 R w)(K:∀(z:Bool) B S w',(z=true↔ET (b c).b)->w'.heap.size=B2+1->S.defers=[]->aR [(15,.bool z),(14,ptr B2),(10,i6 a),(9,.bool r),(8,.bool g),(7,i6 n),(6,i6 c),(5,.bool f),(2,ptr k),(1,i6 q)] 131 S->Sat Q w' (bR B2 [i6 (b c).a,i6 (b c).b.k,i6 (b c).b.n,B]::bR k [.slice (some ⟨o,0,none⟩) m m,v]::sK X vv el::SY o b os l m::C)->Y (G (W.at S (pc prog 23 94 [true,false] [])) J) w'):Y (G (W.at R (pc prog 23 62 [true,false] [])) J) w:=by
 refine aX (λM=>bR (B2) [i6 (b c).a,i6 (b c).b.k,i6 (b c).b.n,.slice (os c) (List.length (b c).b.ch) (l c)]::(M)) 1 F A d O V 11 [0,0,0,1,2,c,0,104,0,0,0,4] 6 [] [(14,ptr B2),(10,i6 a),(9,.bool r),(8,.bool g),(7,i6 n),(6,i6 c),(5,.bool f),(2,ptr k),(1,i6 q)] 73 5 [] [] [] [((↑c:Int),m)] [(4,(c,m))] λm m j t m m m=>?_;by_cases P:(b c).b.k=2
 .have m:((b c).b.k==2)=true:=by simpa using P
  by_cases U:(b c).b.ch.length=1
  .let⟨h,m,y⟩:=N ω;let⟨x,ex⟩:=List.length_eq_one_iff.1 U;rw[ex]at y j;rw[m]at j;replace j:=St.mk j.env (j.sat.get y.cons.cons.cons.cons) j.sz;refine aX (λM=>M) 1 F A d t j 17 [1,0,1,1,1,0,3,1,1,0,3,1,0,0,0,3] 2080766 [] [(109,.agg #[i6 3,i6 0,i6 0]),(104,.bool true),(108,.agg #[i6 (List.getD [x] 0 (iN.mk 0 0 0)).k,i6 (List.getD [x] 0 (iN.mk 0 0 0)).l,i6 (List.getD [x] 0 (iN.mk 0 0 0)).n]),(107,.pointer (some (Addr.add h (Int.toNat 0*3)))),(106,.slice (some h) 1 (l c)),(105,.pointer (some (Addr.mk B2 3 none))),(102,.bool true),(101,i6 1),(100,.slice (some h) 1 (l c)),(99,.pointer (some (Addr.mk B2 3 none))),(14,ptr B2),(10,i6 a),(9,.bool r),(8,.bool g),(7,i6 n),(6,i6 c),(5,.bool f),(2,ptr k),(1,i6 q)] 90 5 [] [] [((b c).b.k==2,true)] [(0,1)] [] λL I i e p u H=>eqS F d 108 109 110 x ρ ρ ρ δ rfl rfl i λm E s=>?_;rw[show jB (pc prog 23 90 (Bo 5) [])=pc prog 23 91 [true,false] [] by kernel_rfl];replace s:=s.trans e;have T:(x.k==3&&(x.l==0&&(x.n==0&&true)))=true↔ET (b c).b:=by
    unfold ET;rw[ex];let⟨_,_,m⟩:=x;simp[P]
   generalize (x.k==3&&(x.l==0&&(x.n==0&&true)))=z at E T;have o:=St.mk E i.sat i.sz;have m:=p;refine aq (λM=>M) 1 F A d s o 3 [] 1 [] [(15,.bool z),(110,.bool z),(109,.agg #[i6 3,i6 0,i6 0]),(108,.agg #[i6 (List.getD [x] 0 (iN.mk 0 0 0)).k,i6 (List.getD [x] 0 (iN.mk 0 0 0)).l,i6 (List.getD [x] 0 (iN.mk 0 0 0)).n]),(107,.pointer (some (Addr.add h (Int.toNat 0*3)))),(106,.slice (some h) 1 (l c)),(105,.pointer (some (Addr.mk B2 3 none))),(102,.bool true),(101,i6 1),(100,.slice (some h) 1 (l c)),(99,.pointer (some (Addr.mk B2 3 none))),(14,ptr B2),(10,i6 a),(9,.bool r),(8,.bool g),(7,i6 n),(6,i6 c),(5,.bool f),(2,ptr k),(1,i6 q)] 94 5 [] λw o m h v v v=>K z _ w o T ω h (m.dB _ rfl).env m.sat.tail
  .refine aX (λM=>M) 1 F A d t j 21 [0,0,1,1,0,0,3,1] 1398014 [] [(15,.bool false),(110,.tuple #[]),(109,.tuple #[]),(108,.tuple #[]),(107,.tuple #[]),(106,.tuple #[]),(105,.tuple #[]),(102,.bool ((↑(List.length (b c).b.ch):Int)==1)),(101,i6 (↑(List.length (b c).b.ch):Int)),(100,.slice (os c) (List.length (b c).b.ch) (l c)),(99,.pointer (some (Addr.mk B2 3 none))),(14,ptr B2),(10,i6 a),(9,.bool r),(8,.bool g),(7,i6 n),(6,i6 c),(5,.bool f),(2,ptr k),(1,i6 q)] 94 5 [] [] [((↑(List.length (b c).b.ch):Int)==1,false),((b c).b.k==2,true)] [] [] λL I i e p u H=>K false _ L I ⟨λz=>(by cases z),λz=>absurd (by rw[z.2];rfl) U⟩ ω e (i.dB _ rfl).env i.sat
 .refine aX (λM=>M) 1 F A d t j 21 [0,0,1,1] 1398100 [] [(15,.bool false),(110,.tuple #[]),(109,.tuple #[]),(108,.tuple #[]),(107,.tuple #[]),(106,.tuple #[]),(105,.tuple #[]),(102,.tuple #[]),(101,.tuple #[]),(100,.tuple #[]),(99,.tuple #[]),(14,ptr B2),(10,i6 a),(9,.bool r),(8,.bool g),(7,i6 n),(6,i6 c),(5,.bool f),(2,ptr k),(1,i6 q)] 94 5 [] [] [((b c).b.k==2,false)] [] [] λL I i e p u H=>K false _ L I ⟨λz=>(by cases z),λz=>absurd z.1 P⟩ ω e (i.dB _ rfl).env i.sat
def aav(F:aB prog D (DX Q) Y)(h:HB B Q){W:aC}(b:W.kind=.normal)(d:W.fn=23){O:aC}{J:cO}{C:aW}{X:eP}{ec o m Bt:Nat}{q:Int}{L:LS}{os:p9}{P:bU}(x:L.el<1000000)(hm:m<=9)(hq:q≠7)(A:0<L.el->∃a,X=some a)(u:∀j,j<m->0<(L.ou j).b.ch.length->∃ca,os j=some ca/\Has C (gQ ca (L.ou j).b.ch)):
 ∀(k c:Nat)(f:Bool)(E:Act)(w:aj)(B2:Nat),c+k=m->E.defers=[]->B<=B2->w.heap.size=B2->
   St Q B2 131 [(6,i6 c),(5,.bool f),(2,ptr Bt),(1,i6 q)] (bR Bt [.slice (some ⟨o,0,none⟩) m m,.slice X L.el ec]::sK X L.ev L.el::SY o L.ou os P m::C) 0 E w->
   (∀r w',w.heap.size<=w'.heap.size->(aaf q L m->r=true)->Sat Q w' (sK X L.ev L.el::SY o L.ou os P m::C)->Y (G (O.finish (.bool r)) J) w')->
   Y (G (W.at E (pc prog 23 16 [] [])) (O::J)) w
 |0,c,f,E,w,B2,hi,e,v,S,H,K=>by
  have B:decide ((c:Int)<(m:Int))=false:=θ
  generalize L.el=el at*;refine ZI F h b d e H 15 [0,0,0,1] 4 [] 4 (.bool true) 31 2 [] [] [(decide ((↑c:Int)<(↑m:Int)),false)] [] [] λI l R T=>K true I ω (λ_=>rfl) l.sat.tail
 |k+1,c,f,E,w,B2,hi,e,v,S,H,K=>by
  have hf:∀w':World,w.heap.size<=w'.heap.size->¬aaf q L m->Sat Q w' (sK X L.ev L.el::SY o L.ou os P m::C)->Y (G (O.finish (.bool false)) J) w':=λw' t s p=>K false w' t (λy=>absurd y s) p;generalize hE:L.el=el at H;refine TP F h b e H 36 [0,0,0,1] 6 [] [(11,i6 0),(10,i6 0),(9,.bool false),(8,.bool false),(7,i6 0),(6,i6 c),(5,.bool f),(2,ptr Bt),(1,i6 q)] 52 3 [] [] [(decide ((↑c:Int)<(↑m:Int)),true)] [] [] λm I l V R T e=>?_;rw[<-hE]at l;refine aaw F h b d x A L.el 0 f false false 0 0 m I B2 ω ⟨λ_ j e=>ω,rfl,λz=>(by cases z),λz=>absurd rfl z⟩ V v ω ⟨(l.dB _ rfl).env,l.sat,l.sz⟩ (λw' t s p=>hf w' ω (λz=>?_) s) λf g r n a a C t G g n m=>?_
  .let⟨i,w,o,v,q⟩:=p;let⟨j,e,a,B⟩:=z.1 i w o.1 (by rcases o.2 with y|y;exact absurd y v;exact y);exact q j e ⟨a,.inl B⟩
  .refine aaN F h b ω hm (u c ω) g (B2:=C.heap.size) ω rfl ⟨n,m,rfl⟩ λz g g m hz g g j i=>aaM F h b d ω g (B2:=m.heap.size) ω rfl ⟨j,i,rfl⟩ (λw' t s p=>hf w' ω (λy=>p ?_) s) λa4 w4 t U KU Z=>?_
   .let⟨e,a⟩:=G.fin y hq ω;refine⟨e,?_⟩;rcases a with ⟨N,M⟩|⟨N,M,u3,u4⟩
    .exact .inl ⟨N,by cases z with|false=>rfl|true=>exact absurd (hz.1 rfl) M⟩
    .exact .inr ⟨N,hz.2 M,u3,u4⟩
   .exact aav F h b d x hm hq A u k (c+1) f a4 w4 w4.heap.size ω U ω rfl ⟨KU,Z,rfl⟩ λr w' z=>K r w' ω
def aay(F:aB prog D (DX Q) Y)(i:HB B Q){w:aj}{k:Nat}{L:LS}{f:bU}(d:L.el<1000000)(n:m<=9)(l:q≠7)(e:0<L.el->∃a,X=some a)(c:∀j,j<m->0<(L.ou j).b.ch.length->∃a,os j=some a/\Has C (gQ a (L.ou j).b.ch))(g:Sat Q w (sK X L.ev L.el::SY o L.ou os f m::C))(a:B<=w.heap.size)(K:∀r w',w.heap.size<=w'.heap.size->(aaf q L m->r=true)->Sat Q w' (sK X L.ev L.el::SY o L.ou os f m::C)->Y (G (O.finish (.bool r)) J) w'):Y (G (Frame.enter prog 23 #[.agg #[.slice (some ⟨o,0,none⟩) m m,.slice X L.el k],i6 q] .normal) (O::J)) w:=by
 generalize p:L.el=el;refine cJ func23 g 131 λW a h a a g f s j=>aq (λM=>bR (h) [.slice (some ⟨o,0,none⟩) m m,.slice X el k]::(M)) 1 F i a f s 16 [] 1 [] [(6,i6 0),(5,.bool true),(2,ptr h),(1,i6 q)] 16 1 [] λo j b f k k k=>?_;rw[<-p]at b;exact aav F i a g d n l e c m 0 true o j (h+1) ω f ω ω ⟨b.env,b.sat,b.sz⟩ λr w' z=>K r w' ω
abbrev kR(a:Addr)(vs:iO):aH:=⟨λj=>a.add j.2,vs,λ_ _=>undef,1,vs.length,false,none⟩
def Sat.view{w:aj}{p:Nat}{k:aH}(h:Sat Q w M)(m:nth M p=some r)(A:r.wr=false)(l:k.wr=false)(B:k.row=none)(o:Ix->Ix)(f:∀j,k.has j->r.has (o j)/\k.ad j=r.ad (o j)/\k.get j=r.get (o j)):Sat Q w (k::M):=by
 refine⟨λi s d j a=>?_,λi s d j a=>?_,λi s k k d u b j t y x e=>?_,λi s d g e n v=>?_⟩
 .rcases iB d with ⟨q,rfl,c⟩|⟨rfl,rfl⟩
  .exact h.val _ _ c j a
  .rw[(f j a).2.1,(f j a).2.2];exact h.val p r m _ (f j a).1
 .rcases iB d with ⟨q,rfl,c⟩|⟨rfl,rfl⟩
  .exact h.ok _ _ c j a
  .rw[(f j a).2.1];exact⟨(h.ok p r m _ (f j a).1).1,λz=>by rw[l]at z;cases z⟩
 .rcases iB d with ⟨q,rfl,c⟩|⟨rfl,rfl⟩
  .rcases iB u with ⟨a,rfl,C⟩|⟨rfl,rfl⟩
   .have:=h.sep _ _ _ _ c C b j t y x e;exact⟨ω,this.2⟩
   .have:=h.sep _ _ _ _ c m b j _ y (f t x).1 (e.trans (f t x).2.1);obtain⟨rfl,_⟩:=this;rw[c]at m;cases m;rw[A]at b;cases b
  .rw[l]at b;cases b
 .rcases iB d with ⟨q,rfl,c⟩|⟨rfl,rfl⟩
  .exact h.row _ _ c g e n v
  .rw[B]at v;cases v
def aaJ(F:aB prog D (DX Q) Y)(t:HB B Q)(c:W.kind=.normal){U:Addr}{a:Nat}{s b r p o:Int}{q g len:Nat}{f:Nat->Int}(e:k<n)(e:n<=6)(e:i<=j)(e:j<len)(e:len<1000000){h:Act}{w:aj}(e:h.defers=[])(v:B<=B2)(v:w.heap.size=B2)(v:0<=f i/\f i<=f j/\f j<1000000000000/\1<=b/\b<=20/\((j:Int)-i+1-b)*Int.ofNat (a+1)<=f j-f i)(y:St Q B2 128 [(13,i6 j),(12,i6 i),(10,.slice (some ⟨g,0,none⟩) len cap),(9,i6 k),(5,ptr q),(0,.slice (some U) n S)] (kR (U.add (k*6)) [i6 s,i6 (Int.ofNat (a+1)),i6 b,i6 r,i6 p,i6 o]::vR (some ⟨g,0,none⟩) 1 (λj=>[i6 (f j)]) len cap 3::R) 0 h w)(K:∀l w',w.heap.size<=w'.heap.size->l.defers=[]->aR [(13,i6 ((j+1:Nat):Int)),(12,i6 i),(10,.slice (some ⟨g,0,none⟩) len cap),(9,i6 k),(5,ptr q),(0,.slice (some U) n S)] 128 l->Sat Q w' (kR (U.add (k*6)) [i6 s,i6 (Int.ofNat (a+1)),i6 b,i6 r,i6 p,i6 o]::vR (some ⟨g,0,none⟩) 1 (λj=>[i6 (f j)]) len cap 3::R)->Y (G (W.at l (pc prog 12 134 [false,false,true,false,false,true] [])) J) w'):
 Y (G (W.at h (pc prog 12 134 [false,false,true,false,false,true] [])) J) w:=by
 refine TP F t c e y 16 [1,j,0,101,1,i,0,101,0,0,1,2] 1706 [25] [(127,.bool (decide (IntKind.wrap .i64 (IntKind.wrap .i64 ((↑j:Int)-(↑i:Int))+1)>IntKind.wrap .i64 (IntKind.wrap .i64 (Int.tdiv (IntKind.wrap .i64 (f j-f i)) (Int.ofNat (a+1)))+b)))),(13,i6 j),(12,i6 i),(10,.slice (some ⟨g,0,none⟩) len cap),(9,i6 k),(5,ptr q),(0,.slice (some U) n S)] 150 228 [25] [] [(decide ((↑j:Int)<(↑len:Int)),true)] [((↑k:Int),n),((↑k:Int),n),((↑i:Int),len),((↑j:Int),len)] [(1,(i,len)),(1,(j,len))] λe e u d e e e=>?_;have x:decide (IntKind.wrap .i64 (IntKind.wrap .i64 ((j:Int)-(i:Int))+1)>IntKind.wrap .i64 (IntKind.wrap .i64 (Int.tdiv (IntKind.wrap .i64 (f j-f i)) (Int.ofNat (a+1)))+b))=false:=by
  rw[aA (n:=(j:Int)-i) ω ω,aA (n:=(j:Int)-i+1) ω ω,aA (n:=f j-f i) ω ω];have e:0<=Int.tdiv (f j-f i) (Int.ofNat (a+1)):=Int.tdiv_nonneg ω θ;have e:Int.tdiv (f j-f i) (Int.ofNat (a+1))<=f j-f i:=Int.tdiv_le_self _ ω;rw[aA (n:=Int.tdiv (f j-f i) (Int.ofNat (a+1))) ω ω,aA ω ω];have e:(j:Int)-i+1-b<=Int.tdiv (f j-f i) (Int.ofNat (a+1)):=by
   rw[Int.tdiv_eq_ediv_of_nonneg ω];exact(Int.le_ediv_iff_mul_le ψ).2 v.2.2.2.2.2
  generalize Int.tdiv (f j-f i) (Int.ofNat (a+1))=z at*;simp only[decide_eq_false_iff_not];omega
 rw[x]at u;refine Rb F t c d u 9 [] 5 [] [(13,i6 (IntKind.wrap .i64 ((↑j:Int)+1))),(12,i6 i),(10,.slice (some ⟨g,0,none⟩) len cap),(9,i6 k),(5,ptr q),(0,.slice (some U) n S)] 159 356 [25] λd b m a c c c=>?_;rw[show IntKind.wrap .i64 ((j:Int)+1)=((j+1:Nat):Int) by rw[aA ω ω];rfl]at m;rw[show pc prog 12 159 (Bo 356) [25]=pc prog 12 134 [false,false,true,false,false,true] [] by kernel_rfl];exact K d b ω a (m.dB _ rfl).env m.sat
def aap(F:aB prog D (DX Q) Y)(v:HB B Q){W:aC}(e:W.kind=.normal){J:cO}{R:aW}{U:Addr}{y:Nat}{H l E C A:Int}{n S k q i g len cap:Nat}{f:Nat->Int}(L:k<n)(I:n<=6)(b:len<1000000)(p:1<=l/\l<=20)(t:∀j,j<len->0<=f j/\f j<1000000000000/\∀i,i<=j->f i<=f j/\((j:Int)-i+1-l)*Int.ofNat (y+1)<=f j-f i)(M:i<len)(K:∀m w',B<=w'.heap.size->m.defers=[]->aR [(12,i6 ((i+1:Nat):Int)),(10,.slice (some ⟨g,0,none⟩) len cap),(9,i6 k),(5,ptr q),(0,.slice (some U) n S)] 128 m->Sat Q w' (kR (U.add (k*6)) [i6 H,i6 (Int.ofNat (y+1)),i6 l,i6 E,i6 C,i6 A]::vR (some ⟨g,0,none⟩) 1 (λj=>[i6 (f j)]) len cap 3::R)->Y (G (W.at m (pc prog 12 115 [false,false,true,false,false] [])) J) w'):
 ∀(r j:Nat)(h:Act)(w:aj),j+r=len->i<=j->h.defers=[]->B<=w.heap.size->
   aR [(13,i6 j),(12,i6 i),(10,.slice (some ⟨g,0,none⟩) len cap),(9,i6 k),(5,ptr q),(0,.slice (some U) n S)] 128 h->Sat Q w (kR (U.add (k*6)) [i6 H,i6 (Int.ofNat (y+1)),i6 l,i6 E,i6 C,i6 A]::vR (some ⟨g,0,none⟩) 1 (λj=>[i6 (f j)]) len cap 3::R)->
   Y (G (W.at h (pc prog 12 134 [false,false,true,false,false,true] [])) J) w
 |0,j,h,w,O,a,d,c,x,u=>by
  have s:IntKind.wrap .i64 ((i:Int)+1)=((i+1:Nat):Int):=by rw[aA ω ω];rfl
  have N:St Q w.heap.size 128 _ _ 0 h w:=⟨x,u,rfl⟩;have o:w.heap.size=w.heap.size:=rfl;generalize w.heap.size=B2 at N o c;refine TP F v e d N 17 [] 4 [] [(12,i6 (IntKind.wrap .i64 ((↑i:Int)+1))),(10,.slice (some ⟨g,0,none⟩) len cap),(9,i6 k),(5,ptr q),(0,.slice (some U) n S)] 151 164 [] [] [(decide ((↑j:Int)<(↑len:Int)),false)] [] [] λl g z f k k k=>?_;rw[s]at z;rw[show pc prog 12 151 (Bo 164) []=pc prog 12 115 [false,false,true,false,false] [] by kernel_rfl];exact K l g ω f (z.dB _ rfl).env z.sat
 |r+1,j,h,w,O,a,d,c,x,u=>by
  have f:=t j ω;have g:=t i M;exact aaJ F v e L I a ω b d c rfl ⟨g.1,(f.2.2 i a).1,f.2.1,p.1,p.2,(f.2.2 i a).2⟩ ⟨x,u,rfl⟩ λm w' a f d a=>aap F v e L I b p t M K r (j+1) m w' ω ω f ω d a
def aaq(F:aB prog D (DX Q) Y)(u:HB B Q){W:aC}(a:W.kind=.normal){J:cO}{R:aW}{U:Addr}{sa:eP}{O:Nat}{X t V T P:Int}{n S k q len cap:Nat}{f:Nat->Int}(M:k<n)(L:n<=6)(b:len<1000000)(o:0<len->∃g,sa=some ⟨g,0,none⟩)(I:1<=t/\t<=20)(N:∀j,j<len->0<=f j/\f j<1000000000000/\∀i,i<=j->f i<=f j/\((j:Int)-i+1-t)*Int.ofNat (O+1)<=f j-f i)(K:∀p w',B<=w'.heap.size->p.defers=[]->aR [(9,i6 ((k+1:Nat):Int)),(5,ptr q),(0,.slice (some U) n S)] 128 p->Sat Q w' R->Y (G (W.at p (pc prog 12 63 [false,false] [])) J) w'):
 ∀(r i:Nat)(l:Act)(w:aj),i+r=len->l.defers=[]->B<=w.heap.size->
   aR [(12,i6 i),(10,.slice sa len cap),(9,i6 k),(5,ptr q),(0,.slice (some U) n S)] 128 l->Sat Q w (kR (U.add (k*6)) [i6 X,i6 (Int.ofNat (O+1)),i6 t,i6 V,i6 T,i6 P]::vR sa 1 (λj=>[i6 (f j)]) len cap 3::R)->
   Y (G (W.at l (pc prog 12 115 [false,false,true,false,false] [])) J) w
 |0,i,l,w,Z,h,d,C,A=>by
  have f:decide ((i:Int)<(len:Int))=false:=θ
  have z:IntKind.wrap .i64 ((k:Int)+1)=((k+1:Nat):Int):=by rw[aA ω ω];rfl
  have s:St Q w.heap.size 128 _ R 0 l w:=⟨C,A.tail.tail,rfl⟩;have c:w.heap.size=w.heap.size:=rfl;generalize w.heap.size=B2 at s c d;refine TP F u a h s 17 [] 4 [] [(9,i6 (IntKind.wrap .i64 ((↑k:Int)+1))),(5,ptr q),(0,.slice (some U) n S)] 132 68 [] [] [(decide ((↑i:Int)<(↑len:Int)),false)] [] [] λH v m e x y E=>?_;rw[z]at m;rw[show pc prog 12 132 (Bo 68) []=pc prog 12 63 [false,false] [] by kernel_rfl];exact K H v ω e (m.dB _ rfl).env m.sat
 |r+1,i,l,w,Z,h,d,C,A=>by
  obtain⟨g,rfl⟩:=o ω;have s:St Q w.heap.size 128 _ _ 0 l w:=⟨C,A,rfl⟩;have c:w.heap.size=w.heap.size:=rfl;generalize w.heap.size=B2 at s c d;refine TP F u a h s 19 [] 6 [] [(13,i6 i),(12,i6 i),(10,.slice (some ⟨g,0,none⟩) len cap),(9,i6 k),(5,ptr q),(0,.slice (some U) n S)] 134 100 [] [] [(decide ((↑i:Int)<(↑len:Int)),true)] [] [] λH v m e x y E=>aap F u a M L b I N ω (λp w' j h g f=>aaq F u a M L b o I N K r (i+1) p w' ω h j g f) (r+1) i H v ω (az _) e ω (m.dB _ rfl).env m.sat
def JG{k:Int}{vv:Nat->OZ}:∀n i,i<=n->(tv k vv i).length<=(tv k vv n).length/\∀j,j<(tv k vv i).length->(tv k vv n).getD j 0=(tv k vv i).getD j 0
 |0,i,h=>by
  have:i=0:=ω
  subst this;exact⟨az _,λ_ _=>rfl⟩
 |n+1,i,h=>by
  by_cases e:i=n+1
  .subst e;exact⟨az _,λ_ _=>rfl⟩
  .let⟨c,a⟩:=JG (k:=k) (vv:=vv) n i ω;simp only[tv];split
   .refine⟨θ,λj b=>?_⟩;rw[<-a j b];simp[nO (show j<(tv k vv n).length by omega)]
   .exact⟨c,a⟩
def Ib{k:Int}{vv:Nat->OZ}:∀n,(tv k vv n).length<=n
 |0=>az _
 |n+1=>by
  have:=Ib (k:=k) (vv:=vv) n;simp only[tv];split
  .simp;omega
  .omega
def aaI:Qc prog 58 3 1 8=true:=ρ
def aas(x:Int):∀u∈[i6 x],u.oneCell'=true:=by simp[Value.oneCell']
def aar(F:aB prog D (DX Q) Y)(C:HB B Q){W:aC}(c:W.kind=.normal){J:cO}{R:aW}{U:Addr}{X:eP}{n S k q el ec:Nat}{vv:Nat->OZ}{v:ay}(hk:k<n)(hn:n<=6)(Ty:el<1000000)(Z:0<el->∃a,X=some a)(K:∀a' w' sa cap vs,B<=w'.heap.size->a'.defers=[]->Vc Q sa (tv k vv el).length cap->aR [(12,i6 ((0:Nat):Int)),(10,.slice sa (tv k vv el).length cap),(9,i6 k),(5,ptr q),(0,.slice (some U) n S)] 128 a'->Sat Q w' (vR sa 1 (λj=>[i6 ((tv k vv el).getD j 0)]) (tv k vv el).length cap 3::sR sa 1 vs (tv k vv el).length cap::bR q [v,.slice X el ec]::sK X vv el::R)->Y (G (W.at a' (pc prog 12 115 [false,false,true,false,false] [])) J) w'):
 ∀(r i:Nat)(H:Act)(w:aj)(sa:eP)(cap:Nat)(vs:eX),i+r=el->H.defers=[]->B<=w.heap.size->Vc Q sa (tv k vv i).length cap->
   aR [(11,i6 i),(10,.slice sa (tv k vv i).length cap),(9,i6 k),(5,ptr q),(0,.slice (some U) n S)] 128 H->Sat Q w (vR sa 1 (λj=>[i6 ((tv k vv el).getD j 0)]) (tv k vv i).length cap 3::sR sa 1 vs (tv k vv i).length cap::bR q [v,.slice X el ec]::sK X vv el::R)->
   Y (G (W.at H (pc prog 12 98 [false,false,true,false] [])) J) w
 |0,i,H,w,sa,cap,vs,hi,g,t,P,hA,hS=>by
  have B:decide ((i:Int)<(el:Int))=false:=θ
  have e:i=el:=ω
  subst e;generalize hl:(tv k vv i).length=len at*;have I:St Q w.heap.size 128 _ _ 0 H w:=⟨hA,hS,rfl⟩;have o:w.heap.size=w.heap.size:=rfl;generalize w.heap.size=B2 at I o t;refine TP F C c g I 17 [2,0,1,1] 4 [] [(12,i6 0),(10,.slice sa len cap),(9,i6 k),(5,ptr q),(0,.slice (some U) n S)] 115 36 [] [] [(decide ((↑i:Int)<(↑i:Int)),false)] [] [] λl h f b m p E=>K l h sa cap vs ω b P (f.dB _ rfl).env f.sat
 |r+1,i,H,w,sa,cap,vs,hi,g,t,P,hA,hS=>by
  obtain⟨e0,rfl⟩:=Z ω;have s:IntKind.wrap .i64 ((i:Int)+1)=((i+1:Nat):Int):=by rw[aA ω ω];rfl
  have B:=Ib (k:=k) (vv:=vv) i;have T:=JG (k:=k) (vv:=vv) el (i+1) ω;have y:tv k vv (i+1)=if(vv i).l=k/\(vv i).w=6 then tv k vv i++[(vv i).a]else tv k vv i:=rfl;have nx:=λl h sa cap vs=>aar F C c hk hn Ty Z K r (i+1) l h sa cap vs ω;have I:St Q w.heap.size 128 _ _ 0 H w:=⟨hA,hS,rfl⟩;have o:w.heap.size=w.heap.size:=rfl;generalize hB2:w.heap.size=B2 at I o t;by_cases h1:(vv i).l=k
  .have r:((vv i).l==(k:Int))=true:=by simpa using h1
   by_cases h2:(vv i).w=6
   .have r:((vv i).w==6)=true:=by simpa using h2
    rw[sJ ⟨h1,h2⟩]at y;have r:(tv k vv (i+1)).length=(tv k vv i).length+1:=by rw[y];simp
    have V:(tv k vv el).getD (tv k vv i).length 0=(vv i).a:=by rw[T.2 _ ω,y];simp
    rw[r]at nx;generalize (tv k vv i).length=len at*;refine aX (λM=>bR (B2) [i6 (vv i).a]::(M)) 1 F C c g I 43 [2,0,1,1,2,0,1,1,3,i,2,101,2,0,1,1,3,i,3,101,2,0,1,1,3,i,0,101] 28307434 [] [(87,.slice (some ⟨B2,0,none⟩) 1 1),(80,.slice sa len cap),(11,i6 i),(9,i6 k),(5,ptr q),(0,.slice (some U) n S)] 141 116 [] [] [((vv i).w==6,true),((vv i).l==(↑k:Int),true),(decide ((↑i:Int)<(↑el:Int)),true)] [((↑i:Int),el),((↑i:Int),el),((↑i:Int),el)] [(3,(i,el))] λl h f b m p E=>Wn F (λa wr z=>C a wr ω) c 80 87 88 58 3 1 8 1 2 0 aaI ρ ρ δ rfl rfl rfl rfl δ rfl P (λ_ _=>rfl) rfl (aas _) (az _) (by simp only[maxLen];omega) ω f λg' d a N a2 L A OR u=>?_;have r:=A.size;have T0:Sat Q L (bR B2 [i6 (vv i).a]::vR (some ⟨g',0,none⟩) 1 (λj=>[i6 ((tv k vv el).getD j 0)]) (len+1) d 3::sR (some ⟨g',0,none⟩) 1 N (len+1) d::bR q [v,.slice (some e0) el ec]::sK (some e0) vv el::R):=A.sat.re 1 rfl rfl (λj=>[i6 ((tv k vv el).getD j 0)]) λj v x _=>by
     have r:j<len+1:=v;show([i6 ((tv k vv el).getD j 0)]).getD x undef=(a j).getD x undef;by_cases e:j=len
     .subst e;rw[A.new,V]
     .rw[A.old j ω]
    rw[show jB (pc prog 12 141 (Bo 116) [])=pc prog 12 142 [false,false,true,false,true,true] [] by kernel_rfl];have S2:St Q L.heap.size 128 _ _ 0 a2 L:=⟨OR,T0,rfl⟩;replace u:=u.trans b;have O:L.heap.size=L.heap.size:=rfl;generalize hB3:L.heap.size=a at S2 O;refine Rb F C c u S2 9 [] 1 [] [(11,i6 (IntKind.wrap .i64 ((↑i:Int)+1))),(10,.slice (some ⟨g',0,none⟩) (len+1) d),(9,i6 k),(5,ptr q),(0,.slice (some U) n S)] 151 116 [] λr e S3 a j j j=>?_;rw[s]at S3;rw[show pc prog 12 151 (Bo 116) []=pc prog 12 98 [false,false,true,false] [] by kernel_rfl];exact nx r e _ d N a ω A.vc (S3.dB _ rfl).env S3.sat.tail
   .rw[af λz=>h2 z.2]at y;rw[y]at nx;generalize (tv k vv i).length=len at*;refine TP F C c g I 42 [2,0,1,1,2,0,1,1,3,i,2,101,2,0,1,1,3,i,3,101] 5238762 [] [(11,i6 (IntKind.wrap .i64 ((↑i:Int)+1))),(10,.slice sa len cap),(9,i6 k),(5,ptr q),(0,.slice (some U) n S)] 140 84 [] [] [((vv i).w==6,false),((vv i).l==(↑k:Int),true),(decide ((↑i:Int)<(↑el:Int)),true)] [((↑i:Int),el),((↑i:Int),el)] [(2,(i,el))] λl h f b m p E=>?_;rw[s]at f;rw[show pc prog 12 140 (Bo 84) []=pc prog 12 98 [false,false,true,false] [] by kernel_rfl];exact nx l h sa cap vs b ω P (f.dB _ rfl).env f.sat
  .rw[af λz=>h1 z.1]at y;rw[y]at nx;generalize (tv k vv i).length=len at*;refine TP F C c g I 42 [2,0,1,1,2,0,1,1,3,i,2,101] 1398090 [] [(11,i6 (IntKind.wrap .i64 ((↑i:Int)+1))),(10,.slice sa len cap),(9,i6 k),(5,ptr q),(0,.slice (some U) n S)] 140 84 [] [] [((vv i).l==(↑k:Int),false),(decide ((↑i:Int)<(↑el:Int)),true)] [((↑i:Int),el)] [(1,(i,el))] λl h f b m p E=>?_;rw[s]at f;rw[show pc prog 12 140 (Bo 84) []=pc prog 12 98 [false,false,true,false] [] by kernel_rfl];exact nx l h sa cap vs b ω P (f.dB _ rfl).env f.sat
def aao(F:aB prog D (DX Q) Y)(t:HB B Q){W:aC}(b:W.kind=.normal){J:cO}{R:aW}{U X:eP}{n S q el N:Nat}{L:oF}{vv:Nat->OZ}{v:ay}(P:n<=6)(C:0<n->∃a,U=some a)(H:el<1000000)(I:0<el->∃a,X=some a)(E:∀k,k<n->L k 0=3->1<=L k 1/\(1<=L k 2/\L k 2<=20)/\∀j,j<(tv k vv el).length->0<=(tv k vv el).getD j 0/\(tv k vv el).getD j 0<1000000000000/\∀i,i<=j->(tv k vv el).getD i 0<=(tv k vv el).getD j 0/\((j:Int)-i+1-L k 2)*L k 1<=(tv k vv el).getD j 0-(tv k vv el).getD i 0)(K:∀s w',B<=w'.heap.size->s.defers=[]->aR [(4,.bool true)] 128 s->Y (G (W.at s (pc prog 12 77 [false,false,false] [])) J) w'):
 ∀(r k:Nat)(p:Act)(w:aj),k+r=n->p.defers=[]->B<=w.heap.size->
   aR [(9,i6 k),(5,ptr q),(0,.slice U n S)] 128 p->Sat Q w (bR q [v,.slice X el N]::sK X vv el::El U n L::R)->Y (G (W.at p (pc prog 12 63 [false,false] [])) J) w
 |0,k,p,w,hi,f,o,Z,V=>by
  have i:decide ((k:Int)<(n:Int))=false:=θ
  have u:St Q w.heap.size 128 _ _ 0 p w:=⟨Z,V,rfl⟩;have m:w.heap.size=w.heap.size:=rfl;generalize w.heap.size=B2 at u m o;refine TP F t b f u 14 [] 4 [] [(4,.bool true)] 77 8 [] [] [(decide ((↑k:Int)<(↑n:Int)),false)] [] [] λe c l d x A M=>K e c ω d l.env
 |r+1,k,p,w,hi,f,o,Z,V=>by
  obtain⟨h,rfl⟩:=C ω;have O:IntKind.wrap .i64 ((k:Int)+1)=((k+1:Nat):Int):=by rw[aA ω ω];rfl
  have nx:∀e c,e.defers=[]->B<=c.heap.size->aR [(9,i6 ((k+1:Nat):Int)),(5,ptr q),(0,.slice (some h) n S)] 128 e->Sat Q c (bR q [v,.slice X el N]::sK X vv el::El (some h) n L::R)->Y (G (W.at e (pc prog 12 63 [false,false] [])) J) c:=λe c=>aao F t b P C H I E K r (k+1) e c ω;have u:St Q w.heap.size 128 _ (bR q [v,.slice X el N]::sK X vv el::fR h 6 (oG L) n false::R) 0 p w:=⟨Z,V,rfl⟩;have m:w.heap.size=w.heap.size:=rfl;generalize w.heap.size=B2 at u m o;by_cases i:L k 0=3
  .have r:(L k 0 !=3)=false:=by simpa using i
   let⟨r,o2,o3⟩:=E k ω i;refine TP F t b f u 35 [2,k,0,101] 74 [] [(11,i6 0),(10,.slice none 0 0),(9,i6 k),(5,ptr q),(0,.slice (some h) n S)] 98 20 [] [] [(L k 0 !=3,false),(decide ((↑k:Int)<(↑n:Int)),true)] [((↑k:Int),n)] [(1,(k,n))] λe c l d x A M=>?_;have T:Sat Q c (vR none 1 (λj=>[i6 ((tv k vv el).getD j 0)]) 0 0 3::sR none 1 (λ_=>[]) 0 0::bR q [v,.slice X el N]::sK X vv el::fR h 6 (oG L) n false::R):=(l.sat.qj (r:=sR none 1 (λ_=>[]) 0 0) rfl rfl).qj (r:=vR none 1 (λj=>[i6 ((tv k vv el).getD j 0)]) 0 0 3) rfl rfl;have hV:Vc Q none 0 0:=⟨.inl ⟨rfl,rfl,rfl⟩,az _,gl _,λa z=>by cases z⟩;refine aar F t b ω P H I (λs w' sa cap vs z1 z2 z3 z4 a=>?_) el 0 e c none 0 _ ω d ω hV (l.dB _ rfl).env T;have e1:L k 1=Int.ofNat ((L k 1-1).toNat+1):=θ
   have i:=Ib (k:=k) (vv:=vv) el;have hK:Sat Q w' (kR (h.add (k*6)) [i6 (L k 0),i6 (Int.ofNat ((L k 1-1).toNat+1)),i6 (L k 2),i6 (L k 3),i6 (L k 4),i6 (L k 5)]::vR sa 1 (λj=>[i6 ((tv k vv el).getD j 0)]) (tv k vv el).length cap 3::sR sa 1 vs (tv k vv el).length cap::bR q [v,.slice X el N]::sK X vv el::fR h 6 (oG L) n false::R):=by
    refine a.view (p:=4) rfl rfl rfl rfl (λj=>(k,j.2)) λj r=>⟨⟨by show k<n;omega,r.2⟩,rfl,?_⟩
    rw[<-e1];let⟨a,i⟩:=j;have a:i<6:=r.2;match i,a with
    |0,_=>rfl
    |1,_=>rfl
    |2,_=>rfl
    |3,_=>rfl
    |4,_=>rfl
    |5,_=>rfl
   exact aaq F t b ω P ω (λy=>by
    rcases z3.row with a|⟨g,a,_⟩
    .omega
    .exact⟨g,a⟩) o2 (by rw[<-e1];exact o3) (λs w' a j i g=>nx s w' j a i g.tail) (tv k vv el).length 0 s w' ω z2 z1 z4 hK
  .refine TP F t b f u 30 [2,k,0,101] 106 [] [(9,i6 (IntKind.wrap .i64 ((↑k:Int)+1))),(5,ptr q),(0,.slice (some h) n S)] 93 28 [] [] [(L k 0 !=3,true),(decide ((↑k:Int)<(↑n:Int)),true)] [((↑k:Int),n)] [(1,(k,n))] λe c l d x A M=>?_;rw[O]at l;rw[show pc prog 12 93 (Bo 28) []=pc prog 12 63 [false,false] [] by kernel_rfl];exact nx e c d ω (l.dB _ rfl).env l.sat
def zo{b:aC}{a:Act}{fn:Func}{c:eC}{w:aj}(e:b.kind=.normal)(f:P.inits.idxOf? b.fn=none)(i:a.defers=[])(g:P.funcs[b.fn]? =some fn)(d:(results fn a.tmps).run P w=.ok v w)(h:(results fn a.tmps).events P w #[]=#[]):
 stepG P true (G {b.at a c with mode:=.returning} []) w=.ended (.done v) w #[]:=by
 simp[G,stepG,unwind,doReturn,Frame.at,e,i,g,d,h,f,seen,GStep.after]
def Pz:prog.inits.idxOf? 12=none:=ρ
theorem aah(F:aB prog true (DX (cP wI.heap.size l [])) (nM prog Post (Old wI) (jq l) ng))(f:W.kind=.normal)(c:W.fn=12){a:Act}{w:aj}{k:eC}(h:a.defers=[])(j:aR [(4,.bool true)] N a)(i:∀w',Old wI w'->Post (.bool true) w'):nM prog Post (Old wI) (jq l) ng (G (W.at a (.code .ret::k)) []) w:=by
 have b:∀t:List Item,nM prog Post (Old wI) (jq l) ng (G {W.at a t with mode:=.returning} []) w:=λt=>by
  have g:a.tmps.getD 4 undef=.bool true:=by rw[oK,j.val 4 (.bool true) rfl];rfl
  have e:=resultsC_tmp (P:=prog) (fn:=f12) (t:=4) φ a.tmps;rw[g]at e;refine At.Rv (v:=.bool true) (es:=#[]) rfl (λd=>?_) ψ (λd a=>i _ a) gN;exact zo f (by rw[c];exact Pz) h (by rw[c];exact func12) (e _).1 (e _).2
 exact F.ctl (λ_=>stepG_ret') (b _)
def aaj{k:Int}{vv:Nat->OZ}:∀{n:Nat},(∀i,i<n->0<=(vv i).a/\(vv i).a<1000000000000)->∀j,j<(tv k vv n).length->0<=(tv k vv n).getD j 0/\(tv k vv n).getD j 0<1000000000000
 |0,_,j,a=>absurd a (uk _)
 |n+1,h,j,a=>by
  have b:=aaj (k:=k) (n:=n) (λi c=>h i ω) j;have:=h n ω;simp only[tv]at a ⊢;split
  .rename_i z;rw[sJ z]at a;simp at a;by_cases e:j<(tv k vv n).length
   .simpa [nO e]using b e
   .have:j=(tv k vv n).length:=ω
    subst this;simpa using this
  .rename_i z;rw[af z]at a;exact b a
section
variable{L:oF}
theorem Of(H:Ds wI U n L sa m g)(hP:∀w',Old wI w'->Post (.bool true) w'):nM prog Post (Old wI) (jq []) 1 (G (Frame.enter prog 12 #[.slice U n S,.slice sa m cap] .normal) []) wI:=by
 have F:=nA (P:=prog) (Post:=Post) (wI:=wI) (l:=[]) 1;have s:∀(a:Addr)(wr:Bool),wI.heap.size<=a.block->cP wI.heap.size [] [] a wr:=λa wr z=>iX (λx hx=>by cases hx) (az _) z wr;have hS:Sat (cP wI.heap.size [] []) wI []:=lD λr P=>by cases P
 have yQ:wI.heap.size<=wI.heap.size:=az _;refine cJ func12 hS 128 λW a0 B1 hn b qh tN S0 P9=>Rb F s b tN S0 8 [] 1 [] [(16,.slice sa m cap),(15,.slice U n S),(0,.slice U n S)] 8 1 [] λa1 l S1 Nt zS Dx o9=>Af F b 17 19 #[.slice U n S,.slice sa m cap] ρ ρ δ S1 λcR hcR=>At.assume gN λY=>At.keep (K':=Old l) (λd=>Iw l) ?_;have d:=H.old Y;refine ES (wI:=l) d (λh=>Rr (zl h) ((aaA (zl h)).and (p:=GQ (nC n L m g) 6) aaB) ⟨aaO (zl h),λ_=>aaP _ _⟩) (λu B f d Q V=>?_) λhck e t u B o X E g C f d Q V hea hC hev hou mQ Hg=>?_
 .refine hcR _ _ _ λa2 Z q=>?_;clear F s;have F:=nA (P:=prog) (Post:=Post) (wI:=l) (l:=u) B;have O:l.heap.size<=f.heap.size:=V.2.2.2.1;have s:∀(a:Addr)(wr:Bool),f.heap.size<=a.block->cP l.heap.size u [] a wr:=λa wr z=>iX (N:=f.heap.size) (λx hx=>(Q x hx).2) O z wr;have T0:Sat (cP l.heap.size u []) f []:=lD λr P=>by cases P
  have S2:St (cP l.heap.size u []) f.heap.size 128 [(17,.tuple #[.agg #[.slice none 0 0,.slice none 0 0],.bool false,.bool true])] [] 0 a2 f:=⟨Z.sub (by intro p hp;simp only[ak,bH,or_false]at hp;subst hp;rfl),T0,rfl⟩;have K:f.heap.size=f.heap.size:=rfl;replace q:=q.trans Nt;generalize hB2:f.heap.size=B2 at S2 K s;refine aq (λM=>bR (B2) [.slice none 0 0,.slice none 0 0]::(M)) 1 F s b q S2 25 [0,0,0,2] 127 [] [(4,.bool true)] 34 3 [] λa3 w3 S3 T YF yO mH=>aah F b qh T S3.env λw' N=>hP w' (Fg Y N)
 .refine hcR _ _ _ λa2 Z q=>?_;clear F s;have F:=nA (P:=prog) (Post:=Post) (wI:=l) (l:=u) B;have O:l.heap.size<=f.heap.size:=V.2.2.2.1;have s:∀(a:Addr)(wr:Bool),f.heap.size<=a.block->cP l.heap.size u [] a wr:=λa wr z=>iX (N:=f.heap.size) (λx hx=>(Q x hx).2) O z wr;have d:Has C (El U n L):=Hg _ (bI ..);let⟨os,oc,h2,hos⟩:=Zt (hC.get d) hou.cons (λj D=>by
   rcases mQ j D with z|⟨ca,d,i,z1,J⟩
   .exact .inl z
   .exact .inr ⟨ca,d,i+1,z1,J⟩)
  have S2:St (cP l.heap.size u []) f.heap.size 128 [(17,.tuple #[.agg #[.slice (some ⟨o,0,none⟩) m m,.slice X e.el E],.bool true,.bool true]),(0,.slice U n S)] (sK X e.ev e.el::SY o e.ou os oc m::El U n L::C) 0 a2 f:=⟨Z.sub (by intro p hp;simp only[ak,bH,or_false]at hp;rcases hp with rfl|rfl<;>rfl),h2.get hev.cons.cons,rfl⟩;have K:f.heap.size=f.heap.size:=rfl;replace q:=q.trans Nt;have Ty:=t.2.2.2;generalize hB2:f.heap.size=B2 at S2 K s;have hV:=zl hck;generalize hE:e.el=el at S2;refine aq (λM=>bR (B2) [.slice (some ⟨o,0,none⟩) m m,.slice X el E]::(M)) 1 F s b q S2 24 [0,0,0,2,0,0,0,2] 85 [] [(28,.agg #[.slice (some ⟨o,0,none⟩) m m,.slice X el E]),(5,ptr B2),(0,.slice U n S)] 33 2 [] λa3 w3 S3 T YF yO mH=>j5 F b T S3 29 23 #[.agg #[.slice (some ⟨o,0,none⟩) m m,.slice X el E],i6 6] λd Nv=>?_;rw[<-hE]at S3 ⊢;have h3:=S3.sat.perm (M':=sK X e.ev e.el::SY o e.ou os oc m::bR B2 [.slice (some ⟨o,0,none⟩) m m,.slice X e.el E]::El U n L::C) (D2 (l₁:=[_]) (l₂:=[_,_])|>.append_right _);refine aay F s Ty hV.nc δ hea (λj D z=>by let⟨ca,z1,J⟩:=hos j D z;exact⟨ca,z1,J.cons⟩) h3 ω λr w4 d P h4=>Nv _ _ _ h4 λa4 B4 A R d=>?_;have h:=A.sat.perm (M':=bR B2 [.slice (some ⟨o,0,none⟩) m m,.slice X e.el E]::sK X e.ev e.el::El U n L::SY o e.ou os oc m::C) (.trans (.trans (.cons _ (.swap ..)) (.swap ..)) (.cons _ (.cons _ (.swap ..))));have w:∀(a':Act)(w':aj),w4.heap.size<=w'.heap.size->a'.defers=[]->aR [(9,i6 ((0:Nat):Int)),(5,ptr B2),(0,.slice U n S)] 128 a'->Sat (cP l.heap.size u []) w' (bR B2 [.slice (some ⟨o,0,none⟩) m m,.slice X e.el E]::sK X e.ev e.el::El U n L::SY o e.ou os oc m::C)->nM prog Post (Old l) (jq u) B (G (W.at a' (pc prog 12 63 [false,false] [])) []) w':=λa' w' z1 J g f=>
   aao (n:=n) F s b hV.nl (λz=>by let⟨a,y,_⟩:=H.q1 z;exact⟨a,y⟩) Ty hea (λk d h3=>by
    have a:=hV.ra k d h3;have P:=t.1.1.r k d h3;refine⟨a.1.1,a.2,λj D=>?_⟩;let⟨d,a⟩:=aaj (k:=k) t.1.1.b j D;exact⟨d,a,(P j D).2.2.2⟩) (λa a _ d a=>aah F b qh d a λw' N=>hP w' (Fg Y N)) n 0 a' w' ω J ω g f
  have a:=H.q1;have hLP:0<n->L 0 0=3->r=true:=λz1 J=>P (by
   have D:=(t.1.2 ⟨z1,.inl ⟨J,rfl⟩⟩).1;exact⟨D.fs,λc d=>D.en c d (t.2.2.1 c (ga d t.2.1))⟩)
  replace A:=St.mk A.env h A.sz;by_cases h0:0<n
  .obtain⟨sA,rfl,_⟩:=a h0;have a:decide ((n:Int)>0)=true:=θ
   have A:St (cP l.heap.size u []) B4 128 _ (bR B2 [.slice (some ⟨o,0,none⟩) m m,.slice X e.el E]::sK X e.ev e.el::fR sA 6 (oG L) n false::SY o e.ou os oc m::C) 0 a4 w4:=A;generalize e.el=el at A w;by_cases h4:L 0 0=3
   .have a:(L 0 0==3)=true:=by simpa using h4
    have Qo:=hLP h0 h4;subst Qo;refine TP F s b R A 29 [2,0,0,101] 389102 [] [(9,i6 0),(5,ptr B2),(0,.slice (some sA) n S)] 63 4 [] [] [(L 0 0==3,true),(decide ((↑n:Int)>0),true)] [(0,n)] [(1,(0,n))] λa5 w5 I v Y5 Dw qO=>w a5 w5 ω v (I.dB _ rfl).env I.sat
   .refine TP F s b R A 29 [2,0,0,101] 348142 [] [(9,i6 0),(5,ptr B2),(0,.slice (some sA) n S)] 63 4 [] [] [(L 0 0==3,false),(decide ((↑n:Int)>0),true)] [(0,n)] [(1,(0,n))] λa5 w5 I v Y5 Dw qO=>w a5 w5 ω v (I.dB _ rfl).env I.sat
  .generalize e.el=el at A w;refine TP F s b R A 29 [] 87380 [] [(9,i6 0),(5,ptr B2),(0,.slice U n S)] 63 4 [] [] [(decide ((↑n:Int)>0),false)] [] [] λa5 w5 I v Y5 Dw qO=>w a5 w5 ω v (I.dB _ rfl).env I.sat
end
end Go.Proofs.YtobagnjnbmgidaaGreatDoor
