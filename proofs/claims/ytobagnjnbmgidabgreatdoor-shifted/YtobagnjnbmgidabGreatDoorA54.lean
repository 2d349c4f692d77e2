import Derived.Test.YtobagnjnbmgidabGreatDoorA1
set_option linter.all false
set_option maxHeartbeats 0
set_option maxRecDepth 100000
namespace Go.Proofs.YtobagnjnbmgidabGreatDoor
open Go.Conc Go.RowKit Tryz
variable{x y:Bool}{E:Env}{s:Int}{I N c f fi h hi k l lo m p r z:Nat}{M:aW}{w X:aj}{U W:aC}{V:cO}{t:eC}
variable{κ:Nat->Int}{u:bU}{a b i j B n cap:Nat}{T:Bool}{D:dh}{O:gi}{P:aG}{C:aW}{g:Addr}
structure RQ where
 q:(Nat->Nat)->Prop
 κ:Nat->Int
 a:Nat
 b:Nat
def gw(κ:Nat->Int)(a b:Nat)(u:bU):Prop:=∀x y,a<=x->x<y->y<b->κ (u x)<=κ (u y)
def zf(κ:Nat->Int)(a i j:Nat)(u:bU):Prop:=∀x y,a<=x->x<y->y<=i->y≠j->κ (u x)<=κ (u y)
def En(κ:Nat->Int)(f lo hi:Nat)(u:bU):Prop:=∀r c,lo<=r->c=2*r+1\/c=2*r+2->c<hi->κ (u (f+c))<=κ (u (f+r))
def PM(κ:Nat->Int)(f lo hi r:Nat)(u:bU):Prop:=(∀p c,lo<=p->p≠r->c=2*p+1\/c=2*p+2->c<hi->κ (u (f+c))<=κ (u (f+p)))/\∀p c,lo<=p->r=2*p+1\/r=2*p+2->c=2*r+1\/c=2*r+2->c<hi->κ (u (f+c))<=κ (u (f+p))
def D1(κ:Nat->Int)(a b i j:Nat)(u:bU):Prop:=(∀x,a<x->x<i->κ (u x)<=κ (u a))/\∀x,j<x->x<b->κ (u a)<=κ (u x)
def zG(κ:Nat->Int)(a b i:Nat)(u:bU):Prop:=(∀x,a<=x->x<i->κ (u x)<=κ (u i))/\∀x,i<x->x<b->κ (u i)<=κ (u x)
def zf.sw(h:zf κ a i (j+1) u)(b:a<=j)(c:j+1<=i)(c:κ (u (j+1))<κ (u j)):zf κ a i j (upd (upd u (j+1) (u j)) j (u (j+1))):=λx y a d c e=>by
 have e:=h x y a d c;have c:=h x j a;have c:=h j y b;have b:=h (j+1) y ω;have b:=h x (j+1) a;simp only[upd];grind
def zf.fin(h:zf κ a i j u)(c:j<=a\/∃k,j=k+1/\¬κ (u (k+1))<κ (u k)):gw κ a (i+1) u:=λx y b d a=>by
 by_cases e:y=j
 .rcases c with z|⟨k,rfl,z⟩
  .omega
  .subst e;by_cases f:x=k
   .subst f;omega
   .have:=h x k b ω ω ω;omega
 .exact h x y b d ω e
def gw.ins(h:gw κ a i u):zf κ a i i u:=λx y b a c c=>h x y b a ω
def gw.one(h:b<=a+1):gw κ a b u:=λx y a a a=>ω
def PM.sw(h:PM κ f lo hi r u)(a:lo<=r)(a:c=2*r+1\/c=2*r+2)(a:c<hi)(i:∀a,a=2*r+1\/a=2*r+2->a<hi->κ (u (f+a))<=κ (u (f+c)))(a:κ (u (f+r))<κ (u (f+c))):PM κ f lo hi c (upd (upd u (f+r) (u (f+c))) (f+c) (u (f+r))):=by
 refine⟨λp d a f e b=>?_,λp d a f e b=>?_⟩
 .have f:=h.1 p d a;have f:=h.2 p c a;have a:=i d;simp only[upd,Nat.add_left_cancel_iff];grind
 .obtain rfl:p=r:=ω
  have g:=h.1 c d ω ω e b;simp only[upd,Nat.add_left_cancel_iff];grind
def PM.fin(h:PM κ f lo hi r u)(d:∀c,c=2*r+1\/c=2*r+2->c<hi->κ (u (f+c))<=κ (u (f+r))):En κ f lo hi u:=λp c g b a=>by
 by_cases e:p=r
 .subst e;exact d c b a
 .exact h.1 p c g e b a
def En.sf(h:En κ f (lo+1) hi u):PM κ f lo hi lo u:=⟨λp c b a=>h p c ω,λp c b a=>ω⟩
def En.max(h:En κ f 0 m u):∀x,x<m->κ (u (f+x))<=κ (u f):=λx=>by
 induction x using Nat.strongRecOn with
 |_ x a=>
 intro b;by_cases e:x=0
 .subst e;exact Int.le_refl _
 .have c:=h ((x-1) / 2) x (gl _) ω b;have b:=a ((x-1) / 2) ω ω;omega
def gw.join(j:gw κ a i u)(f:zG κ a b i u)(h:gw κ (i+1) b u):gw κ a b u:=λx y d c g=>by
 by_cases e:y<i
 .exact j x y d c e
 by_cases m:y=i
 .subst m;exact f.1 x d c
 have k:=f.2 y ω g;by_cases a:x<i
 .have:=f.1 x d a;omega
 by_cases l:x=i
 .subst l;exact k
 .exact h x y ω c g
def D1.fin(h:D1 κ a b i j u)(c:a<=j)(c:j<i):zG κ a b j (upd (upd u j (u a)) a (u j)):=by
 have c:=h.1;have d:=h.2;refine⟨λx b a=>?_,λx b a=>?_⟩
 .have e:=c x;have e:=c j;simp only[upd];grind
 .have e:=d x b a;simp only[upd];grind
def RR(κ:Nat->Int)(a h m:Nat)(u:bU):Prop:=(∀x y,a<=x->x<a+m->a+m<=y->y<a+h->κ (u x)<=κ (u y))/\gw κ (a+m) (a+h) u
def eu(u:bU)(i j x:Nat):upd (upd u i (u j)) j (u i) x=u (if x=j then i else if x=i then j else x):=by simp only[upd];split;rfl;split<;>rfl
def RR.sw(H:RR κ a h m u)(b:a<=i)(b:i<a+m)(b:a<=j)(b:j<a+m):RR κ a h m (upd (upd u i (u j)) j (u i)):=by
 refine⟨λx y c b a d=>?_,λx y c b a=>?_⟩
 .rw[eu,eu,af (by omega:¬y=j),af (by omega:¬y=i)];exact H.1 _ y (by split;omega;split<;>omega) (by split;omega;split<;>omega) a d
 .rw[eu,eu,af ω,af ω,af ω,af ω];exact H.2 x y c b a
def RR.dn(H:RR κ a h (m+1) u)(i:En κ a 0 (m+1) u)(b:m<h):RR κ a h m (upd (upd u a (u (a+m))) (a+m) (u a))/\En κ a 1 m (upd (upd u a (u (a+m))) (a+m) (u a)):=by
 have f:=i.max;refine⟨⟨λx y e d b h=>?_,λx y e d b=>?_⟩,λr c e d b=>?_⟩
 .have d:=H.1 x y;have b:=H.1 (a+m) y;have e:=f m;have e:=f (x-a);rw[eu,eu];grind
 .have d:=H.2 x y;have b:=H.1 a y;rw[eu,eu];grind
 .have g:=i r c;rw[eu,eu];grind
def gw.out(h:gw κ a b u)(c:i<a\/b<=i)(c:j<a\/b<=j):gw κ a b (upd (upd u i (u j)) j (u i)):=λx y c b a=>by
 rw[eu,eu,af ω,af ω,af ω,af ω];exact h x y c b a
def D1.sw(h:D1 κ a b i (k+1) u)(c:a<i)(hi:i<=k+1)(c:κ (u a)<=κ (u i))(c:κ (u (k+1))<κ (u a)):D1 κ a b (i+1) k (upd (upd u i (u (k+1))) (k+1) (u i)):=by
 refine⟨λx b a=>?_,λx b a=>?_⟩
 .have g:=h.1 x;rw[eu,eu];grind
 .have g:=h.2 x;rw[eu,eu];grind
def zG.swl(h:zG κ a b p u)(c:a<=i)(c:i<p)(c:a<=j)(c:j<p):zG κ a b p (upd (upd u i (u j)) j (u i)):=by
 refine⟨λx b a=>?_,λx b a=>?_⟩
 .rw[eu,eu,af (by omega:¬p=j),af (by omega:¬p=i)];exact h.1 _ (by split;omega;split<;>omega) (by split;omega;split<;>omega)
 .rw[eu,eu,af (by omega:¬p=j),af (by omega:¬p=i),af ω,af ω];exact h.2 x b a
def zG.swr(h:zG κ a b p u)(c:p<i)(c:i<b)(c:p<j)(c:j<b):zG κ a b p (upd (upd u i (u j)) j (u i)):=by
 refine⟨λx b a=>?_,λx b a=>?_⟩
 .rw[eu,eu,af (by omega:¬p=j),af (by omega:¬p=i),af ω,af ω];exact h.1 x b a
 .rw[eu,eu,af (by omega:¬p=j),af (by omega:¬p=i)];exact h.2 _ (by split;omega;split<;>omega) (by split;omega;split<;>omega)
def kM(F:aB prog T (DX D) O)(j:HB B D){q:Nat}{y z:Int}(i:Sat D w M)(c:Has M (oR p 1 [i6 y] false))(b:Has M (oR q 1 [i6 z] false))(a:B<=w.heap.size)(K:∀r a,(r<0↔y<z)->Sat D a M->w.heap.size<=a.heap.size->O (G (W.finish (i6 r)) V) a):O (G (Frame.enter prog 190 #[ptr p,ptr q] .normal) (W::V)) w:=by
 replace i:=(i.get c).get b.cons;have a:(y !=y)=false:=ψ
 have a:(z !=z)=false:=ψ
 refine cJ func190 i 14 λU a I a b c a k d=>?_;by_cases h:y<z
 .have d:decide (y<z)=true:=by simpa using h
  refine ZI F j b c a k 76 [1,0,0,1,0,0,0,1] 96 [8] 4 (i6 (-1)) 9 1 [8] [] [(decide (y<z),true),(z !=z,false),(y !=y,false)] [] [] λd g e f=>K _ d θ g.sat.tail.tail ω
 .by_cases h:y>z
  .have l:decide (y>z)=true:=by simpa using h
   refine ZI F j b c a k 85 [1,0,0,1,0,0,0,1] 384 [8] 4 (i6 1) 9 1 [8] [] [(decide (y>z),true),(decide (y<z),false),(z !=z,false),(y !=y,false)] [] [] λd g e f=>K _ d θ g.sat.tail.tail ω
  .have l:decide (y>z)=false:=by simpa using h
   refine ZI F j b c a k 86 [1,0,0,1,0,0,0,1] 256 [8] 4 (i6 0) 9 1 [8] [] [(decide (y>z),false),(decide (y<z),false),(z !=z,false),(y !=y,false)] [] [] λd g e f=>K _ d θ g.sat.tail.tail ω
def Cv(F:aB P T (DX D) O)(R:P.follows .mixedOrders=true)(hB:HB B D){b:aC}(hk:b.kind=.normal){g:Nat}{e:iy}{c:aN}(q:Nat)(z:List Hint)(A:iK)(x J:Env)(u:iK)(t:List (Int×Nat))(l s:List (Nat×Nat))(n:List Hint)(ed:List aH->List aH){a:Act}{ds:wN}(I:a.defers=ds)(ht:mP (pc P f g e c)=true)(k:((aL (pc P f g e c))[q]?).map (λo=>o.guard.isNone&&o.dst.isNone)=some true)(h:Ay P [] [] (aL (pc P f g e c)) q E M 0 0 (x.map Prod.fst) (J.map Prod.fst) (iD P B N E M 0 z A (aL (pc P f g e c)) q)=some ⟨x.map (λp=>some p.2),J.map (λp=>some p.2),M,0,u,t,l,true⟩)(hq:K5 Prod.fst (iD P B N E M 0 z A (aL (pc P f g e c)) q)=K5 Prod.snd (iD P B N E M 0 z A (aL (pc P f g e c)) q))(halt:tT P (aL (pc P f g e c)) [] [] true (iD P B N E M 0 z A (aL (pc P f g e c)) q)=tT P (aL (pc P f g e c)) [] [] false (iD P B N E M 0 z A (aL (pc P f g e c)) q))(i:(MF P B x (((aL (pc P f g e c))[q]?).getD default) ⟨[],⟨n,M,0,[],[]⟩,[],[],[]⟩).map (λp=>(p.1,p.2.m.M,p.2.m.c,p.2.m.cW,p.2.cY,p.2.eK))=some (.tuple #[],ed M,0,s,[],[]))(j:(MF P B x (((aL (pc P f g e c))[q]?).getD default) ⟨[],⟨n,M,0,[],[]⟩,[],[],[]⟩).map (λp=>p.2.m.eqs.map Prod.fst)=(MF P B x (((aL (pc P f g e c))[q]?).getD default) ⟨[],⟨n,M,0,[],[]⟩,[],[],[]⟩).map (λp=>p.2.m.eqs.map Prod.snd))(Q:.inRegion (aL (pc P f g e c)) (bP (q+1) ((aL (pc P f g e c)).size-(q+1)))::behind (pc P f g e c)=pc P f (g+1) e (c++[q+1]))(X:∀p∈u,p.1=p.2)(W:∀p∈t,0<=p.1/\p.1<(p.2:Int))(Y:∀p∈l,p.1<p.2)(Z:∀p∈s,p.1<p.2)(S:St D B N E M 0 a w)(K:∀a' C,St D B N J (ed M) 0 a' C->a'.defers=ds->C.heap.size=B->O (G (b.at a' (pc P f (g+1) e (c++[q+1]))) V) C):O (G (b.at a (pc P f g e c)) V) w:=by
 have U:b.kind≠.early:=by rw[hk];decide
 cases H:(aL (pc P f g e c))[q]? with
 |none=>rw[H]at k;cases k
 |some o=>
 rw[H]at k i j;simp only[cQ]at i j;simp only[fI,Option.some.injEq,bZ,Option.isNone_iff_eq_none]at k;let⟨hg,r⟩:=k;cases L:MF P B x o ⟨[],⟨n,M,0,[],[]⟩,[],[],[]⟩with
 |none=>rw[L]at i;cases i
 |some vy=>
  let⟨v,y⟩:=vy;rw[L]at i j;simp only[fI,Option.some.injEq,Prod.mk.injEq]at i j;obtain⟨rfl,ZV,h3,rfl,h5,h6⟩:=i;rw[<-ZV]at K;have hm:oE y:=⟨fB _ j,Z,(by rw[h5];intro p m;cases m),(by rw[h6];intro p m;cases m)⟩;refine X5 [] [] F R hB hk q z A 0 x J M 0 u t l ht H h hq (λd I=>by rw[r]at I;cases I) halt X W Y S (Post:=λv a=>v=.tuple #[]/\Sat D a y.m.M/\a.heap.size=B) (λv a m=>⟨Sat.pre (M:=[]) (R:=y.m.M) m.2.1,(by have:=m.2.2;omega)⟩) ?_ ?_
  .intro b b rest b c;refine Fe F hB U H (by simp[Region.wanted,hg]) L hm b.env ⟨b.sat,b.sz⟩ λC b _ _=>c _ _ ⟨rfl,b.sat,by have:=b.sz;rw[h3]at this;exact this⟩
  .intro v a e c m hA a d b;rw[Q];rw[r]at hA;exact K e c ⟨hA,m.2.1.keep d,by rw[b];exact m.2.2⟩ (a.trans I) (by rw[b];exact m.2.2)
def OG{y:Nat}(F:aB prog T (DX D) O)(U:HB y D){b:aC}(Q:b.kind=.normal){e:Nat}{d:iy}{c:aN}{a:Act}{ds:wN}(R:a.defers=ds)(S:St D B N E M 0 a w)(q:Nat)(m:aN)(n:Nat)(r s:Env)(J:aN)(l:iK)(k:List (Int×Nat))(g i:List (Nat×(Nat×Nat)))(j:aN)(H:List aH->List aH)(K:∀I t,St D B N s (H M) 0 I t->I.defers=ds->t.heap.size=B->O (G (b.at I (pc prog f (e+1) d (c++[q+1]))) V) t)(L:mP (pc prog f e d c)=true:=by kernel_rfl)(v:((aL (pc prog f e d c))[q]?).map (λo=>o.guard.isNone&&o.dst.isNone)=some true:=by kernel_rfl)(h:Ay prog [] [] (aL (pc prog f e d c)) q E M 0 0 (r.map Prod.fst) (s.map Prod.fst) (iD prog B N E M 0 (Hq m) (Bq n) (aL (pc prog f e d c)) q)=some ⟨r.map (λp=>some p.2),s.map (λp=>some p.2),M,0,Rn J l,k,Rq g,true⟩:=by kernel_rfl)(P:K5 Prod.fst (iD prog B N E M 0 (Hq m) (Bq n) (aL (pc prog f e d c)) q)=K5 Prod.snd (iD prog B N E M 0 (Hq m) (Bq n) (aL (pc prog f e d c)) q):=by kernel_rfl)(halt:tT prog (aL (pc prog f e d c)) [] [] true (iD prog B N E M 0 (Hq m) (Bq n) (aL (pc prog f e d c)) q)=tT prog (aL (pc prog f e d c)) [] [] false (iD prog B N E M 0 (Hq m) (Bq n) (aL (pc prog f e d c)) q):=by kernel_rfl)(o:(MF prog B r (((aL (pc prog f e d c))[q]?).getD default) ⟨[],⟨Hq j,M,0,[],[]⟩,[],[],[]⟩).map (λp=>(p.1,p.2.m.M,p.2.m.c,p.2.m.cW,p.2.cY,p.2.eK))=some (.tuple #[],H M,0,Rq i,[],[]):=by kernel_rfl)(t:(MF prog B r (((aL (pc prog f e d c))[q]?).getD default) ⟨[],⟨Hq j,M,0,[],[]⟩,[],[],[]⟩).map (λp=>p.2.m.eqs.map Prod.fst)=(MF prog B r (((aL (pc prog f e d c))[q]?).getD default) ⟨[],⟨Hq j,M,0,[],[]⟩,[],[],[]⟩).map (λp=>p.2.m.eqs.map Prod.snd):=by kernel_rfl)(u:.inRegion (aL (pc prog f e d c)) (bP (q+1) ((aL (pc prog f e d c)).size-(q+1)))::behind (pc prog f e d c)=pc prog f (e+1) d (c++[q+1]):=by kernel_rfl)(x:y<=B:=by omega)(A:∀p∈l,p.1=p.2:=by repeat' first|exact eU|refine nK ?_ ?_|assumption|rfl|(simp;omega)|simp_all)(y:∀p∈k,0<=p.1/\p.1<(p.2:Int):=by repeat' first|exact eU|refine nK ?_ ?_|(dsimp only;omega))(B:∀p∈g,p.2.1<p.2.2:=by repeat' first|exact eU|refine nK ?_ ?_|(dsimp only;omega))(C:∀p∈i,p.2.1<p.2.2:=by repeat' first|exact eU|refine nK ?_ ?_|(dsimp only;omega)):O (G (b.at a (pc prog f e d c)) V) w:=
 Cv F aK (λa wr z=>U a wr (aT x z)) Q q (Hq m) (Bq n) r s (Rn J l) k (Rq g) (Rq i) (Hq j) H R L v h P halt o t u (OE A) y (BS B) (BS C) S K
section
variable{Q:RQ}
abbrev tR(g:Addr)(u:bU)(n:Nat):aH:=fR g 1 (λj=>[ptr (u j)]) n true
structure fS(Q:RQ)(C:aW)(u:bU)(n:Nat):Prop where
 r:∀j,j<n->Has C (oR (u j) 1 [i6 (Q.κ (u j))] false)
 q:Q.q u
 cl:∀v i j,Q.a<=i->i<Q.b->Q.a<=j->j<Q.b->Q.q v->Q.q (upd (upd v i (v j)) j (v i))
 inj:∀i j,i<n->j<n->Q.κ (u i)=Q.κ (u j)->i=j
 lo:∀x y,x+1=Q.a->Q.a<=y->y<Q.b->Q.κ (u x)<=Q.κ (u y)
 bn:Q.b<=n
abbrev av:Value:=.func (.func 190) #[] #[]
abbrev kA(g:Addr)(n cap a b:Nat):Env:=[(0,.slice (some g) n cap),(1,i6 a),(2,i6 b),(3,av)]
abbrev kB(g:Addr)(n cap a:Nat):Env:=[(0,.slice (some g) n cap),(1,i6 a),(4,av)]
abbrev kC(g:Addr)(n cap hi fi:Nat):Env:=[(0,.slice (some g) n cap),(2,i6 hi),(3,i6 fi),(4,av)]
abbrev kD(g:Addr)(n cap:Nat):Env:=[(0,.slice (some g) n cap),(3,av)]
def gp{x:Nat}(h:Sat D w (bh 0 (k,0) (ptr x) (tR g u n::C))):Sat D w (tR g (upd u k x) n::C):=by
 have a:=Sat.re (M:=(tR g u n).set (k,0) (ptr x)::C) h 0 rfl rfl (λj=>[ptr (upd u k x j)]) (λj _ f b=>?_)
 .exact a
 .have a:f<1:=b;obtain rfl:f=0:=ω
  by_cases e:j=k
  .subst e;simp[aH.set,upd,JD]
  .have a:(j==k)=false:=ξ
   simp[aH.set,upd,JD,e,a]
def fS.swap{Q:RQ}(h:fS Q C u n)(f:Q.a<=i)(d:i<Q.b)(b:Q.a<=j)(a:j<Q.b):fS Q C (upd (upd u i (u j)) j (u i)) n:=by
 have c:=h.bn;have e:∀x,upd (upd u i (u j)) j (u i) x=u (if x=j then i else if x=i then j else x):=λx=>by simp only[upd];split;rfl;split<;>rfl
 refine⟨λk g=>?_,h.cl u i j f d b a h.q,h.cl,λx y a b q=>?_,λx y a b b=>?_,c⟩
 .rw[e];exact h.r _ (by split;omega;split<;>omega)
 .rw[e,e]at q;have:=h.inj _ _ (by split;omega;split<;>omega) (by split;omega;split<;>omega) q;grind
 .rw[e,e,af ω,af ω];exact h.lo x _ a (by split;omega;split<;>omega) (by split;omega;split<;>omega)
abbrev RQ.sub(Q:RQ)(p:(Nat->Nat)->Prop)(a b:Nat):RQ:=⟨λv=>(Q.q v/\∀x y,x+1=Q.a->Q.a<=y->y<Q.b->Q.κ (v x)<=Q.κ (v y))/\p v,Q.κ,a,b⟩
def fS.sub{Q:RQ}{C:aW}{u:bU}{n:Nat}(h:fS Q C u n){p:(Nat->Nat)->Prop}{a b:Nat}(c:Q.a<=a)(f:b<=Q.b)(c:p u)(e:∀v i j,a<=i->i<b->a<=j->j<b->p v->p (upd (upd v i (v j)) j (v i)))(d:∀x y,x+1=a->a<=y->y<b->Q.κ (u x)<=Q.κ (u y)):fS (Q.sub p a b) C u n:=⟨h.r,⟨⟨h.q,h.lo⟩,c⟩,λv i j (l:a<=i) (k:i<b) (g:a<=j) (c:j<b) a=>⟨⟨h.cl v i j ω ω ω ω a.1.1,λx y b m m=>by
 rw[eu,eu,af ω,af ω];exact a.1.2 x _ b (by split;omega;split<;>omega) (by split;omega;split<;>omega)⟩,e v i j l k g c a.2⟩,h.inj,d,aT f h.bn⟩
def fS.sup{Q:RQ}{d:bU}{p:(Nat->Nat)->Prop}(h:fS Q C u n)(c:fS (Q.sub p a b) C d n):fS Q C d n/\p d:=⟨⟨c.r,c.q.1.1,h.cl,c.inj,c.q.1.2,h.bn⟩,c.q.2⟩
def P8(F:aB prog T (DX D) O)(m:HB B D)(c:U.kind=.normal)(S:i<b)(S:n<1000000)(S:b<=n)(S:Q.a=a/\Q.b=b)(S:B<=X.heap.size)(K:∀u k f I,k.defers=[]->f.heap.size=I->X.heap.size<=I->St D I 53 ((8,i6 ((i+1:Nat):Int))::kA g n cap a b) (tR g u n::C) 0 k f->fS Q C u n->gw Q.κ a (i+1) u->O (G (U.at k (pc prog 195 8 [] [])) (W::V)) f):
 ∀(j:Nat)(u:bU)(k:Act)(f:aj)(I:Nat),j<=i->k.defers=[]->X.heap.size<=I->f.heap.size=I->St D I 53 ((9,i6 j)::(8,i6 i)::kA g n cap a b) (tR g u n::C) 0 k f->fS Q C u n->zf Q.κ a i j u->O (G (U.at k (pc prog 195 26 [true] [])) (W::V)) f:=by
 have J:wp i=((i+1:Nat):Int):=j6;intro j;induction j with
 |zero=>
  intro u k f I P h N y H o v;refine Rb F m c h H 16 [] 89478485 [14] ((8,i6 (wp i))::kA g n cap a b) 42 5 [14] λA x l d s t w=>?_;rw[J]at l;exact K u A x _ d ω ω l o (v.fin (.inl ω))
 |succ j R=>
  intro u k f I P h N y H o v;by_cases f:j<a
  .have e:decide (((j+1:Nat):Int)>(a:Int))=false:=θ
   refine TP F m c h H 16 [] 88080384 [14] ((8,i6 (wp i))::kA g n cap a b) 42 5 [14] [11] [(decide ((↑(j+1):Int)>(↑a:Int)),false)] [] [] λA x l d s t w=>?_;rw[J]at l;exact K u A x _ d ω ω l o (v.fin (.inl ω))
  have e:decide (((j+1:Nat):Int)>(a:Int))=true:=θ
  have y:wm (j+1)=(j:Int):=j6;refine TP F m c h H 3 [0,(j+1),0,101,0,Int.toNat (wm (j+1)),0,101] 27962026 [14] ((31,ptr (u (Int.toNat (wm (j+1)))))::(30,.pointer (some (Addr.add g (Int.toNat (wm (j+1))*1))))::(29,i6 (wm (j+1)))::(28,i6 (↑(j+1):Int))::(27,.slice (some g) n cap)::(26,ptr (u (j+1)))::(25,.pointer (some (Addr.mk g.block (g.off+(j+1)*1) none)))::(24,i6 (↑(j+1):Int))::(23,.slice (some g) n cap)::(22,av)::(21,.bool (decide ((↑(j+1):Int)>(↑a:Int))))::(9,i6 (↑(j+1):Int))::(8,i6 i)::kA g n cap a b) 29 3 [14] [10] [(decide ((↑(j+1):Int)>(↑a:Int)),true)] [(wm (j+1),n),((↑(j+1):Int),n)] [(1,(Int.toNat (wm (j+1)),n)),(1,((j+1),n))] λA x l d s t w=>?_;rw[e,y]at l;have L:(j:Int)<n/\0<=(j:Int):=ω
  have f:=o.r (j+1) ω;have e:=o.r j ω;refine ah F c d l 32 190 #[ptr (u (j+1)),ptr (u (j))] λd d=>kM F m (p:=u (j+1)) (q:=u j) l.sat f.cons e.cons ω λr e e h f=>d _ _ _ h λd x P f d=>?_;by_cases G:r<0
  .have Q:decide (r<0)=true:=ξ
   refine TP F m c f P 7 [] 27 [] ((9,i6 (↑(j+1):Int))::(8,i6 i)::kA g n cap a b) 37 7 [14] [] [(decide (r<0),true)] [] [] λN B E d h s w=>?_;rw[<-y]at L;refine OG F m c d E 15 [0,Int.toNat (wm (j+1)),0,101,0,(j+1),0,101] 106 [(51,.pointer (some (Addr.mk g.block (g.off+(j+1)*1) none))),(46,ptr (u (Int.toNat (wm (j+1)))))] ((50,ptr (u (j+1)))::(41,i6 (wm (j+1)))::(39,.slice (some g) n cap)::(9,i6 (↑(j+1):Int))::(8,i6 i)::kA g n cap a b) [] [] [((↑(j+1):Int),n),((↑(j+1):Int),n),(wm (j+1),n)] [(1,((j+1),n)),(1,(Int.toNat (wm (j+1)),n))] [(1,((j+1),n))] [0,(j+1),0,101] (λM=>bh 0 ((j+1),0) (ptr (u (Int.toNat (wm (j+1))))) (M)) λS A q t H=>?_;rw[y]at q;replace q:St D x 53 _ (tR g (upd u (j+1) (u j)) n::C) 0 S A:=⟨q.env,gp q.sat,q.sz⟩;refine aX (λM=>bh 0 (j,0) (ptr (u (j+1))) (M)) 0 F m c t q 10 [0,j,0,101] 6 [] ((9,i6 (wm (j+1)))::(8,i6 i)::kA g n cap a b) 48 7 [14,16] [] [] [((↑j:Int),n)] [(1,(j,n))] λH A p t M M M=>?_;rw[y]at p;replace p:St D x 53 ((9,i6 j)::(8,i6 i)::kA g n cap a b) (tR g (upd (upd u (j+1) (u j)) j (u (j+1))) n::C) 0 H A:=⟨p.env,gp p.sat,p.sz⟩;exact R _ H A x ω t ω ω p (o.swap ω ω ω ω) (v.sw ω ω (e.1 G))
  .have Q:decide (r<0)=false:=ξ
   refine TP F m c f P 12 [] 19 [] ((8,i6 (wp i))::kA g n cap a b) 42 5 [14] [] [(decide (r<0),false)] [] [] λN B E d h s w=>?_;rw[J]at E;exact K u N B _ d ω ω E o (v.fin (.inr ⟨j,rfl,λz=>G (e.2 z)⟩))
def Ep(F:aB prog T (DX D) O)(o:HB B D){U:aC}(c:U.kind=.normal)(k:U.fn=195){W:aC}{V:cO}{C:aW}{g:Addr}{n cap a b:Nat}(A:n<1000000)(j:b<=n)(z:Q.a=a/\Q.b=b){X:aj}(l:B<=X.heap.size)(K:∀u d,X.heap.size<=d.heap.size->Sat D d (tR g u n::C)->fS Q C u n->gw Q.κ a b u->O (G (W.finish (.tuple #[])) V) d):
 ∀(m i:Nat)(u:bU)(p:Act)(d:aj)(I:Nat),b<=i+m->p.defers=[]->X.heap.size<=I->d.heap.size=I->St D I 53 ((8,i6 i)::kA g n cap a b) (tR g u n::C) 0 p d->fS Q C u n->gw Q.κ a i u->O (G (U.at p (pc prog 195 8 [] [])) (W::V)) d
 |m,i,u,p,d,I,v,h,C,B,L,E,H=>by
  by_cases hi:i<b
  .have e:decide ((i:Int)<(b:Int))=true:=θ
   refine TP F o c h L 18 [] 6 [] ((9,i6 i)::(8,i6 i)::kA g n cap a b) 26 3 [] [] [(decide ((↑i:Int)<(↑b:Int)),true)] [] [] λJ r q f s t w=>?_;match m,v with
   |0,v=>omega
   |m+1,v=>
    exact P8 F o c hi A j z l (λu B v G d a n C e g=>Ep F o c k A j z l K m (i+1) u B v G ω d n a C e g) i u J r _ (az _) f ω ω q E H.ins
  .refine TP F o c h L 9 [] 4 [] [] 17 2 [] [] [(decide ((↑i:Int)<(↑b:Int)),false)] [] [] λJ r q f s t w=>cC F q c k f [] (.tuple #[]) ?_;exact K u r ω q.sat E λx y b a c=>H x y b a ω
def VJ(F:aB prog T (DX D) O)(j:HB B D)(e:n<1000000)(c:a<=b)(f:b<=n)(o:Q.a=a/\Q.b=b)(h:Sat D w (tR g u n::C))(p:fS Q C u n)(i:B<=w.heap.size)(K:∀d c,w.heap.size<=c.heap.size->Sat D c (tR g d n::C)->fS Q C d n->gw Q.κ a b d->O (G (W.finish (.tuple #[])) V) c):O (G (Frame.enter prog 195 #[.slice (some g) n cap,i6 a,i6 b,av] .normal) (W::V)) w:=by
 have m:wp a=((a+1:Nat):Int):=j6;refine cJ func195 h 53 λU c I c c h d q l=>Rb F j c d q 8 [] 1 [] ((8,i6 (wp a))::kA g n cap a b) 8 1 [] λn g k d l l l=>?_;rw[m]at k;exact Ep F j c h e f o i K b (a+1) u n g _ ω d ω ω k p (.one ω)
end
section
variable{Q:RQ}
def BA(F:aB prog T (DX D) O)(e:HB B D)(a:U.kind=.normal)(x:U.fn=205)(b:n<1000000)(b:fi+hi<=n)(b:Q.a<=fi/\fi+hi<=Q.b)(b:r<c)(v:c<hi)(b:B<=X.heap.size)(K:∀u b,X.heap.size<=b.heap.size->Sat D b (tR g u n::C)->fS Q C u n->En Q.κ fi lo hi u->O (G (W.finish (.tuple #[])) V) b)(L:∀(u:bU)(d:Act)(b:aj)(I:Nat),d.defers=[]->X.heap.size<=I->b.heap.size=I->St D I 82 ((10,i6 c)::kC g n cap hi fi) (tR g u n::C) 0 d b->fS Q C u n->PM Q.κ fi lo hi c u->O (G (U.at d (pc prog 205 7 [] [])) (W::V)) b){d:Act}{b:aj}(j:d.defers=[])(f:X.heap.size<=I)(f:b.heap.size=I)(k:St D I 82 ((11,i6 c)::(10,i6 r)::kC g n cap hi fi) (tR g u n::C) 0 d b)(m:fS Q C u n)(N:PM Q.κ fi lo hi r u)(s:lo<=r)(w:c=2*r+1\/c=2*r+2)(J:∀f,f=2*r+1\/f=2*r+2->f<hi->Q.κ (u (fi+f))<=Q.κ (u (fi+c))):O (G (U.at d (pc prog 205 34 [false,false] [19])) (W::V)) b:=by
 have P:wI ((fi:Int)+c)=((fi+c:Nat):Int):=j6;have E:wI ((fi:Int)+r)=((fi+r:Nat):Int):=j6;refine TP F e a j k 2 [0,Int.toNat (wI ((↑fi:Int)+(↑r:Int))),0,101,0,Int.toNat (wI ((↑fi:Int)+(↑c:Int))),0,101] 26 [13] ((55,ptr (u (Int.toNat (wI ((↑fi:Int)+(↑c:Int))))))::(49,ptr (u (Int.toNat (wI ((↑fi:Int)+(↑r:Int))))))::(43,av)::(11,i6 c)::(10,i6 r)::kC g n cap hi fi) 36 4 [19,13] [] [] [(wI ((↑fi:Int)+(↑c:Int)),n),(wI ((↑fi:Int)+(↑r:Int)),n)] [(1,(Int.toNat (wI ((↑fi:Int)+(↑c:Int))),n)),(1,(Int.toNat (wI ((↑fi:Int)+(↑r:Int))),n))] λb b A b j j j=>?_;rw[P,E]at A;have k:=m.r (fi+r) ω;have j:=m.r (fi+c) ω;refine ah F a b A 56 190 #[ptr (u (fi+r)),ptr (u (fi+c))] λb b=>kM F e (p:=u (fi+r)) (q:=u (fi+c)) A.sat k.cons j.cons ω λz j j o k=>b _ _ _ o λb B i k b=>?_;by_cases H:z<0
 .have S:(!decide (z<0))=false:=ξ
  replace i:=i.dB ((56,i6 z)::(11,i6 c)::(10,i6 r)::kC g n cap hi fi) rfl;refine TP F e a k i 6 [] 4 [] ((11,i6 c)::(10,i6 r)::kC g n cap hi fi) 43 8 [19,13] [] [(!decide (z<0),false)] [] [] λZ G o b p q y=>OG F e a b o 21 [0,Int.toNat (wI ((↑fi:Int)+(↑c:Int))),0,101,0,Int.toNat (wI ((↑fi:Int)+(↑r:Int))),0,101] 106 [(79,.pointer (some (Addr.add g (Int.toNat (wI ((↑fi:Int)+(↑r:Int)))*1)))),(72,ptr (u (Int.toNat (wI ((↑fi:Int)+(↑c:Int))))))] ((78,ptr (u (Int.toNat (wI ((↑fi:Int)+(↑r:Int))))))::(66,i6 (wI ((↑fi:Int)+(↑c:Int))))::(63,.slice (some g) n cap)::(11,i6 c)::kC g n cap hi fi) [] [] [(wI ((↑fi:Int)+(↑r:Int)),n),(wI ((↑fi:Int)+(↑r:Int)),n),(wI ((↑fi:Int)+(↑c:Int)),n)] [(1,(Int.toNat (wI ((↑fi:Int)+(↑r:Int))),n)),(1,(Int.toNat (wI ((↑fi:Int)+(↑c:Int))),n))] [(1,(Int.toNat (wI ((↑fi:Int)+(↑r:Int))),n))] [0,Int.toNat (wI ((↑fi:Int)+(↑r:Int))),0,101] (λM=>bh 0 (Int.toNat (wI ((↑fi:Int)+(↑r:Int))),0) (ptr (u (Int.toNat (wI ((↑fi:Int)+(↑c:Int)))))) (M)) λY Q h t R=>?_;rw[P,E]at h;replace h:St D B 82 _ (tR g (upd u (fi+r) (u (fi+c))) n::C) 0 Y Q:=⟨h.env,gp h.sat,h.sz⟩;refine aX (λM=>bh 0 ((fi+c),0) (ptr (u (fi+r))) (M)) 0 F e a t h 9 [0,(fi+c),0,101] 6 [] ((10,i6 c)::kC g n cap hi fi) 53 8 [19,13,22] [] [] [((↑(fi+c):Int),n)] [(1,((fi+c),n))] λM E l t P P P=>?_;replace l:St D B 82 ((10,i6 c)::kC g n cap hi fi) (tR g (upd (upd u (fi+r) (u (fi+c))) (fi+c) (u (fi+r))) n::C) 0 M E:=⟨l.env,gp l.sat,l.sz⟩;exact L _ M E B t ω ω l (m.swap ω ω ω ω) (N.sw s w v J (j.1 H))
 .have S:(!decide (z<0))=true:=ξ
  replace i:=i.dB ((56,i6 z)::(11,i6 c)::(10,i6 r)::kC g n cap hi fi) rfl;refine TP F e a k i 4 [] 6 [] [] 41 12 [19,13] [] [(!decide (z<0),true)] [] [] λZ G o b p q y=>cC F o a x b [] (.tuple #[]) ?_;exact K u G ω o.sat m (N.fin λf b a=>by have:=J f b a;have:=mt j.2 H;omega)
def vE(F:aB prog T (DX D) O)(o:HB B D){U:aC}(a:U.kind=.normal)(d:U.fn=205){W:aC}{V:cO}{C:aW}{g:Addr}{n cap hi fi lo:Nat}(i:n<1000000)(j:fi+hi<=n)(J:Q.a<=fi/\fi+hi<=Q.b){X:aj}(k:B<=X.heap.size)(K:∀u f,X.heap.size<=f.heap.size->Sat D f (tR g u n::C)->fS Q C u n->En Q.κ fi lo hi u->O (G (W.finish (.tuple #[])) V) f):
 ∀(m r:Nat)(u:bU)(v:Act)(f:aj)(I:Nat),hi<=r+m->lo<=r/\r<1000000->v.defers=[]->X.heap.size<=I->f.heap.size=I->St D I 82 ((10,i6 r)::kC g n cap hi fi) (tR g u n::C) 0 v f->fS Q C u n->PM Q.κ fi lo hi r u->O (G (U.at v (pc prog 205 7 [] [])) (W::V)) f
 |m,r,u,v,f,I,w,hr,b,l,h,H,p,t=>by
  have G:wI (2*(r:Int))=((2*r:Nat):Int):=j6;have C:wI (((2*r:Nat):Int)+1)=((2*r+1:Nat):Int):=j6;refine Rb F o a b H 8 [] 1 [] ((11,i6 (wI (wI (2*(↑r:Int))+1)))::(10,i6 r)::kC g n cap hi fi) 15 1 [] λB B S A B B B=>?_;rw[G,C]at S;obtain⟨c,E⟩:∃c:Nat,c=2*r+1:=⟨_,rfl⟩;rw[<-E]at S;by_cases B:hi<=c
  .have e:decide ((c:Int)≥(hi:Int))=true:=θ
   refine TP F o a A S 9 [] 6 [] [] 24 3 [] [] [(decide ((↑c:Int)≥(↑hi:Int)),true)] [] [] λa3 w3 x s L M R=>cC F x a d s [] (.tuple #[]) ?_;exact K u w3 ω x.sat p (t.fin λY q q2=>ω)
  have G:wI ((c:Int)+1)=((c+1:Nat):Int):=j6;have e:wI ((fi:Int)+c)=((fi+c:Nat):Int):=j6;have C:wI (wI ((fi:Int)+c)+1)=((fi+c+1:Nat):Int):=by rw[e];exact j6
  by_cases B:c+1<hi
  .have e6:decide (wI ((c:Int)+1)<(hi:Int))=true:=χ
   refine TP F o a A S 12 [0,Int.toNat (wI ((↑fi:Int)+(↑c:Int))),0,101,0,Int.toNat (wI (wI ((↑fi:Int)+(↑c:Int))+1)),0,101] 28633115304 [19] ((37,ptr (u (Int.toNat (wI (wI ((↑fi:Int)+(↑c:Int))+1)))))::(36,.pointer (some (Addr.add g (Int.toNat (wI (wI ((↑fi:Int)+(↑c:Int))+1))*1))))::(35,i6 (wI (wI ((↑fi:Int)+(↑c:Int))+1)))::(34,i6 (wI ((↑fi:Int)+(↑c:Int))))::(33,i6 c)::(32,i6 fi)::(31,.slice (some g) n cap)::(30,ptr (u (Int.toNat (wI ((↑fi:Int)+(↑c:Int))))))::(29,.pointer (some (Addr.add g (Int.toNat (wI ((↑fi:Int)+(↑c:Int)))*1))))::(28,i6 (wI ((↑fi:Int)+(↑c:Int))))::(27,i6 c)::(26,i6 fi)::(25,.slice (some g) n cap)::(24,av)::(23,.bool (decide (wI ((↑c:Int)+1)<(↑hi:Int))))::(11,i6 c)::(10,i6 r)::kC g n cap hi fi) 27 2 [19] [14] [(decide (wI ((↑c:Int)+1)<(↑hi:Int)),true),(decide ((↑c:Int)≥(↑hi:Int)),false)] [(wI (wI ((↑fi:Int)+(↑c:Int))+1),n),(wI ((↑fi:Int)+(↑c:Int)),n)] [(1,(Int.toNat (wI (wI ((↑fi:Int)+(↑c:Int))+1)),n)),(1,(Int.toNat (wI ((↑fi:Int)+(↑c:Int))),n))] λa3 w3 x s L M R=>?_;rw[e6,C,e]at x;have C:=p.r (fi+c) ω;have B:=p.r (fi+c+1) ω;refine ah F a s x 38 190 #[ptr (u (fi+c)),ptr (u ((fi+c+1)))] λe e=>kM F o (p:=u (fi+c)) (q:=u (fi+c+1)) x.sat C.cons B.cons ω λz B N C B=>e _ _ _ C λe e S4 P e=>?_;replace S4:=S4.dB ((38,i6 z)::(23,.bool true)::(11,i6 c)::(10,i6 r)::kC g n cap hi fi) rfl;by_cases hr:z<0
   .have er:decide (z<0)=true:=ξ
    refine TP F o a P S4 10 [] 27 [] ((11,i6 (wI ((↑c:Int)+1)))::(10,i6 r)::kC g n cap hi fi) 38 6 [19] [] [(decide (z<0),true)] [] [] λa5 w5 Z y Y5 Dw qO=>?_;rw[G]at Z;match m,w with
    |0,w=>omega
    |m+1,w=>
     exact BA F o a d i j J ω ω k K (λu v f I b l h H p t=>vE F o a d i j J k K m (c+1) u v f I ω ω b l h H p t) y ω ω Z p t ω ω λY q q2=>(by have:=N.1 ‹_›;rcases q with q|q<;>(subst q;first|(rw[<-E];rw[Nat.add_assoc]at this;omega)|(rw[show 2*r+2=c+1 by omega];omega)))
   .have er:decide (z<0)=false:=ξ
    refine TP F o a P S4 6 [] 19 [] ((11,i6 c)::(10,i6 r)::kC g n cap hi fi) 34 4 [19] [] [(decide (z<0),false)] [] [] λa5 w5 Z y Y5 Dw qO=>?_;match m,w with
    |0,w=>omega
    |m+1,w=>
     exact BA F o a d i j J ω ω k K (λu v f I b l h H p t=>vE F o a d i j J k K m c u v f I ω ω b l h H p t) y ω ω Z p t ω ω λY q q2=>(by have:=mt N.2 ‹_›;rcases q with q|q<;>(subst q;first|(rw[<-E];omega)|(rw[show 2*r+2=c+1 by omega,<-Nat.add_assoc];omega)))
  .have e6:decide (wI ((c:Int)+1)<(hi:Int))=false:=χ
   refine TP F o a A S 19 [] 90194313216 [19] ((11,i6 c)::(10,i6 r)::kC g n cap hi fi) 34 4 [19] [15] [(decide (wI ((↑c:Int)+1)<(↑hi:Int)),false),(decide ((↑c:Int)≥(↑hi:Int)),false)] [] [] λa3 w3 x s L M R=>?_;match m,w with
   |0,w=>omega
   |m+1,w=>
    exact BA F o a d i j J ω ω k K (λu v f I b l h H p t=>vE F o a d i j J k K m c u v f I ω ω b l h H p t) s ω ω x p t ω ω λY q q2=>(by rw[show Y=c by omega];exact Int.le_refl _)
def G9(F:aB prog T (DX D) O)(i:HB B D)(c:n<1000000)(d:lo<1000000)(e:fi+hi<=n)(k:Q.a<=fi/\fi+hi<=Q.b)(f:Sat D w (tR g u n::C))(l:fS Q C u n)(m:En Q.κ fi (lo+1) hi u)(h:B<=w.heap.size)(K:∀b a,w.heap.size<=a.heap.size->Sat D a (tR g b n::C)->fS Q C b n->En Q.κ fi lo hi b->O (G (W.finish (.tuple #[])) V) a):O (G (Frame.enter prog 205 #[.slice (some g) n cap,i6 lo,i6 hi,i6 fi,av] .normal) (W::V)) w:=by
 refine cJ func205 f 82 λU a I a a f b o j=>Rb F i a b o 7 [] 1 [] ((10,i6 lo)::kC g n cap hi fi) 7 1 [] λn g o b j j j=>vE F i a f c e k h K hi lo u n g _ ω ⟨az _,d⟩ b ω ω o l m.sf
end
section
variable{Q:RQ}
def BR(F:aB prog T (DX D) O)(h:HB B D){d:Nat}(c:a<n)(c:b<n)(j:Sat D w (bR d [i6 s]::tR g u n::C))(e:fS Q C u n)(c:B<=w.heap.size)(K:∀(x y:Nat)(f:Int) c,(x=a/\y=b)\/(x=b/\y=a)->w.heap.size<=c.heap.size->Sat D c (bR d [i6 f]::tR g u n::C)->O (G (W.finish (.tuple #[i6 x,i6 y])) V) c):O (G (Frame.enter prog 210 #[.slice (some g) n cap,i6 a,i6 b,ptr d,av] .normal) (W::V)) w:=by
 have i:=e.r b ‹_›;have g:=e.r a ‹_›;refine cJ func210 j 32 λU c I c c f e k j=>TP F h c e k 8 [1,b,0,101,1,a,0,101] 26 [9] [(20,ptr (u a)),(16,ptr (u b)),(12,av),(1,i6 a),(2,i6 b),(3,ptr d)] 8 1 [9] [] [] [((↑a:Int),n),((↑b:Int),n)] [(1,(a,n)),(1,(b,n))] λd d e d j j j=>ah F c d e 21 190 #[ptr (u b),ptr (u a)] λd d=>kM F h (p:=u b) (q:=u a) e.sat i.cons.cons g.cons.cons ω λz e e g e=>d _ _ _ g λd d m e d=>?_;by_cases d:z<0
 .have g:decide (z<0)=true:=by simpa using d
  refine aX (λM=>bh 0 (0,0) (i6 (wI (s+1))) (M)) 0 F h c e m 19 [0,0,0,1,0,0,0,1] 6 [] [(11,i6 a),(10,i6 b)] 28 3 [9] [] [(decide (z<0),true)] [] [] λn i g d j k l=>cC F g c f d [] (.tuple #[i6 b,i6 a]) ?_;exact K b a _ i (.inr ⟨rfl,rfl⟩) ω g.sat
 .refine TP F h c e m 11 [] 4 [] [(11,i6 b),(10,i6 a)] 20 2 [9] [] [(decide (z<0),false)] [] [] λn i g d j k l=>cC F g c f d [] (.tuple #[i6 a,i6 b]) ?_;exact K a b s i (.inl ⟨rfl,rfl⟩) ω g.sat
def HW(F:aB prog T (DX D) O)(f:HB B D){e:Nat}(p:a<n)(o:b<n)(m:c<n)(i:Sat D w (bR e [i6 s]::tR g u n::C))(j:fS Q C u n)(d:B<=w.heap.size)(K:∀(x:Nat)(h:Int) d,x=a\/x=b\/x=c->w.heap.size<=d.heap.size->Sat D d (bR e [i6 h]::tR g u n::C)->O (G (W.finish (i6 x)) V) d):O (G (Frame.enter prog 209 #[.slice (some g) n cap,i6 a,i6 b,i6 c,ptr e,av] .normal) (W::V)) w:=by
 refine cJ func209 i 41 λU d I d d i h l k=>Rb F f d h l 11 [] 1 [] [(18,av),(17,ptr e),(16,i6 b),(15,i6 a),(14,.slice (some g) n cap),(0,.slice (some g) n cap),(3,i6 c),(4,ptr e),(5,av)] 11 1 [] λh h k h l l l=>ah F d h k 19 210 #[.slice (some g) n cap,i6 a,i6 b,ptr e,av] λa a=>BR F f p o k.sat j ω λx y b b b b b=>a _ _ _ b λa a h a b=>Rb F f d a h 13 [] 1 [] [(27,av),(26,ptr e),(25,i6 c),(24,i6 y),(23,.slice (some g) n cap),(1,i6 x),(0,.slice (some g) n cap),(4,ptr e),(5,av)] 25 1 [] λa a b a h h h=>ah F d a b 28 210 #[.slice (some g) n cap,i6 y,i6 c,ptr e,av] λa a=>BR F f (a:=y) (b:=c) ω m b.sat j ω λb c c c c c c=>a _ _ _ c λa a h a c=>Rb F f d a h 13 [] 1 [] [(36,av),(35,ptr e),(34,i6 b),(33,i6 x),(32,.slice (some g) n cap)] 39 1 [] λa a c a h h h=>ah F d a c 37 210 #[.slice (some g) n cap,i6 x,i6 b,ptr e,av] λa a=>BR F f (a:=x) (b:=b) ω ω c.sat j ω λb c e b b b b=>a _ _ _ b λa a g a b=>UF F f d i a g 11 [] 1 [] 12 (i6 c) 51 1 [] λa b d d=>K c e a ω ω b.sat
def BZ(F:aB prog T (DX D) O)(f:HB B D){c:Nat}(b:n<1000000)(b:0<a)(b:a+1<n)(e:Sat D w (bR c [i6 s]::tR g u n::C))(j:fS Q C u n)(b:B<=w.heap.size)(K:∀(x:Nat)(d:Int) b,a<=x+1->x<=a+1->w.heap.size<=b.heap.size->Sat D b (bR c [i6 d]::tR g u n::C)->O (G (W.finish (i6 x)) V) b):O (G (Frame.enter prog 208 #[.slice (some g) n cap,i6 a,ptr c,av] .normal) (W::V)) w:=by
 have l:wm a=((a-1:Nat):Int):=j6;have k:wp a=((a+1:Nat):Int):=j6;refine cJ func208 e 18 λU b I b b e d m i=>Rb F f b d m 14 [] 1 [] [(16,av),(15,ptr c),(14,i6 (wp a)),(12,i6 a),(11,i6 (wm a)),(9,.slice (some g) n cap)] 14 1 [] λd d h d i i i=>?_;rw[l,k]at h;refine ah F b d h 17 209 #[.slice (some g) n cap,i6 (↑(a-1):Int),i6 a,i6 (↑(a+1):Int),ptr c,av] λc c=>HW F f (a:=a-1) (b:=a) (c:=a+1) ω ω ω h.sat j ω λx d a a a a=>c _ _ _ a λa a g a c=>UF F f b e a g 2 [] 1 [] 8 (i6 x) 17 1 [] λa c b b=>K x d a ω ω ω c.sat
def Ut(F:aB prog T (DX D) O)(m:HB B D)(c:n<1000000)(d:a+12<b)(d:b<=n)(e:Sat D w (tR g u n::C))(z:fS Q C u n)(d:B<=w.heap.size)(K:∀(p:Nat)(h:Int) d,a<=p->p<b->h=0\/h=1\/h=2->w.heap.size<=d.heap.size->Sat D d (tR g u n::C)->O (G (W.finish (.tuple #[i6 p,i6 h])) V) d):O (G (Frame.enter prog 198 #[.slice (some g) n cap,i6 a,i6 b,av] .normal) (W::V)) w:=by
 obtain⟨l,rfl⟩:∃l,b=a+l:=⟨b-a,ω⟩;obtain⟨q,b⟩:∃q,q=l / 4:=⟨_,rfl⟩;have s:wI (((a+l:Nat):Int)-a)=(l:Int):=j6;have r:wI (Int.tdiv (l:Int) 4)=(q:Int):=by rw[Int.tdiv_eq_ediv_of_nonneg ω];exact j6
 have f1:wI ((q:Int)*1)=((q:Nat):Int):=j6;have f2:wI ((q:Int)*2)=((2*q:Nat):Int):=j6;have f3:wI ((q:Int)*3)=((3*q:Nat):Int):=j6;have o:wI ((a:Int)+q)=((a+q:Nat):Int):=j6;have h:wI ((a:Int)+((2*q:Nat):Int))=((a+2*q:Nat):Int):=j6;have f:wI ((a:Int)+((3*q:Nat):Int))=((a+3*q:Nat):Int):=j6;refine cJ func198 e 63 λU b I b b p d t e=>Rb F m b d t 12 [] 1 [] [(10,i6 (wI ((↑(a+l):Int)-(↑a:Int)))),(0,.slice (some g) n cap),(1,i6 a),(3,av)] 12 1 [] λd d X d e e e=>?_;rw[s]at X;refine aq (λM=>bR (I) [i6 0]::(M)) 1 F m b d X 30 [] 1 [] ((14,i6 (wI ((↑a:Int)+wI (wI (Int.tdiv (↑l:Int) 4)*3))))::(13,i6 (wI ((↑a:Int)+wI (wI (Int.tdiv (↑l:Int) 4)*2))))::(12,i6 (wI ((↑a:Int)+wI (wI (Int.tdiv (↑l:Int) 4)*1))))::(11,ptr I)::(10,i6 l)::kD g n cap) 42 1 [] λd d P y d d d=>?_;rw[r,f1,f2,f3,o,h,f]at P;by_cases d:50<=l
 .have d:decide ((l:Int)≥50)=true:=θ
  refine aX (λM=>M) 1 F m b y P 20 [] 26 [] ((39,av)::(38,i6 (↑(a+q):Int))::(37,.slice (some g) n cap)::(14,i6 (↑(a+3*q):Int))::(13,i6 (↑(a+2*q):Int))::(11,ptr I)::kD g n cap) 62 7 [] [] [(decide ((↑l:Int)≥50),true),(decide ((↑l:Int)≥8),true)] [] [] λa3 Y A t G H J=>ah F b t A 40 208 #[.slice (some g) n cap,i6 (↑(a+q):Int),ptr I,av] λL r=>BZ F m (a:=a+q) c ω ω A.sat z ω λi d d d d d d=>r _ _ _ d λd d f d e=>Rb F m b d f 7 [] 1 [] ((43,av)::(42,i6 (↑(a+2*q):Int))::(41,.slice (some g) n cap)::(12,i6 i)::(14,i6 (↑(a+3*q):Int))::(11,ptr I)::kD g n cap) 70 7 [] λd d e d f f f=>ah F b d e 44 208 #[.slice (some g) n cap,i6 (↑(a+2*q):Int),ptr I,av] λd d=>BZ F m (a:=a+2*q) c ω ω e.sat z ω λj e e e e e e=>d _ _ _ e λd d f d e=>Rb F m b d f 6 [] 1 [] ((47,av)::(46,i6 (↑(a+3*q):Int))::(45,.slice (some g) n cap)::(13,i6 j)::(12,i6 i)::(11,ptr I)::kD g n cap) 77 7 [] λd d e d f f f=>ah F b d e 48 208 #[.slice (some g) n cap,i6 (↑(a+3*q):Int),ptr I,av] λd d=>BZ F m (a:=a+3*q) c ω ω e.sat z ω λk c c c c c c=>d _ _ _ c λc c d c e=>Rb F m b c d 8 [] 1 [] [(53,av),(52,i6 k),(51,i6 j),(50,i6 i),(49,.slice (some g) n cap),(11,ptr I)] 86 7 [] λc c e c d d d=>ah F b c e 54 209 #[.slice (some g) n cap,i6 i,i6 j,i6 k,ptr I,av] λc d=>HW F m (a:=i) (b:=j) (c:=k) ω ω ω e.sat z ω λx c E Z w u=>d _ _ _ u λN Q o h v=>?_;by_cases C:c=0
  .have S:(c==0)=true:=by simpa using C
   refine TP F m b h o 19 [0,0,0,1] 6 [] [(9,i6 1),(8,i6 x)] 106 15 [] [] [(c==0,true)] [] [] λs f e d i j k=>cC F e b p d [] (.tuple #[i6 x,i6 1]) ?_;exact K x 1 f ω ω ω ω e.sat.tail
  .have S:(c==0)=false:=by simpa using C
   by_cases B:c=12
   .have R:(c==12)=true:=by simpa using B
    refine TP F m b h o 25 [0,0,0,1] 24 [] [(9,i6 2),(8,i6 x)] 112 27 [] [] [(c==12,true),(c==0,false)] [] [] λs f e d i j k=>cC F e b p d [] (.tuple #[i6 x,i6 2]) ?_;exact K x 2 f ω ω ω ω e.sat.tail
   .have R:(c==12)=false:=by simpa using B
    refine TP F m b h o 25 [0,0,0,1] 16 [] [(9,i6 0),(8,i6 x)] 112 19 [] [] [(c==12,false),(c==0,false)] [] [] λs f e d i j k=>cC F e b p d [] (.tuple #[i6 x,i6 0]) ?_;exact K x 0 f ω ω ω ω e.sat.tail
 .refine aX (λM=>M) 1 F m b y P 22 [] 18 [] [(53,av),(52,i6 (↑(a+3*q):Int)),(51,i6 (↑(a+2*q):Int)),(50,i6 (↑(a+q):Int)),(49,.slice (some g) n cap),(11,ptr I)] 64 5 [] [] [(decide ((↑l:Int)≥50),false),(decide ((↑l:Int)≥8),true)] [] [] λa3 Y A t G H J=>ah F b t A 54 209 #[.slice (some g) n cap,i6 (↑(a+q):Int),i6 (↑(a+2*q):Int),i6 (↑(a+3*q):Int),ptr I,av] λL r=>HW F m (a:=a+q) (b:=a+2*q) (c:=a+3*q) ω ω ω A.sat z ω λx c E Z w u=>r _ _ _ u λN Q o h v=>?_;by_cases C:c=0
  .have S:(c==0)=true:=by simpa using C
   refine TP F m b h o 19 [0,0,0,1] 6 [] [(9,i6 1),(8,i6 x)] 84 13 [] [] [(c==0,true)] [] [] λs f e d i j k=>cC F e b p d [] (.tuple #[i6 x,i6 1]) ?_;exact K x 1 f ω ω ω ω e.sat.tail
  .by_cases B:c=12
   .have R:(c==12)=true:=by simpa using B
    refine TP F m b h o 25 [0,0,0,1] 24 [] [(9,i6 2),(8,i6 x)] 90 25 [] [] [(c==12,true),(c==0,false)] [] [] λs f e d i j k=>cC F e b p d [] (.tuple #[i6 x,i6 2]) ?_;exact K x 2 f ω ω ω ω e.sat.tail
   .refine TP F m b h o 25 [0,0,0,1] 16 [] [(9,i6 0),(8,i6 x)] 90 17 [] [] [(c==12,false),(c==0,false)] [] [] λs f e d i j k=>cC F e b p d [] (.tuple #[i6 x,i6 0]) ?_;exact K x 0 f ω ω ω ω e.sat.tail
end
section
variable{Q:RQ}
def Ef(F:aB prog T (DX D) O)(f:HB B D){U:aC}(d:U.kind=.normal)(qh:U.fn=200){W:aC}{V:cO}{C:aW}{g:Addr}{n cap a b:Nat}(N:n<1000000)(hab:a<b)(Z:b<=n)(hq:Q.a=a/\Q.b=b){X:aj}(yQ:B<=X.heap.size){c:Nat}(Y:c<5){i:Nat}(p:a<i)(R:i<b)(L:∀(i:Nat)(u:bU)(h:Act)(e:aj)(I:Nat),a<i->i<=b->h.defers=[]->X.heap.size<=I->e.heap.size=I->St D I 141 ((10,i6 ((c+1:Nat):Int))::(9,i6 i)::kA g n cap a b) (tR g u n::C) 0 h e->fS Q C u n->gw Q.κ a i u->O (G (U.at h (pc prog 200 17 [] [])) (W::V)) e):
 ∀(m j:Nat)(u:bU)(h:Act)(e:aj)(I:Nat),b<=j+m->i<j->j<=b->h.defers=[]->X.heap.size<=I->e.heap.size=I->St D I 141 ((12,i6 j)::((10,i6 c)::(9,i6 i)::kA g n cap a b)) (tR g u n::C) 0 h e->fS Q C u n->gw Q.κ a i u->O (G (U.at h (pc prog 200 105 [true,false,false,false,true,false,true] [14,16])) (W::V)) e
 |m,j,u,h,e,I,P,Q,G,v,hB1,B,S1,w,hI=>by
  have ec:wp c=((c+1:Nat):Int):=j6;by_cases e:j<b
  .have e:decide ((j:Int)<(b:Int))=true:=θ
   obtain⟨k,rfl⟩:∃k,j=k+1:=⟨j-1,ω⟩;have B:wm (k+1)=(k:Int):=j6;have e3:wp (k+1)=((k+2:Nat):Int):=j6;have Q:=w.r (k+1) ω;have G:=w.r k ω;refine TP F f d v S1 14 [0,(k+1),0,101,0,Int.toNat (wm (k+1)),0,101] 106 [10] ((121,ptr (u (Int.toNat (wm (k+1)))))::(116,ptr (u (k+1)))::(112,av)::(12,i6 (↑(k+1):Int))::(10,i6 c)::(9,i6 i)::kA g n cap a b) 119 465 [14,16,10] [] [(decide ((↑(k+1):Int)<(↑b:Int)),true)] [(wm (k+1),n),((↑(k+1):Int),n)] [(1,(Int.toNat (wm (k+1)),n)),(1,((k+1),n))] λa2 w2 s o H K Rw=>?_;rw[B]at s;refine ah F d o s 122 190 #[ptr (u (k+1)),ptr (u (k))] λe e=>kM F f (p:=u (k+1)) (q:=u k) s.sat Q.cons G.cons ω λz G G Q G=>e _ _ _ Q λe A y t e=>?_;replace y:=y.dB ((122,i6 z)::(12,i6 ((k+1:Nat):Int))::((10,i6 c)::(9,i6 i)::kA g n cap a b)) rfl;by_cases e:z<0
   .have G:(!decide (z<0))=false:=by simpa using e
    refine TP F f d t y 5 [] 4 [] ((12,i6 (↑(k+1):Int))::(10,i6 c)::(9,i6 i)::kA g n cap a b) 125 721 [14,16,10] [] [(!decide (z<0),false)] [] [] λa4 w4 x l E J Uh=>OG F f d l x 15 [0,Int.toNat (wm (k+1)),0,101,0,(k+1),0,101] 106 [(139,.pointer (some (Addr.mk g.block (g.off+(k+1)*1) none))),(134,ptr (u (Int.toNat (wm (k+1)))))] ((138,ptr (u (k+1)))::(129,i6 (wm (k+1)))::(127,.slice (some g) n cap)::(12,i6 (↑(k+1):Int))::(10,i6 c)::(9,i6 i)::kA g n cap a b) [] [] [((↑(k+1):Int),n),((↑(k+1):Int),n),(wm (k+1),n)] [(1,((k+1),n)),(1,(Int.toNat (wm (k+1)),n))] [(1,((k+1),n))] [0,(k+1),0,101] (λM=>bh 0 ((k+1),0) (ptr (u (Int.toNat (wm (k+1))))) (M)) λa5 G r e Q=>?_;rw[B]at r;replace r:St D A 141 _ (tR g (upd u (k+1) (u k)) n::C) 0 a5 G:=⟨r.env,gp r.sat,r.sz⟩;refine aX (λM=>bh 0 (k,0) (ptr (u (k+1))) (M)) 0 F f d e r 10 [0,k,0,101] 6 [] ((12,i6 (wp (k+1)))::(10,i6 c)::(9,i6 i)::kA g n cap a b) 136 721 [14,16,10,16] [] [] [((↑k:Int),n)] [(1,(k,n))] λa6 w6 q S e e e=>?_;rw[e3]at q;replace q:St D A 141 ((12,i6 ((k+2:Nat):Int))::((10,i6 c)::(9,i6 i)::kA g n cap a b)) (tR g (upd (upd u (k+1) (u k)) k (u (k+1))) n::C) 0 a6 w6:=⟨q.env,gp q.sat,q.sz⟩
    match m,P with
    |0,P=>omega
    |m+1,P=>exact Ef F f d qh N hab Z hq yQ Y p R L m (k+2) _ a6 w6 A ω ω ω S ω ω q (w.swap ω ω ω ω) (hI.out ω ω)
   .refine TP F f d t y 12 [] 6 [] ((10,i6 (wp c))::(9,i6 i)::kA g n cap a b) 132 977 [14,16,10] [] [(!decide (z<0),true)] [] [] λa4 w4 x l E J Uh=>?_;rw[ec]at x;exact L i u a4 w4 A p ω l ω ω x w hI
  .refine TP F f d v S1 16 [] 4 [] ((10,i6 (wp c))::(9,i6 i)::kA g n cap a b) 121 337 [14,16] [] [(decide ((↑j:Int)<(↑b:Int)),false)] [] [] λa2 w2 s o H K Rw=>?_;rw[ec]at s;exact L i u a2 w2 _ p ω o ω ω s w hI
def MR(F:aB prog T (DX D) O)(f:HB B D){U:aC}(d:U.kind=.normal)(H:U.fn=200){W:aC}{V:cO}{C:aW}{g:Addr}{n cap a b:Nat}(v:n<1000000)(J:a<b)(E:b<=n)(hq:Q.a=a/\Q.b=b){X:aj}(K:B<=X.heap.size){c:Nat}(A:c<5){i:Nat}(o:a<i)(w:i<b)(L:∀(i:Nat)(u:bU)(t:Act)(r:aj)(I:Nat),a<i->i<=b->t.defers=[]->X.heap.size<=I->r.heap.size=I->St D I 141 ((10,i6 ((c+1:Nat):Int))::(9,i6 i)::kA g n cap a b) (tR g u n::C) 0 t r->fS Q C u n->gw Q.κ a i u->O (G (U.at t (pc prog 200 17 [] [])) (W::V)) r):
 ∀(m j:Nat)(u:bU)(t:Act)(r:aj)(I:Nat),j<=m->a<=j/\j<i->t.defers=[]->X.heap.size<=I->r.heap.size=I->St D I 141 ((11,i6 j)::((10,i6 c)::(9,i6 i)::kA g n cap a b)) (tR g u n::C) 0 t r->fS Q C u n->zf Q.κ a (i-1) j u->O (G (U.at t (pc prog 200 81 [true,false,false,false,true] [14,16])) (W::V)) r
 |m,j,u,t,r,I,hm,G,y,Q,B,S1,s,hI=>by
  have ei1:i-1+1=i:=ω
  have ec:wp c=((c+1:Nat):Int):=j6;have ei:wp i=((i+1:Nat):Int):=j6;have eb:wI ((b:Int)-i)=((b-i:Nat):Int):=j6;by_cases r:1<=j
  .have r:decide ((j:Int)≥1)=true:=θ
   obtain⟨k,rfl⟩:∃k,j=k+1:=⟨j-1,ω⟩;have B:wm (k+1)=(k:Int):=j6;have Q:=s.r (k+1) ω;have G:=s.r k ω;refine TP F f d y S1 13 [0,(k+1),0,101,0,Int.toNat (wm (k+1)),0,101] 106 [10] ((81,ptr (u (Int.toNat (wm (k+1)))))::(76,ptr (u (k+1)))::(72,av)::(11,i6 (↑(k+1):Int))::(10,i6 c)::(9,i6 i)::kA g n cap a b) 94 113 [14,16,10] [] [(decide ((↑(k+1):Int)≥1),true)] [(wm (k+1),n),((↑(k+1):Int),n)] [(1,(Int.toNat (wm (k+1)),n)),(1,((k+1),n))] λa2 w2 p l Y yP Rw=>?_;rw[B]at p;refine ah F d l p 82 190 #[ptr (u (k+1)),ptr (u (k))] λr r=>kM F f (p:=u (k+1)) (q:=u k) p.sat Q.cons G.cons ω λz G hk3 Q G=>r _ _ _ Q λr B3 S3 x r=>?_;replace S3:=S3.dB ((82,i6 z)::(11,i6 ((k+1:Nat):Int))::((10,i6 c)::(9,i6 i)::kA g n cap a b)) rfl;have r:=λq=>s.lo k (k+1) q ω ω;by_cases hz:z<0
   .have hzk:=hk3.1 hz;have hak:a<=k:=Nat.le_of_not_lt λq=>by have:=r ω;omega
    have r:(!decide (z<0))=false:=by simpa using hz
    refine TP F f d x S3 5 [] 4 [] ((11,i6 (↑(k+1):Int))::(10,i6 c)::(9,i6 i)::kA g n cap a b) 100 177 [14,16,10] [] [(!decide (z<0),false)] [] [] λa4 w4 N h S Z Uh=>OG F f d h N 15 [0,Int.toNat (wm (k+1)),0,101,0,(k+1),0,101] 106 [(99,.pointer (some (Addr.mk g.block (g.off+(k+1)*1) none))),(94,ptr (u (Int.toNat (wm (k+1)))))] ((98,ptr (u (k+1)))::(89,i6 (wm (k+1)))::(87,.slice (some g) n cap)::(11,i6 (↑(k+1):Int))::(10,i6 c)::(9,i6 i)::kA g n cap a b) [] [] [((↑(k+1):Int),n),((↑(k+1):Int),n),(wm (k+1),n)] [(1,((k+1),n)),(1,(Int.toNat (wm (k+1)),n))] [(1,((k+1),n))] [0,(k+1),0,101] (λM=>bh 0 ((k+1),0) (ptr (u (Int.toNat (wm (k+1))))) (M)) λa5 G R r Q=>?_;rw[B]at R;replace R:St D B3 141 _ (tR g (upd u (k+1) (u k)) n::C) 0 a5 G:=⟨R.env,gp R.sat,R.sz⟩;refine aX (λM=>bh 0 (k,0) (ptr (u (k+1))) (M)) 0 F f d r R 10 [0,k,0,101] 6 [] ((11,i6 (wm (k+1)))::(10,i6 c)::(9,i6 i)::kA g n cap a b) 111 177 [14,16,10,16] [] [] [((↑k:Int),n)] [(1,(k,n))] λa6 w6 P DE r r r=>?_;rw[B]at P;replace P:St D B3 141 ((11,i6 k)::((10,i6 c)::(9,i6 i)::kA g n cap a b)) (tR g (upd (upd u (k+1) (u k)) k (u (k+1))) n::C) 0 a6 w6:=⟨P.env,gp P.sat,P.sz⟩
    match m,hm with
    |0,hm=>omega
    |m+1,hm=>exact MR F f d H v J E hq K A o w L m k _ a6 w6 B3 ω ω DE ω ω P (s.swap ω ω ω ω) (hI.sw hak ω hzk)
   .have e:=hI.fin (.inr ⟨k,rfl,λq=>hz (hk3.2 q)⟩);rw[ei1]at e;by_cases k:2<=b-i
    .have m:decide (wI ((b:Int)-i)≥2)=true:=by rw[eb];simp;omega
     refine TP F f d x S3 21 [] 26 [] ((12,i6 (wp i))::(10,i6 c)::(9,i6 i)::kA g n cap a b) 116 497 [14,16,10] [] [(decide (wI ((↑b:Int)-(↑i:Int))≥2),true),(!decide (z<0),true)] [] [] λa4 w4 N h S Z Uh=>?_;rw[ei]at N;exact Ef F f d H v J E hq K A o w L b (i+1) u a4 w4 B3 ω ω ω h ω ω N s e
    .have m:decide (wI ((b:Int)-i)≥2)=false:=by rw[eb];simp;omega
     refine TP F f d x S3 21 [] 18 [] ((10,i6 (wp c))::(9,i6 i)::kA g n cap a b) 116 369 [14,16,10] [] [(decide (wI ((↑b:Int)-(↑i:Int))≥2),false),(!decide (z<0),true)] [] [] λa4 w4 N h S Z Uh=>?_;rw[ec]at N;exact L i u a4 w4 B3 o ω h ω ω N s e
  .have e:=hI.fin (.inl ω);rw[ei1]at e;by_cases k:2<=b-i
   .have m:decide (wI ((b:Int)-i)≥2)=true:=by rw[eb];simp;omega
    refine TP F f d y S1 24 [] 24 [] ((12,i6 (wp i))::(10,i6 c)::(9,i6 i)::kA g n cap a b) 105 209 [14,16] [] [(decide (wI ((↑b:Int)-(↑i:Int))≥2),true),(decide ((↑j:Int)≥1),false)] [] [] λa2 w2 p l Y yP Rw=>?_;rw[ei]at p;exact Ef F f d H v J E hq K A o w L b (i+1) u a2 w2 _ ω ω ω l ω ω p s e
   .have m:decide (wI ((b:Int)-i)≥2)=false:=by rw[eb];simp;omega
    refine TP F f d y S1 24 [] 16 [] ((10,i6 (wp c))::(9,i6 i)::kA g n cap a b) 105 145 [14,16] [] [(decide (wI ((↑b:Int)-(↑i:Int))≥2),false),(decide ((↑j:Int)≥1),false)] [] [] λa2 w2 p l Y yP Rw=>?_;rw[ec]at p;exact L i u a2 w2 _ o ω l ω ω p s e
def MU(F:aB prog T (DX D) O)(e:HB B D){U:aC}(d:U.kind=.normal)(h:U.fn=200){W:aC}{V:cO}{C:aW}{g:Addr}{n cap a b:Nat}(o:n<1000000)(A:a<b)(v:b<=n)(hq:Q.a=a/\Q.b=b){X:aj}(E:B<=X.heap.size){c:Nat}(t:c<5)(K:∀(x:Bool) u f,X.heap.size<=f.heap.size->Sat D f (tR g u n::C)->fS Q C u n->(x=true->gw Q.κ a b u)->O (G (W.finish (.bool x)) V) f)(L:∀(i:Nat)(u:bU)(j:Act)(f:aj)(I:Nat),a<i->i<=b->j.defers=[]->X.heap.size<=I->f.heap.size=I->St D I 141 ((10,i6 ((c+1:Nat):Int))::(9,i6 i)::kA g n cap a b) (tR g u n::C) 0 j f->fS Q C u n->gw Q.κ a i u->O (G (U.at j (pc prog 200 17 [] [])) (W::V)) f):
 ∀(m i:Nat)(u:bU)(j:Act)(f:aj)(I:Nat),b<=i+m->a<i->i<=b->j.defers=[]->X.heap.size<=I->f.heap.size=I->St D I 141 ((10,i6 c)::(9,i6 i)::kA g n cap a b) (tR g u n::C) 0 j f->fS Q C u n->gw Q.κ a i u->O (G (U.at j (pc prog 200 30 [true] [])) (W::V)) f
 |m,i,u,j,f,I,hm,w,B,Y,G,s,S1,J,hI=>by
  have ec:wp c=((c+1:Nat):Int):=j6;have ei:wp i=((i+1:Nat):Int):=j6;have eb:wI ((b:Int)-i)=((b-i:Nat):Int):=j6;have ea:wI ((i:Int)-a)=((i-a:Nat):Int):=j6;have p:wI ((b:Int)-a)=((b-a:Nat):Int):=j6;by_cases hi:i<b
  .have S:decide ((i:Int)<(b:Int))=true:=θ
   have f:((i:Int)==(b:Int))=false:=θ
   obtain⟨k,rfl⟩:∃k,i=k+1:=⟨i-1,ω⟩;have e2:wm (k+1)=(k:Int):=j6;have B:=J.r (k+1) ω;have s:=J.r k ω;refine TP F e d Y S1 3 [0,(k+1),0,101,0,Int.toNat (wm (k+1)),0,101] 27962026 [14] ((32,ptr (u (Int.toNat (wm (k+1)))))::(27,ptr (u (k+1)))::(23,av)::(22,.bool (decide ((↑(k+1):Int)<(↑b:Int))))::(10,i6 c)::(9,i6 (↑(k+1):Int))::kA g n cap a b) 33 3 [14] [10] [(decide ((↑(k+1):Int)<(↑b:Int)),true)] [(wm (k+1),n),((↑(k+1):Int),n)] [(1,(Int.toNat (wm (k+1)),n)),(1,((k+1),n))] λf w2 S2 f tM yP G=>?_;rw[S,e2]at S2;refine ah F d f S2 33 190 #[ptr (u (k+1)),ptr (u (k))] λf f=>kM F e (p:=u (k+1)) (q:=u k) S2.sat B.cons s.cons ω λz s hk3 B s=>f _ _ _ B λf R Z s f=>?_;replace Z:=Z.dB ((33,i6 z)::(22,.bool true)::((10,i6 c)::(9,i6 ((k+1:Nat):Int))::kA g n cap a b)) rfl;by_cases hz:z<0
   .have f:(!decide (z<0))=false:=by simpa using hz
    by_cases f:b-a<50
    .have f:decide (wI ((b:Int)-a)<50)=true:=by rw[p];simp;omega
     refine ZI F e d h s Z 28 [] 1551 [] 8 (.bool false) 62 25 [14] [] [(decide (wI ((↑b:Int)-(↑a:Int))<50),true),((↑(k+1):Int)==(↑b:Int),false),(!decide (z<0),false)] [] [] λw4 P G S=>K false u w4 ω P.sat J nofun
    .have f:decide (wI ((b:Int)-a)<50)=false:=by rw[p];simp;omega
     refine TP F e d s Z 26 [] 1039 [] ((10,i6 c)::(9,i6 (↑(k+1):Int))::kA g n cap a b) 60 17 [14] [] [(decide (wI ((↑b:Int)-(↑a:Int))<50),false),((↑(k+1):Int)==(↑b:Int),false),(!decide (z<0),false)] [] [] λa4 w4 P r G S Uh=>OG F e d r P 15 [0,Int.toNat (wm (k+1)),0,101,0,(k+1),0,101] 106 [(60,.pointer (some (Addr.mk g.block (g.off+(k+1)*1) none))),(55,ptr (u (Int.toNat (wm (k+1)))))] ((59,ptr (u (k+1)))::(50,i6 (wm (k+1)))::(48,.slice (some g) n cap)::(10,i6 c)::(9,i6 (↑(k+1):Int))::kA g n cap a b) [] [] [((↑(k+1):Int),n),((↑(k+1):Int),n),(wm (k+1),n)] [(1,((k+1),n)),(1,(Int.toNat (wm (k+1)),n))] [(1,((k+1),n))] [0,(k+1),0,101] (λM=>bh 0 ((k+1),0) (ptr (u (Int.toNat (wm (k+1))))) (M)) λa5 p N f B=>?_;rw[e2]at N;replace N:St D R 141 _ (tR g (upd u (k+1) (u k)) n::C) 0 a5 p:=⟨N.env,gp N.sat,N.sz⟩;refine aX (λM=>bh 0 (k,0) (ptr (u (k+1))) (M)) 0 F e d f N 6 [0,k,0,101] 6 [] ((10,i6 c)::(9,i6 (↑(k+1):Int))::kA g n cap a b) 67 17 [14,16] [] [] [((↑k:Int),n)] [(1,(k,n))] λM f H p B B B=>?_;replace H:St D R 141 ((10,i6 c)::(9,i6 ((k+1:Nat):Int))::kA g n cap a b) (tR g (upd (upd u (k+1) (u k)) k (u (k+1))) n::C) 0 M f:=⟨H.env,gp H.sat,H.sz⟩;have B:=J.swap (i:=k+1) (j:=k) ω ω ω ω;have hI6:gw Q.κ a k (upd (upd u (k+1) (u k)) k (u (k+1))):=gw.out (λx y C f M=>hI x y C f ω) ω ω;by_cases f:2<=k+1-a
     .have e7:decide (wI (((k+1:Nat):Int)-a)≥2)=true:=by rw[ea];simp;omega
      refine TP F e d p H 14 [] 6 [] ((11,i6 (wm (k+1)))::(10,i6 c)::(9,i6 (↑(k+1):Int))::kA g n cap a b) 81 49 [14,16] [] [(decide (wI ((↑(k+1):Int)-(↑a:Int))≥2),true)] [] [] λQ x l f y C M=>?_;rw[e2]at l;exact MR F e d h o A v hq E t w hi L k k _ Q x R (az _) ω f ω ω l B hI6.ins
     .have e7:decide (wI (((k+1:Nat):Int)-a)≥2)=false:=by rw[ea];simp;omega
      by_cases hbi:2<=b-(k+1)
      .have e8:decide (wI ((b:Int)-((k+1:Nat):Int))≥2)=true:=by rw[eb];simp;omega
       refine TP F e d p H 23 [] 24 [] ((12,i6 (wp (k+1)))::(10,i6 c)::(9,i6 (↑(k+1):Int))::kA g n cap a b) 90 97 [14,16] [] [(decide (wI ((↑b:Int)-(↑(k+1):Int))≥2),true),(decide (wI ((↑(k+1):Int)-(↑a:Int))≥2),false)] [] [] λQ x l f y C M=>?_;rw[ei]at l;exact Ef F e d h o A v hq E t w hi L b (k+1+1) _ Q x R ω ω ω f ω ω l B (.one ω)
      .have e8:decide (wI ((b:Int)-((k+1:Nat):Int))≥2)=false:=by rw[eb];simp;omega
       refine TP F e d p H 23 [] 16 [] ((10,i6 (wp c))::(9,i6 (↑(k+1):Int))::kA g n cap a b) 90 65 [14,16] [] [(decide (wI ((↑b:Int)-(↑(k+1):Int))≥2),false),(decide (wI ((↑(k+1):Int)-(↑a:Int))≥2),false)] [] [] λQ x l f y C M=>?_;rw[ec]at l;exact L (k+1) _ Q x R w ω f ω ω l B (.one ω)
   .refine TP F e d s Z 14 [] 111 [] ((10,i6 c)::(9,i6 (wp (k+1)))::kA g n cap a b) 48 7 [14] [] [(!decide (z<0),true)] [] [] λa4 w4 P r G S Uh=>?_;rw[ei]at P;match m,hm with
    |0,hm=>omega
    |m+1,hm=>exact MU F e d h o A v hq E t K L m (k+1+1) u a4 w4 R ω ω ω r ω ω P J (hI.ins.fin (.inr ⟨k,rfl,λq=>hz (hk3.2 q)⟩))
  .refine ZI F e d h Y S1 22 [] 1698693120 [14] 8 (.bool true) 52 13 [14] [1,11] [((↑i:Int)==(↑b:Int),true),(decide ((↑i:Int)<(↑b:Int)),false)] [] [] λw2 S2 tM yP=>K true u w2 ω S2.sat J λ_=>(by rw[show b=i by omega];exact hI)
def MN(F:aB prog T (DX D) O)(s:HB B D){U:aC}(e:U.kind=.normal)(h:U.fn=200){W:aC}{V:cO}{C:aW}{g:Addr}{n cap a b:Nat}(j:n<1000000)(p:a<b)(l:b<=n)(J:Q.a=a/\Q.b=b){X:aj}(q:B<=X.heap.size)(K:∀(x:Bool) u d,X.heap.size<=d.heap.size->Sat D d (tR g u n::C)->fS Q C u n->(x=true->gw Q.κ a b u)->O (G (W.finish (.bool x)) V) d):
 ∀(m c i:Nat)(u:bU)(r:Act)(d:aj)(I:Nat),c+m=5->a<i->i<=b->r.defers=[]->X.heap.size<=I->d.heap.size=I->St D I 141 ((10,i6 c)::(9,i6 i)::kA g n cap a b) (tR g u n::C) 0 r d->fS Q C u n->gw Q.κ a i u->O (G (U.at r (pc prog 200 17 [] [])) (W::V)) d
 |0,c,i,u,r,d,I,M,o,k,f,A,w,H,z,L=>by
  have x:decide ((c:Int)<5)=false:=θ
  refine ZI F s e h f H 12 [] 4 [] 8 (.bool false) 29 2 [] [] [(decide ((↑c:Int)<5),false)] [] [] λt E v y=>K false u t ω E.sat z nofun
 |m+1,c,i,u,r,d,I,M,o,k,f,A,w,H,z,L=>by
  refine TP F s e f H 13 [] 6 [] ((10,i6 c)::(9,i6 i)::kA g n cap a b) 30 3 [] [] [(decide ((↑c:Int)<5),true)] [] [] λC t E d v y a=>MU F s e h j p l J q (c:=c) ω K (λy x G w M B A f v a H g n=>MN F s e h j p l J q K m (c+1) y x G w M ω B A f v a H g n) b i u C t _ ω o k d ω ω E z L
def UA(F:aB prog T (DX D) O)(k:HB B D)(e:n<1000000)(i:a<b)(f:b<=n)(o:Q.a=a/\Q.b=b)(h:Sat D w (tR g u n::C))(p:fS Q C u n)(j:B<=w.heap.size)(K:∀(x:Bool) d c,w.heap.size<=c.heap.size->Sat D c (tR g d n::C)->fS Q C d n->(x=true->gw Q.κ a b d)->O (G (W.finish (.bool x)) V) c):O (G (Frame.enter prog 200 #[.slice (some g) n cap,i6 a,i6 b,av] .normal) (W::V)) w:=by
 have q:wp a=((a+1:Nat):Int):=j6;refine cJ func200 h 141 λU c I c c h d r m=>Rb F k c d r 17 [] 1 [] ((10,i6 0)::(9,i6 (wp a))::kA g n cap a b) 17 1 [] λm d l b g g g=>?_;rw[q]at l;exact MN F k c h e i f o j K 5 0 (a+1) u m d _ rfl ω ω b ω ω l p (.one ω)
end
section
variable{Q:RQ}
def Vq(F:aB prog T (DX D) O)(l:HB B D){U:aC}(c:U.kind=.normal)(Z:U.fn=202){W:aC}{V:cO}{C:aW}{g:Addr}{n cap a b:Nat}(P:n<1000000)(Y:b<=n)(hq:Q.a=a/\Q.b=b){X:aj}(yQ:B<=X.heap.size){j:Nat}(haj:a<=j)(S:j<b)(L:∀(i:Nat)(u:bU)(f:Act)(d:aj)(I:Nat),a<i->i<=b->f.defers=[]->X.heap.size<=I->d.heap.size=I->St D I 178 ((13,i6 j)::(12,i6 i)::kB g n cap a) (tR g u n::C) 0 f d->fS Q C u n->D1 Q.κ a b i j u->(i<=j->Q.κ (u a)<=Q.κ (u i))->O (G (U.at f (pc prog 202 34 [false] [14,13])) (W::V)) d):
 ∀(m i:Nat)(u:bU)(f:Act)(d:aj)(I:Nat),b<=i+m->a<i->i<=b->f.defers=[]->X.heap.size<=I->d.heap.size=I->St D I 178 ((13,i6 j)::(12,i6 i)::kB g n cap a) (tR g u n::C) 0 f d->fS Q C u n->D1 Q.κ a b i j u->O (G (U.at f (pc prog 202 22 [] [14])) (W::V)) d
 |m,i,u,f,d,I,R,s,p,r,B,b,S1,t,w=>by
  by_cases b:i<=j
  .have b:decide ((i:Int)<=(j:Int))=true:=θ
   have C:wp i=((i+1:Nat):Int):=j6;have B:=t.r a ω;have d:=t.r i ω;refine TP F l c r S1 3 [0,i,0,101,0,a,0,101] 6990506 [13] ((44,ptr (u a))::(40,ptr (u i))::(36,av)::(35,.bool (decide ((↑i:Int)<=(↑j:Int))))::(13,i6 j)::(12,i6 i)::kB g n cap a) 25 1 [14,13] [9] [(decide ((↑i:Int)<=(↑j:Int)),true)] [((↑a:Int),n),((↑i:Int),n)] [(1,(a,n)),(1,(i,n))] λa2 w2 v k J N Rw=>?_;rw[b]at v;refine ah F c k v 45 190 #[ptr (u i),ptr (u a)] λb b=>kM F l (p:=u i) (q:=u a) v.sat d.cons B.cons ω λz d o B d=>b _ _ _ B λb B3 A q b=>?_;replace A:=A.dB ((45,i6 z)::(35,.bool true)::((13,i6 j)::(12,i6 i)::kB g n cap a)) rfl;by_cases K:z<0
   .have b:decide (z<0)=true:=by simpa using K
    refine TP F l c q A 13 [] 27 [] ((13,i6 j)::(12,i6 (wp i))::kB g n cap a) 39 3 [14,13] [] [(decide (z<0),true)] [] [] λa4 E y h H M Uh=>?_;rw[C]at y;match m,R with
    |0,R=>omega
    |m+1,R=>exact Vq F l c Z P Y hq yQ haj S L m (i+1) u a4 E B3 ω ω ω h ω ω y t ⟨λx q1 b=>(by
     by_cases e:x=i
     .subst e;have:=o.1 K;omega
     .exact w.1 x q1 ω),w.2⟩
   .refine TP F l c q A 8 [] 19 [] ((13,i6 j)::(12,i6 i)::kB g n cap a) 34 2 [14,13] [] [(decide (z<0),false)] [] [] λa4 E y h H M Uh=>L i u a4 E B3 s p h ω ω y t w λ_=>by have:=mt o.2 K;omega
  .refine TP F l c r S1 12 [] 22020096 [13] ((13,i6 j)::(12,i6 i)::kB g n cap a) 34 2 [14,13] [10] [(decide ((↑i:Int)<=(↑j:Int)),false)] [] [] λa2 w2 v k J N Rw=>L i u a2 w2 _ s p k ω ω v t w λ_=>ω
def Vj(F:aB prog T (DX D) O)(l:HB B D){U:aC}(c:U.kind=.normal)(Z:U.fn=202){W:aC}{V:cO}{C:aW}{g:Addr}{n cap a b:Nat}(P:n<1000000)(Y:b<=n)(hq:Q.a=a/\Q.b=b){X:aj}(yQ:B<=X.heap.size){j:Nat}(haj:a<=j)(S:j<b)(L:∀(i:Nat)(u:bU)(f:Act)(d:aj)(I:Nat),a<i->i<=b->f.defers=[]->X.heap.size<=I->d.heap.size=I->St D I 178 ((13,i6 j)::(12,i6 i)::kB g n cap a) (tR g u n::C) 0 f d->fS Q C u n->D1 Q.κ a b i j u->(i<=j->Q.κ (u a)<=Q.κ (u i))->O (G (U.at f (pc prog 202 89 [false,false,false,false] [14,13,13,14,13])) (W::V)) d):
 ∀(m i:Nat)(u:bU)(f:Act)(d:aj)(I:Nat),b<=i+m->a<i->i<=b->f.defers=[]->X.heap.size<=I->d.heap.size=I->St D I 178 ((13,i6 j)::(12,i6 i)::kB g n cap a) (tR g u n::C) 0 f d->fS Q C u n->D1 Q.κ a b i j u->O (G (U.at f (pc prog 202 77 [false,false,false] [14,13,13,14])) (W::V)) d
 |m,i,u,f,d,I,R,s,p,r,B,b,S1,t,w=>by
  by_cases b:i<=j
  .have b:decide ((i:Int)<=(j:Int))=true:=θ
   have C:wp i=((i+1:Nat):Int):=j6;have B:=t.r a ω;have d:=t.r i ω;refine TP F l c r S1 3 [0,i,0,101,0,a,0,101] 6990506 [13] ((117,ptr (u a))::(113,ptr (u i))::(109,av)::(108,.bool (decide ((↑i:Int)<=(↑j:Int))))::(13,i6 j)::(12,i6 i)::kB g n cap a) 80 8 [14,13,13,14,13] [9] [(decide ((↑i:Int)<=(↑j:Int)),true)] [((↑a:Int),n),((↑i:Int),n)] [(1,(a,n)),(1,(i,n))] λa2 w2 v k J N Rw=>?_;rw[b]at v;refine ah F c k v 118 190 #[ptr (u i),ptr (u a)] λb b=>kM F l (p:=u i) (q:=u a) v.sat d.cons B.cons ω λz d o B d=>b _ _ _ B λb B3 A q b=>?_;replace A:=A.dB ((118,i6 z)::(108,.bool true)::((13,i6 j)::(12,i6 i)::kB g n cap a)) rfl;by_cases K:z<0
   .have b:decide (z<0)=true:=by simpa using K
    refine TP F l c q A 13 [] 27 [] ((13,i6 j)::(12,i6 (wp i))::kB g n cap a) 94 24 [14,13,13,14,13] [] [(decide (z<0),true)] [] [] λa4 E y h H M Uh=>?_;rw[C]at y;match m,R with
    |0,R=>omega
    |m+1,R=>exact Vj F l c Z P Y hq yQ haj S L m (i+1) u a4 E B3 ω ω ω h ω ω y t ⟨λx q1 b=>(by
     by_cases e:x=i
     .subst e;have:=o.1 K;omega
     .exact w.1 x q1 ω),w.2⟩
   .refine TP F l c q A 8 [] 19 [] ((13,i6 j)::(12,i6 i)::kB g n cap a) 89 16 [14,13,13,14,13] [] [(decide (z<0),false)] [] [] λa4 E y h H M Uh=>L i u a4 E B3 s p h ω ω y t w λ_=>by have:=mt o.2 K;omega
  .refine TP F l c r S1 12 [] 22020096 [13] ((13,i6 j)::(12,i6 i)::kB g n cap a) 89 16 [14,13,13,14,13] [10] [(decide ((↑i:Int)<=(↑j:Int)),false)] [] [] λa2 w2 v k J N Rw=>L i u a2 w2 _ s p k ω ω v t w λ_=>ω
def Vk(F:aB prog T (DX D) O)(h:HB B D){U:aC}(c:U.kind=.normal)(E:U.fn=202){W:aC}{V:cO}{C:aW}{g:Addr}{n cap a b:Nat}(hn9:n<1000000)(Fj:b<=n)(hq:Q.a=a/\Q.b=b){X:aj}(yQ:B<=X.heap.size){i J:Nat}(N:a<i)(hib:i<=b)(K:∀(i:Nat)(x:Bool) u d,a<=i->i<b->X.heap.size<=d.heap.size->Sat D d (tR g u n::C)->fS Q C u n->zG Q.κ a b i u->O (G (W.finish (.tuple #[i6 i,.bool x])) V) d)(L:∀(i j:Nat)(u:bU)(p:Act)(d:aj)(I:Nat),j<J->a<i->i<=b->a<=j->j<b->p.defers=[]->X.heap.size<=I->d.heap.size=I->St D I 178 ((13,i6 j)::(12,i6 i)::kB g n cap a) (tR g u n::C) 0 p d->fS Q C u n->D1 Q.κ a b i j u->O (G (U.at p (pc prog 202 73 [false,false,false] [14,13,13,14])) (W::V)) d):
 ∀(m j:Nat)(u:bU)(p:Act)(d:aj)(I:Nat),j<=m->j<=J->a<=j->j<b->p.defers=[]->X.heap.size<=I->d.heap.size=I->St D I 178 ((13,i6 j)::(12,i6 i)::kB g n cap a) (tR g u n::C) 0 p d->fS Q C u n->D1 Q.κ a b i j u->(i<=j->Q.κ (u a)<=Q.κ (u i))->O (G (U.at p (pc prog 202 34 [false] [14,13])) (W::V)) d
 |m,j,u,p,d,I,hm,G,H,hjb,A,B,b,S1,P,hI,hG=>by
  by_cases y:i<=j
  .obtain⟨k,rfl⟩:∃k,j=k+1:=⟨j-1,ω⟩
   have b:decide ((i:Int)<=((k+1:Nat):Int))=true:=θ
   have d:decide ((i:Int)>((k+1:Nat):Int))=false:=θ
   have B:wm (k+1)=((k:Nat):Int):=j6;have Q:wp i=((i+1:Nat):Int):=j6;have G:=P.r a ω;have d:=P.r (k+1) ω;refine TP F h c A S1 3 [0,(k+1),0,101,0,a,0,101] 6990506 [13] ((62,ptr (u a))::(58,ptr (u (k+1)))::(54,av)::(53,.bool (decide ((↑i:Int)<=(↑(k+1):Int))))::(13,i6 (↑(k+1):Int))::(12,i6 i)::kB g n cap a) 37 2 [14,13,13] [9] [(decide ((↑i:Int)<=(↑(k+1):Int)),true)] [((↑a:Int),n),((↑(k+1):Int),n)] [(1,(a,n)),(1,((k+1),n))] λa2 w2 Y q tM yP Rw=>?_;rw[b]at Y;refine ah F c q Y 63 190 #[ptr (u (k+1)),ptr (u a)] λb b=>kM F h (p:=u (k+1)) (q:=u a) Y.sat d.cons G.cons ω λz w3 w G d=>b _ _ _ G λa3 B3 l o YF=>?_;replace l:=l.dB ((63,i6 z)::(53,.bool true)::((13,i6 ((k+1:Nat):Int))::(12,i6 i)::kB g n cap a)) rfl;by_cases hz:z<0
   .have b:(!decide (z<0))=false:=by simpa using hz
    refine TP F h c o l 16 [] 271 [] ((13,i6 (↑(k+1):Int))::(12,i6 i)::kB g n cap a) 54 8 [14,13,13] [] [(decide ((↑i:Int)>(↑(k+1):Int)),false),(!decide (z<0),false)] [] [] λa4 Z r f t v R=>OG F h c f r 13 [0,(k+1),0,101,0,i,0,101] 106 [(99,.pointer (some (Addr.add g (i*1)))),(94,ptr (u (k+1)))] ((98,ptr (u i))::(90,i6 (↑(k+1):Int))::(89,.slice (some g) n cap)::(13,i6 (↑(k+1):Int))::(12,i6 i)::kB g n cap a) [] [] [((↑i:Int),n),((↑i:Int),n),((↑(k+1):Int),n)] [(1,(i,n)),(1,((k+1),n))] [(1,(i,n))] [0,i,0,101] (λM=>bh 0 (i,0) (ptr (u (k+1))) (M)) λJ d S b G=>?_;replace S:St D B3 178 _ (tR g (upd u i (u (k+1))) n::C) 0 J d:=⟨S.env,gp S.sat,S.sz⟩;refine aX (λM=>bh 0 ((k+1),0) (ptr (u i)) (M)) 0 F h c b S 18 [0,(k+1),0,101] 6 [] ((13,i6 (wm (k+1)))::(12,i6 (wp i))::kB g n cap a) 73 8 [14,13,13,14] [] [] [((↑(k+1):Int),n)] [(1,((k+1),n))] λG d s b J J J=>?_;rw[B,Q]at s;replace s:St D B3 178 ((13,i6 k)::(12,i6 ((i+1:Nat):Int))::kB g n cap a) (tR g (upd (upd u i (u (k+1))) (k+1) (u i)) n::C) 0 G d:=⟨s.env,gp s.sat,s.sz⟩;exact L (i+1) k _ G d B3 ω ω ω ω ω b ω ω s (P.swap ω ω ω ω) (hI.sw N y (hG y) (w.1 hz))
   .refine TP F h c o l 14 [] 111 [] ((13,i6 (wm (k+1)))::(12,i6 i)::kB g n cap a) 52 6 [14,13,13] [] [(!decide (z<0),true)] [] [] λa4 Z r f t v R=>?_;rw[B]at r;match m,hm with
    |0,hm=>omega
    |m+1,hm=>exact Vk F h c E hn9 Fj hq yQ N hib K L m k u a4 Z B3 ω ω ω ω f ω ω r P ⟨hI.1,λx b q2=>(by
     by_cases e:x=k+1
     .subst e;have:=mt w.2 hz;omega
     .exact hI.2 x ω q2)⟩ λz=>hG ω
  .refine TP F h c A S1 19 [] 424673280 [13] [(13,i6 j),(0,.slice (some g) n cap),(1,i6 a)] 53 12 [14,13,13] [1,10] [(decide ((↑i:Int)>(↑j:Int)),true),(decide ((↑i:Int)<=(↑j:Int)),false)] [] [] λa2 w2 Y q tM yP Rw=>OG F h c q Y 13 [0,a,0,101,0,j,0,101] 106 [(84,.pointer (some (Addr.add g (j*1)))),(79,ptr (u a))] [(83,ptr (u j)),(75,i6 a),(74,.slice (some g) n cap),(13,i6 j)] [] [] [((↑j:Int),n),((↑j:Int),n),((↑a:Int),n)] [(1,(j,n)),(1,(a,n))] [(1,(j,n))] [0,j,0,101] (λM=>bh 0 (j,0) (ptr (u a)) (M)) λa3 w3 l o YF=>?_;replace l:St D I 178 _ (tR g (upd u j (u a)) n::C) 0 a3 w3:=⟨l.env,gp l.sat,l.sz⟩;refine aX (λM=>bh 0 (a,0) (ptr (u j)) (M)) 0 F h c o l 9 [0,a,0,101] 6 [] [(11,.bool true),(10,i6 j)] 63 12 [14,13,13,14] [] [] [((↑a:Int),n)] [(1,(a,n))] λa4 Z r f t v R=>cC F r c E f [] (.tuple #[i6 j,.bool true]) ?_;exact K j true _ Z H hjb ω (gp r.sat) (P.swap ω ω ω ω) (hI.fin H ω)
def Vi(F:aB prog T (DX D) O)(h:HB B D){U:aC}(c:U.kind=.normal)(E:U.fn=202){W:aC}{V:cO}{C:aW}{g:Addr}{n cap a b:Nat}(hn9:n<1000000)(Fj:b<=n)(hq:Q.a=a/\Q.b=b){X:aj}(yQ:B<=X.heap.size){i J:Nat}(N:a<i)(hib:i<=b)(K:∀(i:Nat)(x:Bool) u d,a<=i->i<b->X.heap.size<=d.heap.size->Sat D d (tR g u n::C)->fS Q C u n->zG Q.κ a b i u->O (G (W.finish (.tuple #[i6 i,.bool x])) V) d)(L:∀(i j:Nat)(u:bU)(p:Act)(d:aj)(I:Nat),j<J->a<i->i<=b->a<=j->j<b->p.defers=[]->X.heap.size<=I->d.heap.size=I->St D I 178 ((13,i6 j)::(12,i6 i)::kB g n cap a) (tR g u n::C) 0 p d->fS Q C u n->D1 Q.κ a b i j u->O (G (U.at p (pc prog 202 73 [false,false,false] [14,13,13,14])) (W::V)) d):
 ∀(m j:Nat)(u:bU)(p:Act)(d:aj)(I:Nat),j<=m->j<=J->a<=j->j<b->p.defers=[]->X.heap.size<=I->d.heap.size=I->St D I 178 ((13,i6 j)::(12,i6 i)::kB g n cap a) (tR g u n::C) 0 p d->fS Q C u n->D1 Q.κ a b i j u->(i<=j->Q.κ (u a)<=Q.κ (u i))->O (G (U.at p (pc prog 202 89 [false,false,false,false] [14,13,13,14,13])) (W::V)) d
 |m,j,u,p,d,I,hm,G,H,hjb,A,B,b,S1,P,hI,hG=>by
  by_cases y:i<=j
  .obtain⟨k,rfl⟩:∃k,j=k+1:=⟨j-1,ω⟩
   have b:decide ((i:Int)<=((k+1:Nat):Int))=true:=θ
   have d:decide ((i:Int)>((k+1:Nat):Int))=false:=θ
   have B:wm (k+1)=((k:Nat):Int):=j6;have Q:wp i=((i+1:Nat):Int):=j6;have G:=P.r a ω;have d:=P.r (k+1) ω;refine TP F h c A S1 3 [0,(k+1),0,101,0,a,0,101] 6990506 [13] ((135,ptr (u a))::(131,ptr (u (k+1)))::(127,av)::(126,.bool (decide ((↑i:Int)<=(↑(k+1):Int))))::(13,i6 (↑(k+1):Int))::(12,i6 i)::kB g n cap a) 92 16 [14,13,13,14,13,13] [9] [(decide ((↑i:Int)<=(↑(k+1):Int)),true)] [((↑a:Int),n),((↑(k+1):Int),n)] [(1,(a,n)),(1,((k+1),n))] λa2 w2 Y q tM yP Rw=>?_;rw[b]at Y;refine ah F c q Y 136 190 #[ptr (u (k+1)),ptr (u a)] λb b=>kM F h (p:=u (k+1)) (q:=u a) Y.sat d.cons G.cons ω λz w3 w G d=>b _ _ _ G λa3 B3 l o YF=>?_;replace l:=l.dB ((136,i6 z)::(126,.bool true)::((13,i6 ((k+1:Nat):Int))::(12,i6 i)::kB g n cap a)) rfl;by_cases hz:z<0
   .have b:(!decide (z<0))=false:=by simpa using hz
    refine TP F h c o l 16 [] 271 [] ((138,.bool !decide (z<0))::(137,.bool (decide (z<0)))::(136,i6 z)::(13,i6 (↑(k+1):Int))::(12,i6 i)::kB g n cap a) 109 64 [14,13,13,14,13,13] [] [(decide ((↑i:Int)>(↑(k+1):Int)),false),(!decide (z<0),false)] [] [] λa4 Z r f t v R=>OG F h c f r 13 [0,(k+1),0,101,0,i,0,101] 106 [(157,.pointer (some (Addr.add g (i*1)))),(152,ptr (u (k+1)))] ((156,ptr (u i))::(148,i6 (↑(k+1):Int))::(147,.slice (some g) n cap)::(138,.bool !decide (z<0))::(137,.bool (decide (z<0)))::(136,i6 z)::(13,i6 (↑(k+1):Int))::(12,i6 i)::kB g n cap a) [] [] [((↑i:Int),n),((↑i:Int),n),((↑(k+1):Int),n)] [(1,(i,n)),(1,((k+1),n))] [(1,(i,n))] [0,i,0,101] (λM=>bh 0 (i,0) (ptr (u (k+1))) (M)) λJ d S b G=>?_;replace S:St D B3 178 _ (tR g (upd u i (u (k+1))) n::C) 0 J d:=⟨S.env,gp S.sat,S.sz⟩;refine aX (λM=>bh 0 ((k+1),0) (ptr (u i)) (M)) 0 F h c b S 16 [0,(k+1),0,101] 6 [] ((13,i6 (wm (k+1)))::(12,i6 (wp i))::kB g n cap a) 126 64 [14,13,13,14,13,13,14] [] [] [((↑(k+1):Int),n)] [(1,((k+1),n))] λG d s b J J J=>?_;rw[B,Q]at s;replace s:St D B3 178 ((13,i6 k)::(12,i6 ((i+1:Nat):Int))::kB g n cap a) (tR g (upd (upd u i (u (k+1))) (k+1) (u i)) n::C) 0 G d:=⟨s.env,gp s.sat,s.sz⟩;exact L (i+1) k _ G d B3 ω ω ω ω ω b ω ω s (P.swap ω ω ω ω) (hI.sw N y (hG y) (w.1 hz))
   .refine TP F h c o l 14 [] 111 [] ((13,i6 (wm (k+1)))::(12,i6 i)::kB g n cap a) 107 48 [14,13,13,14,13,13] [] [(!decide (z<0),true)] [] [] λa4 Z r f t v R=>?_;rw[B]at r;match m,hm with
    |0,hm=>omega
    |m+1,hm=>exact Vi F h c E hn9 Fj hq yQ N hib K L m k u a4 Z B3 ω ω ω ω f ω ω r P ⟨hI.1,λx b q2=>(by
     by_cases e:x=k+1
     .subst e;have:=mt w.2 hz;omega
     .exact hI.2 x ω q2)⟩ λz=>hG ω
  .refine TP F h c A S1 20 [] 424673280 [13] [(13,i6 j),(0,.slice (some g) n cap),(1,i6 a)] 109 96 [14,13,13,14,13,13] [1,10] [(decide ((↑i:Int)>(↑j:Int)),true),(decide ((↑i:Int)<=(↑j:Int)),false)] [] [] λa2 w2 Y q tM yP Rw=>OG F h c q Y 13 [0,a,0,101,0,j,0,101] 106 [(175,.pointer (some (Addr.add g (j*1)))),(170,ptr (u a))] [(174,ptr (u j)),(166,i6 a),(165,.slice (some g) n cap),(13,i6 j)] [] [] [((↑j:Int),n),((↑j:Int),n),((↑a:Int),n)] [(1,(j,n)),(1,(a,n))] [(1,(j,n))] [0,j,0,101] (λM=>bh 0 (j,0) (ptr (u a)) (M)) λa3 w3 l o YF=>?_;replace l:St D I 178 _ (tR g (upd u j (u a)) n::C) 0 a3 w3:=⟨l.env,gp l.sat,l.sz⟩;refine aX (λM=>bh 0 (a,0) (ptr (u j)) (M)) 0 F h c o l 9 [0,a,0,101] 6 [] [(11,.bool false),(10,i6 j)] 119 96 [14,13,13,14,13,13,14] [] [] [((↑a:Int),n)] [(1,(a,n))] λa4 Z r f t v R=>cC F r c E f [] (.tuple #[i6 j,.bool false]) ?_;exact K j false _ Z H hjb ω (gp r.sat) (P.swap ω ω ω ω) (hI.fin H ω)
def U3(F:aB prog T (DX D) O)(p:HB B D){U:aC}(c:U.kind=.normal)(h:U.fn=202){W:aC}{V:cO}{C:aW}{g:Addr}{n cap a b:Nat}(e:n<1000000)(f:b<=n)(s:Q.a=a/\Q.b=b){X:aj}(k:B<=X.heap.size)(K:∀(i:Nat)(x:Bool) u d,a<=i->i<b->X.heap.size<=d.heap.size->Sat D d (tR g u n::C)->fS Q C u n->zG Q.κ a b i u->O (G (W.finish (.tuple #[i6 i,.bool x])) V) d):
 ∀(m i j:Nat)(u:bU)(q:Act)(d:aj)(I:Nat),j<=m->a<i->i<=b->a<=j->j<b->q.defers=[]->X.heap.size<=I->d.heap.size=I->St D I 178 ((13,i6 j)::(12,i6 i)::kB g n cap a) (tR g u n::C) 0 q d->fS Q C u n->D1 Q.κ a b i j u->O (G (U.at q (pc prog 202 73 [false,false,false] [14,13,13,14])) (W::V)) d
 |m,i,j,u,q,d,I,t,z,v,o,l,y,B,x,M,R,S=>by
  refine Rb F p c y M 4 [] 1 [] ((13,i6 j)::(12,i6 i)::kB g n cap a) 77 8 [14,13,13,14] λa2 C S2 d a a a=>Vj F p c h e f s k o l (λa M a' G B' h1 Q g B a S' n y x=>?_) b i u a2 C _ ω z v d ω ω S2 R S;refine Vi F p c h e f s k (J:=j) h1 Q K (λP N L a3 J B3 b h3 h4 Z Y w H r S3 A E=>?_) j j M a' G B' (az _) (az _) o l g B a S' n y x;match m,t with
  |0,t=>omega
  |m+1,t=>exact U3 F p c h e f s k K m P N L a3 J B3 ω h3 h4 Z Y w H r S3 A E
def UX(F:aB prog T (DX D) O)(k:HB B D)(e:n<1000000)(c:a<b)(c:a<=p)(c:p<b)(h:b<=n)(t:Q.a=a/\Q.b=b)(c:Sat D w (tR g u n::C))(y:fS Q C u n)(j:B<=w.heap.size)(K:∀(i:Nat)(x:Bool) m l,a<=i->i<b->w.heap.size<=l.heap.size->Sat D l (tR g m n::C)->fS Q C m n->zG Q.κ a b i m->O (G (W.finish (.tuple #[i6 i,.bool x])) V) l):O (G (Frame.enter prog 202 #[.slice (some g) n cap,i6 a,i6 b,i6 p,av] .normal) (W::V)) w:=by
 have z:wp a=((a+1:Nat):Int):=j6;have w:wm b=((b-1:Nat):Int):=j6;refine cJ func202 c 178 λU c I c c i f r o=>Rb F k c f r 6 [] 1 [] [(0,.slice (some g) n cap),(1,i6 a),(2,i6 b),(3,i6 p),(4,av)] 6 1 [] λf f r f o o o=>OG F k c f r 13 [0,p,0,101,0,a,0,101] 106 [(26,.pointer (some (Addr.add g (a*1)))),(21,ptr (u p))] [(25,ptr (u a)),(17,i6 p),(16,.slice (some g) n cap),(0,.slice (some g) n cap),(1,i6 a),(2,i6 b),(4,av)] [] [] [((↑a:Int),n),((↑a:Int),n),((↑p:Int),n)] [(1,(a,n)),(1,(p,n))] [(1,(a,n))] [0,a,0,101] (λM=>bh 0 (a,0) (ptr (u p)) (M)) λs o q f r=>?_;replace q:St D I 178 _ (tR g (upd u a (u p)) n::C) 0 s o:=⟨q.env,gp q.sat,q.sz⟩;refine aX (λM=>bh 0 (p,0) (ptr (u a)) (M)) 0 F k c f q 15 [0,p,0,101] 6 [] ((13,i6 (wm b))::(12,i6 (wp a))::kB g n cap a) 22 1 [14] [] [] [((↑p:Int),n)] [(1,(p,n))] λs r d f o v v=>?_;rw[z,w]at d;replace d:St D I 178 ((13,i6 ((b-1:Nat):Int))::(12,i6 ((a+1:Nat):Int))::kB g n cap a) (tR g (upd (upd u a (u p)) p (u a)) n::C) 0 s r:=⟨d.env,gp d.sat,d.sz⟩;have g:=y.swap (i:=a) (j:=p) ω ω ω ω;refine Vq F k c i e h t j (j:=b-1) ω ω (λn m J l N B A p y n L u w v=>?_) b (a+1) _ s r _ ω ω ω f ω ω d g ⟨λx z a=>ω,λx z a=>ω⟩;exact Vk F k c i e h t j (J:=b-1) B A K (λB A z s r M a H G E C f x o d g a=>U3 F k c i e h t j K b B A z s r M ω H G E C f x o d g a) (b-1) (b-1) m J l N (az _) (az _) ω ω p y n L u w v
end
section
variable{Q:RQ}
def MJ(F:aB prog T (DX D) O)(l:HB B D){U:aC}(a:U.kind=.normal)(h:U.fn=199){W:aC}{V:cO}{C:aW}{g:Addr}{n cap:Nat}(t:n<1000000){X:aj}(y:B<=X.heap.size)(K:∀u b,X.heap.size<=b.heap.size->Sat D b (tR g u n::C)->fS Q C u n->O (G (W.finish (.tuple #[])) V) b):
 ∀(m i:Nat)(j:Int)(u:bU)(p:Act)(b:aj)(I:Nat),j<=i+m->j<Q.b->-1000000<j->Q.a<=i->p.defers=[]->X.heap.size<=I->b.heap.size=I->St D I 34 [(9,i6 j),(8,i6 i),(0,.slice (some g) n cap)] (tR g u n::C) 0 p b->fS Q C u n->O (G (U.at p (pc prog 199 13 [] [])) (W::V)) b
 |m,i,j,u,p,b,I,v,N,G,hi,f,L,B,J,x=>by
  have b:=x.bn;by_cases b:(i:Int)<j
  .have e:decide ((i:Int)<j)=true:=by simpa using b
   obtain⟨k,rfl⟩:∃k:Nat,j=k:=⟨j.toNat,ω⟩;have L:IntKind.wrap .i64 ((i:Int)+1)=((i+1:Nat):Int):=j6;have G:IntKind.wrap .i64 ((k:Int)-1)=((k:Int)-1):=aA ω ω;refine TP F l a f J 11 [] 6 [] [(9,i6 k),(8,i6 i),(0,.slice (some g) n cap)] 24 3 [] [] [(decide ((↑i:Int)<(↑k:Int)),true)] [] [] λP E q c r s z=>OG F l a c q 13 [0,k,0,101,0,i,0,101] 106 [(28,.pointer (some (Addr.add g (i*1)))),(23,ptr (u k))] [(27,ptr (u i)),(19,i6 k),(18,.slice (some g) n cap),(9,i6 k),(8,i6 i),(0,.slice (some g) n cap)] [] [] [((↑i:Int),n),((↑i:Int),n),((↑k:Int),n)] [(1,(i,n)),(1,(k,n))] [(1,(i,n))] [0,i,0,101] (λM=>bh 0 (i,0) (ptr (u k)) (M)) λN e o b B=>?_;replace o:St D I 34 _ (tR g (upd u i (u k)) n::C) 0 N e:=⟨o.env,gp o.sat,o.sz⟩;refine aX (λM=>bh 0 (k,0) (ptr (u i)) (M)) 0 F l a b o 16 [0,k,0,101] 6 [] [(9,i6 (IntKind.wrap .i64 ((↑k:Int)-1))),(8,i6 (IntKind.wrap .i64 ((↑i:Int)+1))),(0,.slice (some g) n cap)] 41 3 [14] [] [] [((↑k:Int),n)] [(1,(k,n))] λH A d w b b b=>?_;rw[L,G]at d;replace d:St D I 34 [(9,i6 ((k:Int)-1)),(8,i6 ((i+1:Nat):Int)),(0,.slice (some g) n cap)] (tR g (upd (upd u i (u k)) k (u i)) n::C) 0 H A:=⟨d.env,gp d.sat,d.sz⟩
   match m,v with
   |0,v=>omega
   |m+1,v=>exact MJ F l a h t y K m (i+1) _ _ H A I ω ω ω ω w ω ω d (x.swap ω ω ω ω)
  .refine TP F l a f J 9 [] 4 [] [] 22 2 [] [] [(decide ((↑i:Int)<j),false)] [] [] λP E q c r s z=>cC F q a h c [] (.tuple #[]) ?_;exact K u E ω q.sat x
def aae(F:aB prog T (DX D) O)(i:HB B D)(d:n<1000000)(c:a<=b)(c:b<=n)(c:Q.a=a/\Q.b=b)(f:Sat D w (tR g u n::C))(l:fS Q C u n)(h:B<=w.heap.size)(K:∀e c,w.heap.size<=c.heap.size->Sat D c (tR g e n::C)->fS Q C e n->O (G (W.finish (.tuple #[])) V) c):O (G (Frame.enter prog 199 #[.slice (some g) n cap,i6 a,i6 b,av] .normal) (W::V)) w:=by
 have m:IntKind.wrap .i64 ((b:Int)-1)=((b:Int)-1):=aA ω ω;refine cJ func199 f 34 λU c I c c f e o k=>Rb F i c e o 13 [] 1 [] [(9,i6 (IntKind.wrap .i64 ((↑b:Int)-1))),(8,i6 a),(0,.slice (some g) n cap)] 13 1 [] λk e j b g g g=>?_;rw[m]at j;exact MJ F i c f d h K n a _ u k e _ ω ω ω ω b ω ω j l
def IA(F:aB prog T (DX D) O)(f:HB B D){U:aC}(b:U.kind=.normal)(p:U.fn=196){W:aC}{V:cO}{C:aW}{g:Addr}{n cap a h:Nat}(o:n<1000000)(A:a+h<=n)(Z:Q.a=a/\Q.b=a+h){X:aj}(J:B<=X.heap.size)(K:∀u c,X.heap.size<=c.heap.size->Sat D c (tR g u n::C)->fS Q C u n->gw Q.κ a (a+h) u->O (G (W.finish (.tuple #[])) V) c):
 ∀(m:Nat)(u:bU)(q:Act)(c:aj)(I:Nat),m<=h->q.defers=[]->X.heap.size<=I->c.heap.size=I->St D I 60 ((12,i6 ((m:Int)-1))::(9,i6 0)::(8,i6 a)::kD g n cap) (tR g u n::C) 0 q c->fS Q C u n->En Q.κ a 0 m u->RR Q.κ a h m u->O (G (U.at q (pc prog 196 42 [false] [])) (W::V)) c
 |0,u,q,c,I,hm,e,L,w,s,E,S,H=>by
  refine Rb F f b e s 8 [] 5 [] [] 50 4 [] λa2 R r d t z N=>cC F r b p d [] (.tuple #[]) ?_;exact K u R ω r.sat E H.2
 |m+1,u,q,c,I,hm,e,L,w,s,E,S,H=>by
  rw[show(((m+1:Nat):Int)-1)=(m:Int) by omega]at s;have B:IntKind.wrap .i64 ((a:Int)+m)=((a+m:Nat):Int):=j6;have w:IntKind.wrap .i64 ((m:Int)-1)=((m:Int)-1):=aA ω ω;refine Rb F f b e s 11 [] 7 [] ((12,i6 m)::(9,i6 0)::(8,i6 a)::kD g n cap) 53 6 [] λa2 R r d t z N=>OG F f b d r 17 [0,Int.toNat (IntKind.wrap .i64 ((↑a:Int)+(↑m:Int))),0,101,0,a,0,101] 106 [(52,.pointer (some (Addr.add g (a*1)))),(47,ptr (u (Int.toNat (IntKind.wrap .i64 ((↑a:Int)+(↑m:Int))))))] ((51,ptr (u a))::(41,i6 (IntKind.wrap .i64 ((↑a:Int)+(↑m:Int))))::(38,.slice (some g) n cap)::(12,i6 m)::(9,i6 0)::(8,i6 a)::kD g n cap) [] [] [((↑a:Int),n),((↑a:Int),n),(IntKind.wrap .i64 ((↑a:Int)+(↑m:Int)),n)] [(1,(a,n)),(1,(Int.toNat (IntKind.wrap .i64 ((↑a:Int)+(↑m:Int))),n))] [(1,(a,n))] [0,a,0,101] (λM=>bh 0 (a,0) (ptr (u (Int.toNat (IntKind.wrap .i64 ((↑a:Int)+(↑m:Int)))))) (M)) λr d l c e=>?_;rw[B]at l;replace l:St D I 60 _ (tR g (upd u a (u (a+m))) n::C) 0 r d:=⟨l.env,gp l.sat,l.sz⟩;refine aX (λM=>bh 0 ((a+m),0) (ptr (u a)) (M)) 0 F f b c l 9 [0,(a+m),0,101] 6 [] ((58,av)::(57,i6 a)::(56,i6 m)::(55,i6 0)::(54,.slice (some g) n cap)::(12,i6 m)::(9,i6 0)::(8,i6 a)::kD g n cap) 63 6 [18] [] [] [((↑(a+m):Int),n)] [(1,((a+m),n))] λr c k d e e e=>?_;replace k:St D I 60 _ (tR g (upd (upd u a (u (a+m))) (a+m) (u a)) n::C) 0 r c:=⟨k.env,gp k.sat,k.sz⟩;have c:=E.swap (i:=a) (j:=a+m) ω ω ω ω;let⟨r,e⟩:=H.dn S ω;have u:=c.sub (p:=RR Q.κ a h m) (a:=a) (b:=a+m) ω ω r (λv i j j i h t r=>r.sw j i h t) (λx y j i h=>c.lo x y ω ω ω);refine ah F b d k 59 205 #[.slice (some g) n cap,i6 0,i6 m,i6 a,av] λd d=>G9 F f (lo:=0) (hi:=m) (fi:=a) (n:=n) (cap:=cap) o ω ω ⟨az _,az _⟩ k.sat u e ω λr e e h e i=>d _ _ _ h λd t P d h=>?_;let⟨h,j⟩:=c.sup e;replace P:=P.dB ((12,i6 m)::(9,i6 0)::(8,i6 a)::kD g n cap) rfl;refine Rb F f b d P 8 [] 1 [] ((12,i6 (IntKind.wrap .i64 ((↑m:Int)-1)))::(9,i6 0)::(8,i6 a)::kD g n cap) 72 6 [18] λe c Y a d d d=>?_;rw[w]at Y;exact IA F f b p o A Z J K m r e c t ω a ω ω Y h i j
def IF(F:aB prog T (DX D) O)(i:HB B D){U:aC}(b:U.kind=.normal)(j:U.fn=196){W:aC}{V:cO}{C:aW}{g:Addr}{n cap a h:Nat}(d:n<1000000)(k:a+h<=n)(L:Q.a=a/\Q.b=a+h){X:aj}(l:B<=X.heap.size)(K:∀u c,X.heap.size<=c.heap.size->Sat D c (tR g u n::C)->fS Q C u n->gw Q.κ a (a+h) u->O (G (W.finish (.tuple #[])) V) c):
 ∀(m:Nat)(u:bU)(o:Act)(c:aj)(I:Nat),m<=h+1->o.defers=[]->X.heap.size<=I->c.heap.size=I->St D I 60 ((11,i6 ((m:Int)-1))::(10,i6 h)::(9,i6 0)::(8,i6 a)::kD g n cap) (tR g u n::C) 0 o c->fS Q C u n->En Q.κ a m h u->O (G (U.at o (pc prog 196 26 [] [])) (W::V)) c
 |0,u,o,c,I,P,f,z,s,q,v,w=>by
  have E:IntKind.wrap .i64 ((h:Int)-1)=((h:Int)-1):=aA ω ω;refine Rb F i b f q 16 [] 5 [] ((12,i6 (IntKind.wrap .i64 ((↑h:Int)-1)))::(9,i6 0)::(8,i6 a)::kD g n cap) 42 2 [] λM J p e r t A=>?_;rw[E]at p;exact IA F i b j d k L l K h u M J _ (az _) e ω ω p v w ⟨λx y x x x x=>ω,.one ω⟩
 |m+1,u,o,c,I,P,f,z,s,q,v,w=>by
  rw[show(((m+1:Nat):Int)-1)=(m:Int) by omega]at q;have E:IntKind.wrap .i64 ((m:Int)-1)=((m:Int)-1):=aA ω ω;refine Rb F i b f q 16 [] 7 [] ((28,av)::(27,i6 a)::(26,i6 h)::(25,i6 m)::(24,.slice (some g) n cap)::(11,i6 m)::(10,i6 h)::(9,i6 0)::(8,i6 a)::kD g n cap) 42 3 [] λM J p e r t A=>ah F b e p 29 205 #[.slice (some g) n cap,i6 m,i6 h,i6 a,av] λc c=>G9 F i (lo:=m) (hi:=h) (fi:=a) (n:=n) (cap:=cap) d ω ω ω p.sat v w ω λr e e s e f=>c _ _ _ s λc t H c s=>?_;replace H:=H.dB ((11,i6 m)::(10,i6 h)::(9,i6 0)::(8,i6 a)::kD g n cap) rfl;refine Rb F i b c H 8 [] 1 [] ((11,i6 (IntKind.wrap .i64 ((↑m:Int)-1)))::(10,i6 h)::(9,i6 0)::(8,i6 a)::kD g n cap) 51 3 [] λh c N a g g g=>?_;rw[E]at N;exact IF F i b j d k L l K m r h c t ω a ω ω N e f
def Qy(F:aB prog T (DX D) O)(k:HB B D)(f:n<1000000)(d:a<=b)(i:b<=n)(p:Q.a=a/\Q.b=b)(o:Sat D w (tR g u n::C))(s:fS Q C u n)(j:B<=w.heap.size)(K:∀e d,w.heap.size<=d.heap.size->Sat D d (tR g e n::C)->fS Q C e n->gw Q.κ a b e->O (G (W.finish (.tuple #[])) V) d):O (G (Frame.enter prog 196 #[.slice (some g) n cap,i6 a,i6 b,av] .normal) (W::V)) w:=by
 obtain⟨h,rfl⟩:∃h,b=a+h:=⟨b-a,ω⟩;have v:IntKind.wrap .i64 (((a+h:Nat):Int)-a)=(h:Int):=j6;obtain⟨m,q,t⟩:∃m:Nat,(m<=h+1/\h<=2*m)/\IntKind.wrap .i64 (Int.tdiv (IntKind.wrap .i64 ((h:Int)-1)) 2)=(m:Int)-1:=by
  have b:IntKind.wrap .i64 ((h:Int)-1)=(h:Int)-1:=aA ω ω;rw[b];cases h with
  |zero=>exact⟨1,ω,δ⟩
  |succ h=>
   have b:Int.tdiv (((h+1:Nat):Int)-1) 2=(h:Int) / 2:=by rw[show(((h+1:Nat):Int)-1)=(h:Int) by omega,Int.tdiv_eq_ediv_of_nonneg ω]
   refine⟨h / 2+1,ω,?_⟩;rw[b,aA ω ω];omega
 refine cJ func196 o 60 λU b I b b e d w o=>Rb F k b d w 26 [] 1 [] ((11,i6 (IntKind.wrap .i64 (Int.tdiv (IntKind.wrap .i64 (IntKind.wrap .i64 ((↑(a+h):Int)-(↑a:Int))-1)) 2)))::(10,i6 (IntKind.wrap .i64 ((↑(a+h):Int)-(↑a:Int))))::(9,i6 0)::(8,i6 a)::kD g n cap) 26 1 [] λh d l a g g g=>?_;rw[v,t]at l;exact IF F k b e f i p j K m u h d _ q.1 a ω ω l s λr c a a a=>ω
end
def x7(t:eC):ByteArray:=match (aQ t).op with
 |.index _ (.const (.string s)) _=>s
 |_=>ByteArray.empty
def PO(t:eC)(s d:Nat):Bool:=(aQ t).guard.isNone&&(match (aQ t).dst with|some d'=>d'==d|none=>false)&&(match (aQ t).op with
 |.index t' (.const (.string _)) (.tmp a)=>t'==9&&a==s
 |_=>false)
def Mh{s d:Nat}(h:PO t s d=true):(aQ t).guard=none/\(aQ t).dst=some d/\(aQ t).op=.index 9 (.const (.string (x7 t))) (.tmp s):=by
 unfold PO at h;simp only[bZ]at h;let⟨⟨g,c⟩,b⟩:=h;refine⟨by simpa using g,?_,?_⟩
 .split at c
  .rename_i m f;rw[f];simp at c;rw[c]
  .cases c
 .unfold x7;split at b
  .rename_i k l a e;simp only[bZ,beq_iff_eq]at b;let⟨j,i⟩:=b;subst j;subst i;rw[e]
  .cases b
def CM(s:ByteArray)(i:Nat)(b:UInt8)(a:s[i]? =some b)(w:aj):(Instr.index 9 (.string s) (.int .u8 i)).run prog w=.ok (.int .u8 b.toNat) w/\(Instr.index 9 (.string s) (.int .u8 i)).events prog w #[]=#[]:=by
 unfold Instr.index;constructor
 .simp[go_sem,a]
 .simp[go_sem,a]
def VG(F:aB prog T (DX D) O){b:aC}(n:b.kind=.normal){a:Act}(s d:Nat){y:UInt8}(k:kI t=true)(e:PO t s d=true)(o:d<N)(j:look E s=some (.int .u8 i))(h:(x7 t)[i]? =some y)(S:St D B N E M c a w)(K:∀g,St D B N ((d,.int .u8 y.toNat)::E) M c g w->g.defers=a.defers->O (G (b.at g (jB t)) V) w):O (G (b.at a t) V) w:=by
 let⟨_,_,r,b,l,f,m⟩:=dH k;let⟨q,p,k⟩:=Mh e;have e:a.eval (.tmp s)=.int .u8 i:=by rw[S.env.eval (by simp[kn,j])];simp[ev,j]
 have b:∀d,(execOp a.eval (aQ t)).run prog (w.at d)=.ok (.value (.int .u8 y.toNat)) (w.at d):=λd=>by
  unfold execOp;rw[k];simp only[e];have:=(CM _ i y h (w.at d)).1;simp[Act.eval,this]
 have c:∀d,(execOp a.eval (aQ t)).events prog (w.at d) #[]=#[]:=λd=>by
  unfold execOp;rw[k];simp only[e];have a:=CM _ i y h (w.at d);simp[Act.eval,a]
 rw[l];refine F.oq f (by simp[Region.wanted,q]) (by simp[late,n]) c (λc a a=>?_);rw[b c];refine a _ ?_;rw[<-m,p];exact K _ ⟨S.env.put o,S.sat,S.sz⟩ (put_defers _ _ _)
def MB(h:n<256):IntKind.wrap .u8 (n:Int)=n:=by
 simp[IntKind.wrap,IntKind.bits,IntKind.signed];omega
def XI(n:Nat):Int.fdiv (n:Int) (2^min (Int.toNat 8) (IntKind.bits .u64))=((n / 256:Nat):Int):=by
 rw[show(2:Int)^min (Int.toNat 8) (IntKind.bits .u64)=((256:Nat):Int)from rfl,<-Int.ofNat_fdiv]
def J9(s:ByteArray)(i:Nat):Bool:=match s[i]? with
 |some b=>decide (b.toNat<=8)&&(i==0||decide (2^b.toNat<=2*i))
 |none=>false
def GX{s:ByteArray}(a:(List.range 256).all (J9 s)=true)(hi:i<256):∃b,s[i]? =some b/\b.toNat<=8/\(0<i->2^b.toNat<=2*i):=by
 have h:=eZ.1 a i (aZ.2 hi);unfold J9 at h;split at h
 .rename_i b c;simp only[bZ,Ar,decide_eq_true_eq,beq_iff_eq]at h;exact⟨b,c,h.1,λz=>by rcases h.2 with y|y;omega;exact y⟩
 .cases h
def Qr:(List.range 256).all (J9 (x7 (pc prog 204 33 [false,false,false] [])))=true:=ρ
def Ya:(List.range 256).all (J9 (x7 (pc prog 204 43 [false,false,true] [])))=true:=ρ
def Vt(F:aB prog T (DX D) O)(j:HB B D)(a:l<65536)(A:Sat D w M)(a:B<=w.heap.size)(K:∀k a,k<=16->(0<l->2^k<=2*l)->Sat D a M->w.heap.size<=a.heap.size->O (G (W.finish (i6 (k:Nat))) V) a):O (G (Frame.enter prog 204 #[.int .u64 l] .normal) (W::V)) w:=by
 by_cases b:l<256
 .have a:decide ((l:Int)≥256)=false:=θ
  let⟨y,m,C,k⟩:=GX Qr b;refine cJ func204 A 25 λU L I G a g f z q=>TP F j a f z 33 [] 64 [] [(21,.int .u8 (IntKind.wrap .u8 (↑l:Int))),(19,i6 0)] 33 8 [] [] [(decide ((↑l:Int)≥256),false),(decide ((↑l:Int)≥65536),false),(decide ((↑l:Int)≥4294967296),false)] [] [] λJ E i e p s u=>?_;have v:IntKind.wrap .u8 (l:Int)=(l:Int):=MB b;rw[v]at i;refine VG F a 21 22 (y:=y) ρ ρ δ rfl m i λw x b=>?_;have d:w.defers=[]:=b.trans e;rw[show jB (pc prog 204 33 (Bo 8) [])=pc prog 204 34 [false,false,false] [] by kernel_rfl];refine Rb F j a d x 4 [] 1 [] [(2,i6 (IntKind.wrap .i64 (0+IntKind.wrap .i64 (↑(UInt8.toNat y):Int))))] 38 8 [] λH n h c o r t=>?_;rw[show IntKind.wrap .i64 (0+IntKind.wrap .i64 (y.toNat:Int))=((y.toNat:Nat):Int) by rw[aA (by rw[aA ω ω];omega) (by rw[aA ω ω];omega),aA ω ω];omega]at h;refine cC F h a g c [] (i6 (↑(UInt8.toNat y):Int)) ?_;exact K y.toNat n ω k h.sat ω
 .have B:l / 256<256:=ω
  let⟨y,m,C,k⟩:=GX Ya B;refine cJ func204 A 25 λU L I G a g f z q=>TP F j a f z 43 [] 96 [] [(21,.int .u8 (IntKind.wrap .u8 (Int.fdiv (↑l:Int) (2^min (Int.toNat 8) (IntKind.bits .u64))))),(19,i6 8)] 43 12 [] [] [(decide ((↑l:Int)≥256),true),(decide ((↑l:Int)≥65536),false),(decide ((↑l:Int)≥4294967296),false)] [] [] λJ E i e p s u=>?_;have v:IntKind.wrap .u8 (Int.fdiv (l:Int) (2^min (Int.toNat 8) (IntKind.bits .u64)))=((l / 256:Nat):Int):=by
   rw[show Int.fdiv (l:Int) (2^min (Int.toNat 8) (IntKind.bits .u64))=((l / 256:Nat):Int)from XI l];exact MB B
  rw[v]at i;refine VG F a 21 22 (y:=y) ρ ρ δ rfl m i λw x b=>?_;have d:w.defers=[]:=b.trans e;rw[show jB (pc prog 204 43 (Bo 12) [])=pc prog 204 44 [false,false,true] [] by kernel_rfl];refine Rb F j a d x 4 [] 1 [] [(2,i6 (IntKind.wrap .i64 (8+IntKind.wrap .i64 (↑(UInt8.toNat y):Int))))] 48 12 [] λH n h c o r t=>?_;rw[show IntKind.wrap .i64 (8+IntKind.wrap .i64 (y.toNat:Int))=((8+y.toNat:Nat):Int) by rw[aA (by rw[aA ω ω];omega) (by rw[aA ω ω];omega),aA ω ω];omega]at h;refine cC F h a g c [] (i6 (↑(8+UInt8.toNat y):Int)) ?_;refine K (8+y.toNat) n ω (λ_=>?_) h.sat ω;have a:=k ω;rw[Nat.pow_add];omega
def Is(F:aB prog T (DX D) O)(d:HB B D)(g:l<65536)(b:Sat D w M)(a:B<=w.heap.size)(K:∀k a,k<=16->(0<l->2^k<=2*l)->Sat D a M->w.heap.size<=a.heap.size->O (G (W.finish (i6 (k:Nat))) V) a):O (G (Frame.enter prog 193 #[.int .u64 l] .normal) (W::V)) w:=by
 refine cJ func193 b 8 λU a I a a c b f e=>Rb F d a b f 10 [] 5 [] [(6,.int .u64 (↑l:Int))] 10 2 [] λb b e b f f f=>ah F a b e 7 204 #[.int .u64 (↑l:Int)] λb b=>Vt F d g e.sat ω λk e g f e h=>b _ _ _ e λb b h b e=>UF F d a c b h 2 [] 1 [] 2 (i6 k) 13 2 [] λa c b b=>K k a g f c.sat ω
def wrap64(h:n<1000000):IntKind.wrap .u64 (n:Int)=n:=by
 simp[IntKind.wrap,IntKind.bits,IntKind.signed];omega
def Us(F:aB prog T (DX D) O)(d:HB B D)(h:l<65536)(b:Sat D w M)(a:B<=w.heap.size)(K:∀k a,k<=16->(0<l->2^k<=2*l)->Sat D a M->w.heap.size<=a.heap.size->O (G (W.finish (.int .u64 ((2^k:Nat):Int))) V) a):O (G (Frame.enter prog 206 #[i6 l] .normal) (W::V)) w:=by
 refine cJ func206 b 7 λU a I a a c b i g=>Rb F d a b i 8 [] 1 [] [(4,.int .u64 (IntKind.wrap .u64 (↑l:Int)))] 8 1 [] λb b f b g g g=>?_;rw[wrap64 ω]at f;refine ah F a b f 5 193 #[.int .u64 (↑l:Int)] λb b=>Is F d h f.sat ω λk g g i h j=>b _ _ _ h λb b j b h=>Rb F d a b j 3 [] 1 [] [(2,.int .u64 (IntKind.wrap .u64 (1*2^min (Int.toNat (↑k:Int)) (IntKind.bits .u64))))] 12 1 [] λb d e b h h h=>?_;have h:2^k<=65536:=Nat.pow_le_pow_right (n:=2) δ g;have h:IntKind.wrap .u64 (1*2^min (Int.toNat (k:Int)) (IntKind.bits .u64))=((2^k:Nat):Int):=by
  rw[show min (Int.toNat (k:Int)) (IntKind.bits .u64)=k by simp[IntKind.bits];omega,Int.one_mul,show(2:Int)^k=((2^k:Nat):Int) by simp];exact wrap64 ω
 rw[h]at e;refine cC F e a c b [] (.int .u64 (↑(2^k):Int)) ?_;exact K k d g i e.sat ω
def Wj(F:aB prog T (DX D) O)(e:HB B D){x:Int}(q:Sat D w (bR r [.int .u64 x]::M))(i:B<=w.heap.size)(K:∀y i,Sat D i (bR r [.int .u64 y]::M)->w.heap.size<=i.heap.size->O (G (W.finish (.int .u64 y)) V) i):O (G (Frame.enter prog 207 #[ptr r] .normal) (W::V)) w:=by
 refine cJ func207 q 33 λU i I i a m i v q=>aq (λM=>bh 0 (0,0) (.int .u64 (IntKind.wrap .u64 (↑(BitVec.toNat (BitVec.ofInt (IntKind.bits .u64) x^^^BitVec.ofInt (IntKind.bits .u64) (IntKind.wrap .u64 (x*2^min (Int.toNat 13) (IntKind.bits .u64))))):Int))) (M)) 0 F e a i v 10 [0,0,0,1,0,0,0,1,0,0,0,1] 1 [7] [(0,ptr r)] 10 1 [7] λu p d l i i i=>?_;generalize IntKind.wrap .u64 _=h at d;replace d:St D I 33 [(0,ptr r)] (bR r [.int .u64 h]::M) 0 u p:=⟨d.env,d.sat,d.sz⟩;refine aq (λM=>bh 0 (0,0) (.int .u64 (IntKind.wrap .u64 (↑(BitVec.toNat (BitVec.ofInt (IntKind.bits .u64) h^^^BitVec.ofInt (IntKind.bits .u64) (Int.fdiv h (2^min (Int.toNat 7) (IntKind.bits .u64))))):Int))) (M)) 0 F e a l d 7 [0,0,0,1,0,0,0,1,0,0,0,1] 1 [7] [(0,ptr r)] 17 1 [7,7] λt o c k h h h=>?_;generalize IntKind.wrap .u64 _=g at c;replace c:St D I 33 [(0,ptr r)] (bR r [.int .u64 g]::M) 0 t o:=⟨c.env,c.sat,c.sz⟩;refine aq (λM=>bh 0 (0,0) (.int .u64 (IntKind.wrap .u64 (↑(BitVec.toNat (BitVec.ofInt (IntKind.bits .u64) g^^^BitVec.ofInt (IntKind.bits .u64) (IntKind.wrap .u64 (g*2^min (Int.toNat 17) (IntKind.bits .u64))))):Int))) (M)) 0 F e a k c 7 [0,0,0,1,0,0,0,1,0,0,0,1] 1 [7] [(0,ptr r)] 24 1 [7,7,7] λs n b j g g g=>?_;generalize IntKind.wrap .u64 _=f at b;replace b:St D I 33 [(0,ptr r)] (bR r [.int .u64 f]::M) 0 s n:=⟨b.env,b.sat,b.sz⟩;refine UF F e a m j b 5 [0,0,0,1] 1 [] 2 (.int .u64 f) 29 1 [7,7,7] λa g e e=>K f a g.sat ω
def R4(x:Int)(a:0<m)(a:m<=131072):∃o:Nat,wI (IntKind.wrap .u64 (↑(BitVec.toNat (BitVec.ofInt (IntKind.bits .u64) x&&&BitVec.ofInt (IntKind.bits .u64) (IntKind.wrap .u64 ((m:Int)-1)))):Int))=(o:Nat)/\o<m:=by
 have a:IntKind.wrap .u64 ((m:Int)-1)=((m-1:Nat):Int):=by
  rw[show(m:Int)-1=((m-1:Nat):Int) by omega];exact wrap64 ω
 rw[a];have a:(BitVec.ofInt (IntKind.bits .u64) x&&&BitVec.ofInt (IntKind.bits .u64) ((m-1:Nat):Int)).toNat<=m-1:=by
  rw[BitVec.toNat_and,BitVec.ofInt_natCast,BitVec.toNat_ofNat];refine aT Nat.and_le_right (Nat.mod_le _ _)
 refine⟨_,?_,Nat.lt_of_le_of_lt a ω⟩;rw[wrap64 ω];exact j6 rfl ω
def Zz(F:aB prog T (DX D) O)(e:HB B D)(b:U.kind=.normal)(J:U.fn=197){Q:RQ}(s:n<65536)(s:a+l<=n)(s:Q.a=a/\Q.b=a+l)(s:8<=l)(H:0<m)(s:m<=2*l)(s:B<=X.heap.size)(K:∀B s,Sat D s (tR g B n::C)->fS Q C B n->X.heap.size<=s.heap.size->O (G (W.finish (.tuple #[])) V) s):
 ∀(d i:Nat)(x:Int)(u:bU)(v:Act)(w:aj)(I:Nat),i+d=a+l / 4*2+2->a+3<=i->v.defers=[]->w.heap.size=I->X.heap.size<=I->fS Q C u n->St D I 67 [(11,i6 (i:Nat)),(10,.int .u64 (m:Nat)),(9,ptr r),(8,i6 (l:Nat)),(0,.slice (some g) n cap),(1,i6 (a:Nat))] (tR g u n::bR r [.int .u64 x]::C) 0 v w->O (G (U.at v (pc prog 197 38 [true] [])) (W::V)) w:=by
 have q1:wI (Int.tdiv (l:Int) 4)=((l / 4:Nat):Int):=j6 (by rw[Int.ofNat_tdiv];rfl) ω;have q2:wI (((l / 4:Nat):Int)*2)=((l / 4*2:Nat):Int):=j6 ψ ω;have Z:wI ((a:Int)+((l / 4*2:Nat):Int))=((a+l / 4*2:Nat):Int):=j6;have Y:wI (((a+l / 4*2:Nat):Int)+1)=((a+l / 4*2+1:Nat):Int):=j6;intro d;induction d with
 |zero=>
  intro i x u v w I hi ha h y E L R;have e0:decide ((i:Int)<=wI (wI ((a:Int)+wI (wI (Int.tdiv (l:Int) 4)*2))+1))=false:=by rw[q1,q2,Z,Y];simp;omega
  refine TP F e b h R 14 [] 4 [] [] 52 5 [] [] [(decide ((↑i:Int)<=wI (wI ((↑a:Int)+wI (wI (Int.tdiv (↑l:Int) 4)*2))+1)),false)] [] [] λa1 S q c t A N=>cC F q b J c [] (.tuple #[]) ?_;exact K u S (Sat.BC (A:=[tR g u n]) q.sat) L ω
 |succ d ih=>
  intro i x u v w I hi ha h y E L R;have e0:decide ((i:Int)<=wI (wI ((a:Int)+wI (wI (Int.tdiv (l:Int) 4)*2))+1))=true:=by rw[q1,q2,Z,Y];simp;omega
  have B:wI ((i:Int)+1)=((i+1:Nat):Int):=j6;refine TP F e b h R 18 [] 6 [] [(11,i6 i),(10,.int .u64 (↑m:Int)),(9,ptr r),(8,i6 l),(0,.slice (some g) n cap),(1,i6 a)] 56 7 [] [] [(decide ((↑i:Int)<=wI (wI ((↑a:Int)+wI (wI (Int.tdiv (↑l:Int) 4)*2))+1)),true)] [] [] λa1 S q c t A N=>ah F b c q 38 207 #[ptr r] λc c=>Wj F (λa wr z=>e a wr z) (q.sat.perm (.swap ..)) ω λh d d q=>c _ _ _ (d.perm (.swap ..)) λc w q c d=>Rb F e b c q 6 [] 1 [] [(12,i6 (wI (IntKind.wrap .u64 (↑(BitVec.toNat (BitVec.ofInt (IntKind.bits .u64) h&&&BitVec.ofInt (IntKind.bits .u64) (IntKind.wrap .u64 ((↑m:Int)-1)))):Int)))),(11,i6 i),(10,.int .u64 (↑m:Int)),(9,ptr r),(8,i6 l),(0,.slice (some g) n cap),(1,i6 a)] 63 7 [] λc c P t c c c=>?_;let⟨o,d,c⟩:=R4 h H (by omega:m<=131072);rw[d]at P;have fin:∀(o:Nat)(f:Act)(d:aj),o<l->f.defers=[]->d.heap.size=w->St D w 67 [(12,i6 (o:Nat)),(11,i6 (i:Nat)),(10,.int .u64 (m:Nat)),(9,ptr r),(8,i6 (l:Nat)),(0,.slice (some g) n cap),(1,i6 (a:Nat))] (tR g u n::bR r [.int .u64 h]::C) 0 f d->O (G (U.at f (pc prog 197 72 [true,true,false] [])) (W::V)) d:=by
   intro o f d s c q p;have A:wI ((a:Int)+o)=((a+o:Nat):Int):=j6;refine OG F e b c p 17 [0,Int.toNat (wI ((↑a:Int)+(↑o:Int))),0,101,0,i,0,101] 106 [(65,.pointer (some (Addr.add g (i*1)))),(60,ptr (u (Int.toNat (wI ((↑a:Int)+(↑o:Int))))))] [(64,ptr (u i)),(54,i6 (wI ((↑a:Int)+(↑o:Int)))),(51,.slice (some g) n cap),(11,i6 i),(10,.int .u64 (↑m:Int)),(9,ptr r),(8,i6 l),(0,.slice (some g) n cap),(1,i6 a)] [] [] [((↑i:Int),n),((↑i:Int),n),(wI ((↑a:Int)+(↑o:Int)),n)] [(1,(i,n)),(1,(Int.toNat (wI ((↑a:Int)+(↑o:Int))),n))] [(1,(i,n))] [0,i,0,101] (λM=>bh 0 (i,0) (ptr (u (Int.toNat (wI ((↑a:Int)+(↑o:Int)))))) (M)) λE y k x z=>?_;rw[A]at k;replace k:St D w 67 _ (tR g (upd u i (u (a+o))) n::bR r [.int .u64 h]::C) 0 E y:=⟨k.env,gp k.sat,k.sz⟩;refine aX (λM=>bh 0 ((a+o),0) (ptr (u i)) (M)) 0 F e b x k 10 [0,(a+o),0,101] 6 [] [(11,i6 (wI ((↑i:Int)+1))),(10,.int .u64 (↑m:Int)),(9,ptr r),(8,i6 l),(0,.slice (some g) n cap),(1,i6 a)] 83 11 [18] [] [] [((↑(a+o):Int),n)] [(1,((a+o),n))] λz y j x A A A=>?_;rw[B]at j;replace j:St D w 67 [(11,i6 ((i+1:Nat):Int)),(10,.int .u64 (m:Nat)),(9,ptr r),(8,i6 (l:Nat)),(0,.slice (some g) n cap),(1,i6 (a:Nat))] (tR g (upd (upd u i (u (a+o))) (a+o) (u i)) n::bR r [.int .u64 h]::C) 0 z y:=⟨j.env,gp j.sat,j.sz⟩;exact ih (i+1) h _ z y w ω ω x ω ω (L.swap ω ω ω ω) j
  by_cases s:o<l
  .have h:decide ((o:Int)≥(l:Int))=false:=θ
   refine TP F e b t P 9 [] 4 [] [(12,i6 o),(11,i6 i),(10,.int .u64 (↑m:Int)),(9,ptr r),(8,i6 l),(0,.slice (some g) n cap),(1,i6 a)] 72 11 [] [] [(decide ((↑o:Int)≥(↑l:Int)),false)] [] [] λf d p c q h u=>fin o f d s c ω p
  .have s:wI ((o:Int)-l)=((o-l:Nat):Int):=j6;refine TP F e b t P 14 [] 6 [] [(12,i6 (wI ((↑o:Int)-(↑l:Int)))),(11,i6 i),(10,.int .u64 (↑m:Int)),(9,ptr r),(8,i6 l),(0,.slice (some g) n cap),(1,i6 a)] 77 15 [] [] [(decide ((↑o:Int)≥(↑l:Int)),true)] [] [] λf d p c q h u=>?_;rw[s]at p;exact fin (o-l) f d ω c ω p
def Zr(F:aB prog T (DX D) O)(i:HB B D){Q:RQ}(s:n<65536)(o:a<=b)(x:b<=n)(X:Q.a=a/\Q.b=b)(R:Sat D w (tR g u n::C))(P:fS Q C u n)(y:B<=w.heap.size)(K:∀B o,Sat D o (tR g B n::C)->fS Q C B n->w.heap.size<=o.heap.size->O (G (W.finish (.tuple #[])) V) o):O (G (Frame.enter prog 197 #[.slice (some g) n cap,i6 a,i6 b,av] .normal) (W::V)) w:=by
 obtain⟨l,Z⟩:∃l,b=a+l:=⟨b-a,ω⟩;subst Z;have H:wI (((a+l:Nat):Int)-(a:Int))=((l:Nat):Int):=j6;by_cases h8:8<=l
 .have E:decide ((l:Int)≥8)=true:=θ
  have A:decide (wI (((a+l:Nat):Int)-(a:Int))≥8)=true:=by rw[H];exact E
  refine cJ func197 R 67 λU a0 I Y c f e J q=>aX (λM=>bR (I) [.int .u64 (IntKind.wrap .u64 (wI ((↑(a+l):Int)-(↑a:Int))))]::(M)) 1 F i c e J 23 [0,0,0,1] 6 [] [(20,i6 (wI ((↑(a+l):Int)-(↑a:Int)))),(9,ptr I),(8,i6 (wI ((↑(a+l):Int)-(↑a:Int)))),(0,.slice (some g) n cap),(1,i6 a)] 23 3 [] [] [(decide (wI ((↑(a+l):Int)-(↑a:Int))≥8),true)] [] [] λa1 L h d p r z=>?_;rw[H]at h;refine ah F c d h 21 206 #[i6 l] λb b=>Us F i (l:=l) ω h.sat ω λk o o o w B=>b _ _ _ w λb b B b w=>?_;have N:=o ω;refine Rb F i c b B 14 [] 1 [] [(11,i6 (wI (wI ((↑a:Int)+wI (wI (Int.tdiv (↑l:Int) 4)*2))-1))),(10,.int .u64 (↑(2^k):Int)),(9,ptr I),(8,i6 l),(0,.slice (some g) n cap),(1,i6 a)] 38 3 [] λa3 S j v b b b=>?_;obtain⟨m,t⟩:∃m,m=2^k:=⟨_,rfl⟩;rw[show(2:Int)^k=((m:Nat):Int) by rw[t];simp]at j;rw[<-t]at N;have m:wI (Int.tdiv (l:Int) 4)=((l / 4:Nat):Int):=j6 (by rw[Int.ofNat_tdiv];rfl) ω;have k:wI (((l / 4:Nat):Int)*2)=((l / 4*2:Nat):Int):=j6 ψ ω;have g:wI ((a:Int)+((l / 4*2:Nat):Int))=((a+l / 4*2:Nat):Int):=j6;have b:wI (((a+l / 4*2:Nat):Int)-1)=((a+l / 4*2-1:Nat):Int):=j6;rw[m,k,g,b]at j;exact Zz F i c f s x X h8 (by rw[t];exact Nat.pow_pos δ) N y K 3 (a+l / 4*2-1) _ u a3 S _ ω ω v rfl ω P ⟨j.env,j.sat.perm (.swap ..),ω⟩
 .have E:decide ((l:Int)≥8)=false:=θ
  have A:decide (wI (((a+l:Nat):Int)-(a:Int))≥8)=false:=by rw[H];exact E
  refine cJ func197 R 67 λU a0 I Y c f e J q=>TP F i c e J 14 [] 4 [] [] 14 2 [] [] [(decide (wI ((↑(a+l):Int)-(↑a:Int))≥8),false)] [] [] λa1 L h d p r z=>cC F h c f d [] (.tuple #[]) ?_;exact K u L h.sat P ω
section
variable{Q:RQ}
def FG(D:dh)(O:gi)(C:aW)(B:Nat)(g:Addr)(n cap l:Nat):Prop:=∀(Q:RQ)(a:Nat),Q.a=a/\Q.b=a+l->∀(U W:aC)(V:cO)(X:aj),U.kind=.normal->U.fn=192->B<=X.heap.size->(∀u' w',X.heap.size<=w'.heap.size->Sat D w' (tR g u' n::C)->fS Q C u' n->gw Q.κ a (a+l) u'->O (G (W.finish (.tuple #[])) V) w')->
 ∀(z:Nat)(x y:Bool)(u:bU)(a1:Act)(w1:aj)(I:Nat),a+l<=n->z<1000->a1.defers=[]->X.heap.size<=I->w1.heap.size=I->fS Q C u n->St D I 148 [(11,.bool y),(10,.bool x),(0,.slice (some g) n cap),(1,i6 (a:Nat)),(2,i6 ((a+l:Nat):Int)),(3,i6 (z:Nat)),(4,av)] (tR g u n::C) 0 a1 w1->O (G (U.at a1 (pc prog 192 10 [] [])) (W::V)) w1
def BG(F:aB prog T (DX D) O)(j:HB B D)(b:n<65536)(H:FG D O C B g n cap l)(e:a+l<=n)(k:Q.a=a/\Q.b=a+l)(d:z<1000)(f:Sat D w (tR g u n::C))(m:fS Q C u n)(h:B<=w.heap.size)(K:∀c b,w.heap.size<=b.heap.size->Sat D b (tR g c n::C)->fS Q C c n->gw Q.κ a (a+l) c->O (G (W.finish (.tuple #[])) V) b):O (G (Frame.enter prog 192 #[.slice (some g) n cap,i6 a,i6 ((a+l:Nat):Int),i6 z,av] .normal) (W::V)) w:=by
 refine cJ func192 f 148 λU b I b b f c o i=>Rb F j b c o 10 [] 1 [] [(11,.bool true),(10,.bool true),(0,.slice (some g) n cap),(1,i6 a),(2,i6 (↑(a+l):Int)),(3,i6 z),(4,av)] 10 1 [] λl i g c j j j=>H Q a k U W V w b f h K z true true u l i _ e d c ω rfl m ⟨g.env,g.sat,rfl⟩
def MV(F:aB prog T (DX D) O)(J:HB B D)(R:n<65536)(IH:∀l',l'<l->FG D O C B g n cap l')(b:U.kind=.normal)(Y:U.fn=192)(Z:B<=X.heap.size)(hq:Q.a=a/\Q.b=a+l)(K:∀s r,X.heap.size<=r.heap.size->Sat D r (tR g s n::C)->fS Q C s n->gw Q.κ a (a+l) s->O (G (W.finish (.tuple #[])) V) r){x y:Bool}{a1:Act}{B:aj}(hl:12<l)(Fj:a+l<=n)(k:z<1000)(Nt:a1.defers=[])(Dx:X.heap.size<=I)(zS:B.heap.size=I)(hT:fS Q C u n)(Tq:a<=p)(OI:p<a+l)(S1:St D I 148 [(110,av),(109,i6 (p:Nat)),(108,i6 ((a+l:Nat):Int)),(107,i6 (a:Nat)),(106,.slice (some g) n cap),(12,i6 (l:Nat)),(0,.slice (some g) n cap),(1,i6 (a:Nat)),(2,i6 ((a+l:Nat):Int)),(3,i6 (z:Nat)),(4,av)] (tR g u n::C) 0 a1 B):O (G (U.at a1 (pc prog 192 94 [false,false,false,false,false,false] [13])) (W::V)) B:=by
 refine ah F b Nt S1 111 202 #[.slice (some g) n cap,i6 a,i6 (↑(a+l):Int),i6 p,av] λp p=>UX F J ω ω Tq OI Fj hq S1.sat hT ω λi m u u u u u u N p2=>p _ _ _ u λp p S2 S p=>?_;have e1:wI ((i:Int)-a)=((i-a:Nat):Int):=j6;have e2:wI (((a+l:Nat):Int)-i)=((a+l-i:Nat):Int):=j6;have e3:wp i=((i+1:Nat):Int):=j6;by_cases p:i-a<a+l-i
 .have e4:decide (wI ((i:Int)-a)<wI (((a+l:Nat):Int)-i))=true:=by rw[e1,e2];simp;omega
  refine TP F J b S S2 49 [] 6 [] [(133,av),(132,i6 z),(131,i6 i),(130,i6 a),(129,.slice (some g) n cap),(10,.bool (decide (wI ((↑i:Int)-(↑a:Int))≥wI (Int.tdiv (↑l:Int) 8)))),(11,.bool m),(16,i6 i),(0,.slice (some g) n cap),(2,i6 (↑(a+l):Int)),(3,i6 z),(4,av)] 144 192 [13] [] [(decide (wI ((↑i:Int)-(↑a:Int))<wI ((↑(a+l):Int)-(↑i:Int))),true)] [] [] λa3 w3 o H YF yO mH=>?_;generalize decide (wI ((i:Int)-a)≥wI (Int.tdiv (l:Int) 8))=q at o;refine ah F b H o 134 192 #[.slice (some g) n cap,i6 a,i6 i,i6 z,av] λIb h=>?_;rw[show((i:Nat):Int)=((a+(i-a):Nat):Int) by omega];have w:=N.sub (p:=zG Q.κ a (a+l) i) (a:=a) (b:=a+(i-a)) ω ω p2 (λv x y e f d j c=>c.swl e ω d ω) (λx y e f d=>N.lo x y ω ω ω);refine BG F J R (IH (i-a) ω) ω ⟨rfl,rfl⟩ k o.sat w ω λu4 w4 y4 h4 t P=>h _ _ _ h4 λa4 B4 S4 E Bj=>?_;let⟨L,p4⟩:=N.sup t;refine Rb F J b E S4 8 [] 1 [] [(1,i6 (wp i)),(10,.bool q),(11,.bool m),(0,.slice (some g) n cap),(2,i6 (↑(a+l):Int)),(3,i6 z),(4,av)] 153 192 [13] λa5 w5 M A Y5 Dw qO=>?_;rw[e3]at M;rw[show a+(i-a)=i by omega]at P;have w:=L.sub (p:=λv=>zG Q.κ a (a+l) i v/\gw Q.κ a i v) (a:=i+1) (b:=i+1+(l-(i+1-a))) ω ω ⟨p4,P⟩ (λv x y e f d j c=>⟨c.1.swr ω ω ω ω,c.2.out ω ω⟩) (λx y e f d=>(by rw[show x=i by omega];exact p4.2 y ω ω));refine IH (l-(i+1-a)) ω _ (i+1) ⟨rfl,rfl⟩ U W V X b Y Z (λs r e f d j=>by
   let⟨c,q6,q7⟩:=L.sup d;rw[show i+1+(l-(i+1-a))=a+l by omega]at j;exact K s r e f c (q7.join q6 j)) z q m u4 a5 w5 _ ω k A ω rfl w ⟨?_,M.sat,rfl⟩
  rw[show i+1+(l-(i+1-a))=a+l by omega];exact(M.dB [(11,.bool m),(10,.bool q),(0,.slice (some g) n cap),(1,i6 ((i+1:Nat):Int)),(2,i6 ((a+l:Nat):Int)),(3,i6 (z:Nat)),(4,av)] rfl).env
 .have e4:decide (wI ((i:Int)-a)<wI (((a+l:Nat):Int)-i))=false:=by rw[e1,e2];simp;omega
  refine TP F J b S S2 50 [] 4 [] [(145,av),(144,i6 z),(143,i6 (↑(a+l):Int)),(142,i6 (wp i)),(140,.slice (some g) n cap),(10,.bool (decide (wI ((↑(a+l):Int)-(↑i:Int))≥wI (Int.tdiv (↑l:Int) 8)))),(11,.bool m),(16,i6 i),(0,.slice (some g) n cap),(1,i6 a),(3,i6 z),(4,av)] 145 128 [13] [] [(decide (wI ((↑i:Int)-(↑a:Int))<wI ((↑(a+l):Int)-(↑i:Int))),false)] [] [] λa3 w3 o H YF yO mH=>?_;generalize decide (wI (((a+l:Nat):Int)-i)≥wI (Int.tdiv (l:Int) 8))=q at o;rw[e3]at o;refine ah F b H o 146 192 #[.slice (some g) n cap,i6 (↑(i+1):Int),i6 (↑(a+l):Int),i6 z,av] λIb h=>?_;rw[show((a+l:Nat):Int)=((i+1+(a+l-(i+1)):Nat):Int) by omega];have w:=N.sub (p:=zG Q.κ a (a+l) i) (a:=i+1) (b:=i+1+(a+l-(i+1))) ω ω p2 (λv x y e f d j c=>c.swr ω ω ω ω) (λx y e f d=>(by rw[show x=i by omega];exact p2.2 y ω ω));refine BG F J R (IH (a+l-(i+1)) ω) ω ⟨rfl,rfl⟩ k o.sat w ω λu4 w4 y4 h4 t P=>h _ _ _ h4 λa4 B4 S4 E Bj=>?_;let⟨L,p4⟩:=N.sup t;rw[show i+1+(a+l-(i+1))=a+l by omega]at P;refine Rb F J b E S4 7 [] 1 [] [(2,i6 i),(10,.bool q),(11,.bool m),(0,.slice (some g) n cap),(1,i6 a),(3,i6 z),(4,av)] 153 128 [13] λa5 w5 M A Y5 Dw qO=>?_;have w:=L.sub (p:=λv=>zG Q.κ a (a+l) i v/\gw Q.κ (i+1) (a+l) v) (a:=a) (b:=a+(i-a)) ω ω ⟨p4,P⟩ (λv x y e f d j c=>⟨c.1.swl e ω d ω,c.2.out ω ω⟩) (λx y e f d=>L.lo x y ω ω ω);refine IH (i-a) ω _ a ⟨rfl,rfl⟩ U W V X b Y Z (λs r e f d j=>by
   let⟨c,q6,q7⟩:=L.sup d;rw[show a+(i-a)=i by omega]at j;exact K s r e f c (j.join q6 q7)) z q m u4 a5 w5 _ ω k A ω rfl w ⟨?_,M.sat,rfl⟩
  rw[show a+(i-a)=i by omega];exact(M.dB [(11,.bool m),(10,.bool q),(0,.slice (some g) n cap),(1,i6 (a:Nat)),(2,i6 (i:Nat)),(3,i6 (z:Nat)),(4,av)] rfl).env
def Ei(F:aB prog T (DX D) O)(e:HB B D)(k:n<65536)(H:∀b,b<l->FG D O C B g n cap b)(b:U.kind=.normal)(q:U.fn=192)(r:B<=X.heap.size)(A:Q.a=a/\Q.b=a+l)(K:∀d c,X.heap.size<=c.heap.size->Sat D c (tR g d n::C)->fS Q C d n->gw Q.κ a (a+l) d->O (G (W.finish (.tuple #[])) V) c){w:Act}{c:aj}(B:12<l)(o:a+l<=n)(f:z<1000)(m:w.defers=[])(d:X.heap.size<=I)(d:c.heap.size=I)(d:fS Q C u n)(j:a<=p)(i:p<a+l)(E:St D I 148 [(13,i6 (p:Nat)),(12,i6 (l:Nat)),(11,.bool y),(10,.bool x),(0,.slice (some g) n cap),(1,i6 (a:Nat)),(2,i6 ((a+l:Nat):Int)),(3,i6 (z:Nat)),(4,av)] (tR g u n::C) 0 w c):O (G (U.at w (pc prog 192 79 [false,false,false,false,false] [])) (W::V)) c:=by
 by_cases c:a=0
 .have C:decide ((a:Int)>0)=false:=θ
  refine TP F e b m E 15 [] 356515840 [13] [(110,av),(109,i6 p),(108,i6 (↑(a+l):Int)),(107,i6 a),(106,.slice (some g) n cap),(12,i6 l),(0,.slice (some g) n cap),(1,i6 a),(2,i6 (↑(a+l):Int)),(3,i6 z),(4,av)] 94 64 [13] [11] [(decide ((↑a:Int)>0),false)] [] [] λN G s c h t v=>MV F e k H b q r A K (x:=x) (y:=y) B o f c ω h d j i s
 .have C:decide ((a:Int)>0)=true:=θ
  have M:wm a=((a-1:Nat):Int):=j6;have L:=d.r (a-1) ω;have J:=d.r p ω;refine TP F e b m E 1 [0,Int.toNat (wm a),0,101,0,p,0,101] 27962026 [13] [(93,ptr (u p)),(92,.pointer (some (Addr.add g (p*1)))),(91,i6 p),(90,.slice (some g) n cap),(89,ptr (u (Int.toNat (wm a)))),(88,.pointer (some (Addr.add g (Int.toNat (wm a)*1)))),(87,i6 (wm a)),(86,i6 a),(85,.slice (some g) n cap),(84,av),(83,.bool (decide ((↑a:Int)>0))),(13,i6 p),(12,i6 l),(11,.bool y),(10,.bool x),(0,.slice (some g) n cap),(1,i6 a),(2,i6 (↑(a+l):Int)),(3,i6 z),(4,av)] 80 32 [13] [10] [(decide ((↑a:Int)>0),true)] [((↑p:Int),n),(wm a,n)] [(1,(p,n)),(1,(Int.toNat (wm a),n))] λN G s c h t v=>?_;rw[M,C]at s;refine ah F b c s 94 190 #[ptr (u ((a-1))),ptr (u p)] λc c=>kM F e (p:=u (a-1)) (q:=u p) s.sat L.cons J.cons ω λm h h u t=>c _ _ _ u λc c u c t=>?_;by_cases t:m<0
  .refine TP F e b c u 13 [] 79 [] [(110,av),(109,i6 p),(108,i6 (↑(a+l):Int)),(107,i6 a),(106,.slice (some g) n cap),(12,i6 l),(0,.slice (some g) n cap),(1,i6 a),(2,i6 (↑(a+l):Int)),(3,i6 z),(4,av)] 94 64 [13] [] [(!decide (m<0),false)] [] [] λc c m g c l l=>MV F e k H b q r A K (x:=x) (y:=y) B o f g ω c d j i m
  .exfalso;have b:=d.lo (a-1) p ω ω ω;have b:=mt h.2 t;have:=d.inj (a-1) p ω ω ω;omega
def M3(F:aB prog T (DX D) O)(i:HB B D)(o:n<65536)(M:∀w,w<l->FG D O C B g n cap w)(b:U.kind=.normal)(f:U.fn=192)(r:B<=X.heap.size)(A:Q.a=a/\Q.b=a+l)(K:∀B w,X.heap.size<=w.heap.size->Sat D w (tR g B n::C)->fS Q C B n->gw Q.κ a (a+l) B->O (G (W.finish (.tuple #[])) V) w){R:Act}{w:aj}(H:12<l)(e:a+l<=n)(j:z<1000)(q:R.defers=[])(B:X.heap.size<=I)(B:w.heap.size=I)(J:fS Q C u n){h:Int}(m:a<=p)(k:p<a+l)(L:St D I 148 [(69,.bool x),(14,i6 h),(13,i6 (p:Nat)),(12,i6 (l:Nat)),(11,.bool y),(10,.bool x),(0,.slice (some g) n cap),(1,i6 (a:Nat)),(2,i6 ((a+l:Nat):Int)),(3,i6 (z:Nat)),(4,av)] (tR g u n::C) 0 R w):O (G (U.at R (pc prog 192 68 [false,false,false,false] [])) (W::V)) w:=by
 cases x
 .refine Rb F i b q L 11 [] 341 [] [(13,i6 p),(12,i6 l),(11,.bool y),(10,.bool false),(0,.slice (some g) n cap),(1,i6 a),(2,i6 (↑(a+l):Int)),(3,i6 z),(4,av)] 79 32 [] λP N s c d t v=>Ei F i o M b f r A K H e j c ω d J m k s
 .cases y
  .refine Rb F i b q L 11 [] 343 [] [(13,i6 p),(12,i6 l),(11,.bool false),(10,.bool true),(0,.slice (some g) n cap),(1,i6 a),(2,i6 (↑(a+l):Int)),(3,i6 z),(4,av)] 79 32 [] λP N s c d t v=>Ei F i o M b f r A K H e j c ω d J m k s
  .by_cases hh:h=1
   .subst hh;refine Rb F i b q L 14 [] 511 [] [(79,av),(78,i6 (↑(a+l):Int)),(77,i6 a),(76,.slice (some g) n cap),(74,.bool true),(73,i6 1),(70,.bool true),(13,i6 p),(12,i6 l),(11,.bool true),(10,.bool true),(0,.slice (some g) n cap),(1,i6 a),(2,i6 (↑(a+l):Int)),(3,i6 z),(4,av)] 82 48 [] λP N s c d t v=>ah F b c s 80 200 #[.slice (some g) n cap,i6 a,i6 (↑(a+l):Int),av] λu u=>UA F i ω ω e A s.sat J ω λZ u3 w w w S s3=>u _ _ _ w λu u Y E u=>?_;cases Z
    .refine Rb F i b E Y 5 [] 5 [] [(13,i6 p),(12,i6 l),(11,.bool true),(10,.bool true),(0,.slice (some g) n cap),(1,i6 a),(2,i6 (↑(a+l):Int)),(3,i6 z),(4,av)] 88 80 [] λG C x u w y B=>Ei F i o M b f r A K H e j u ω w S m k x
    .refine Rb F i b E Y 2 [] 7 [] [] 85 112 [] λG C x u w y B=>cC F x b f u [] (.tuple #[]) ?_;exact K u3 C ω x.sat S (s3 rfl)
   .refine TP F i b q L 11 [] 319 [] [(13,i6 p),(12,i6 l),(11,.bool true),(10,.bool true),(0,.slice (some g) n cap),(1,i6 a),(2,i6 (↑(a+l):Int)),(3,i6 z),(4,av)] 79 32 [] [] [(h==1,false)] [] [] λP N s c d t v=>Ei F i o M b f r A K H e j c ω d J m k s
def Nm(F:aB prog T (DX D) O)(e:HB B D)(j:n<65536)(L:∀d,d<l->FG D O C B g n cap d)(b:U.kind=.normal)(o:U.fn=192)(q:B<=X.heap.size)(t:Q.a=a/\Q.b=a+l)(K:∀i d,X.heap.size<=d.heap.size->Sat D d (tR g i n::C)->fS Q C i n->gw Q.κ a (a+l) i->O (G (W.finish (.tuple #[])) V) d){A:Act}{d:aj}(E:12<l)(c:a+l<=n)(f:z<1000)(i:A.defers=[])(m:X.heap.size<=I)(m:d.heap.size=I)(v:fS Q C u n)(m:St D I 148 [(51,av),(50,i6 ((a+l:Nat):Int)),(49,i6 (a:Nat)),(48,.slice (some g) n cap),(12,i6 (l:Nat)),(11,.bool y),(10,.bool x),(0,.slice (some g) n cap),(1,i6 (a:Nat)),(2,i6 ((a+l:Nat):Int)),(3,i6 (z:Nat)),(4,av)] (tR g u n::C) 0 A d):O (G (U.at A (pc prog 192 48 [false,false,false] [])) (W::V)) d:=by
 refine ah F b i m 52 198 #[.slice (some g) n cap,i6 a,i6 (↑(a+l):Int),av] λd d=>Ut F e ω ω c m.sat v ω λp h i N M i i i=>d _ _ _ i λd d J k d=>?_;by_cases r:h=2
 .subst r;have R:wI ((p:Int)-(a:Int))=((p-a:Nat):Int):=j6;have Q:wm (a+l)=((a+l-1:Nat):Int):=j6;have P:wI (((a+l-1:Nat):Int)-((p-a:Nat):Int))=((a+l-1-(p-a):Nat):Int):=j6;refine Rb F e b k J 19 [] 7 [] [(60,av),(59,i6 (↑(a+l):Int)),(58,i6 a),(57,.slice (some g) n cap),(13,i6 p),(12,i6 l),(11,.bool y),(10,.bool x),(0,.slice (some g) n cap),(1,i6 a),(2,i6 (↑(a+l):Int)),(3,i6 z),(4,av)] 68 24 [] λS B r d i s w=>ah F b d r 61 199 #[.slice (some g) n cap,i6 a,i6 (↑(a+l):Int),av] λm m=>aae F e ω ω c t r.sat v ω λu4 u u u C=>m _ _ _ u λm m G m u=>Rb F e b m G 19 [] 1 [] [(69,.bool x),(14,i6 1),(13,i6 (wI (wm (a+l)-wI ((↑p:Int)-(↑a:Int))))),(12,i6 l),(11,.bool y),(10,.bool x),(0,.slice (some g) n cap),(1,i6 a),(2,i6 (↑(a+l):Int)),(3,i6 z),(4,av)] 88 24 [] λm m H u m G G=>?_;rw[R,Q,P]at H;exact M3 F e j L b o q t K E c f u ω m C ω ω H
 .refine TP F e b k J 19 [] 4 [] [(69,.bool x),(14,i6 h),(13,i6 p),(12,i6 l),(11,.bool y),(10,.bool x),(0,.slice (some g) n cap),(1,i6 a),(2,i6 (↑(a+l):Int)),(3,i6 z),(4,av)] 68 16 [] [] [(h==2,false)] [] [] λS B r d i s w=>M3 F e j L b o q t K E c f d ω i v N M r
def UW(F:aB prog T (DX D) O)(e:HB B D)(s:n<65536):∀l,FG D O C B g n cap l:=by
 intro l;induction l using Nat.strongRecOn with
 |_ l IH=>
 intro Q a E U W V X b p G K z x y u u u I i Z o u u P S;have R:wI (((a+l:Nat):Int)-(a:Int))=((l:Nat):Int):=j6;by_cases u:l<=12
 .have B:decide (wI (((a+l:Nat):Int)-(a:Int))<=12)=true:=by rw[R];simp;omega
  refine TP F e b o S 21 [] 6 [] [(29,av),(28,i6 (↑(a+l):Int)),(27,i6 a),(26,.slice (some g) n cap)] 31 3 [] [] [(decide (wI ((↑(a+l):Int)-(↑a:Int))<=12),true)] [] [] λa2 Y j d m r t=>ah F b d j 30 195 #[.slice (some g) n cap,i6 a,i6 (↑(a+l):Int),av] λL c=>VJ F e ω ω i E j.sat P ω λu3 w3 y3 H v u=>c _ _ _ H λa3 B3 M h w=>Rb F e b h M 1 [] 1 [] [] 33 3 [] λa4 N k f q A J=>cC F k b p f [] (.tuple #[]) ?_;exact K u3 N ω k.sat v u
 .have B:decide (wI (((a+l:Nat):Int)-(a:Int))<=12)=false:=by rw[R];simp;omega
  by_cases B:z=0
  .have B:((z:Int)==0)=true:=θ
   refine TP F e b o S 29 [] 24 [] [(36,av),(35,i6 (↑(a+l):Int)),(34,i6 a),(33,.slice (some g) n cap)] 39 6 [] [] [((↑z:Int)==0,true),(decide (wI ((↑(a+l):Int)-(↑a:Int))<=12),false)] [] [] λa2 Y j d m r t=>ah F b d j 37 196 #[.slice (some g) n cap,i6 a,i6 (↑(a+l):Int),av] λL c=>Qy F e ω ω i E j.sat P ω λu3 w3 y3 H v u=>c _ _ _ H λa3 B3 M h w=>Rb F e b h M 1 [] 1 [] [] 41 6 [] λa4 N k f q A J=>cC F k b p f [] (.tuple #[]) ?_;exact K u3 N ω k.sat v u
  .cases x
   .refine TP F e b o S 37 [] 112 [] [(43,av),(42,i6 (↑(a+l):Int)),(41,i6 a),(40,.slice (some g) n cap),(12,i6 (wI ((↑(a+l):Int)-(↑a:Int)))),(11,.bool y),(10,.bool false),(0,.slice (some g) n cap),(1,i6 a),(2,i6 (↑(a+l):Int)),(3,i6 z),(4,av)] 47 12 [] [] [((↑z:Int)==0,false),(decide (wI ((↑(a+l):Int)-(↑a:Int))<=12),false)] [] [] λa2 Y j d m r t=>ah F b d j 44 197 #[.slice (some g) n cap,i6 a,i6 (↑(a+l):Int),av] λL c=>?_;have u:wm z=((z-1:Nat):Int):=j6;refine Zr F e s ω i E j.sat P ω λu3 w3 H v y3=>c _ _ _ H λa3 B3 M h w=>Rb F e b h M 12 [] 1 [] [(51,av),(50,i6 (↑(a+l):Int)),(49,i6 a),(48,.slice (some g) n cap),(3,i6 (wm z)),(12,i6 (wI ((↑(a+l):Int)-(↑a:Int)))),(11,.bool y),(10,.bool false),(0,.slice (some g) n cap),(1,i6 a),(2,i6 (↑(a+l):Int)),(4,av)] 60 12 [] λa4 N k f q A J=>?_;rw[R,u]at k;replace k:=k.dB [(51,av),(50,i6 ((a+l:Nat):Int)),(49,i6 (a:Nat)),(48,.slice (some g) n cap),(12,i6 (l:Nat)),(11,.bool y),(10,.bool false),(0,.slice (some g) n cap),(1,i6 (a:Nat)),(2,i6 ((a+l:Nat):Int)),(3,i6 ((z-1:Nat):Int)),(4,av)] rfl;exact Nm F e s IH b p G E K ω i ω f ω q v k
   .refine TP F e b o S 38 [] 80 [] [(51,av),(50,i6 (↑(a+l):Int)),(49,i6 a),(48,.slice (some g) n cap),(12,i6 (wI ((↑(a+l):Int)-(↑a:Int)))),(11,.bool y),(10,.bool true),(0,.slice (some g) n cap),(1,i6 a),(2,i6 (↑(a+l):Int)),(3,i6 z),(4,av)] 48 8 [] [] [((↑z:Int)==0,false),(decide (wI ((↑(a+l):Int)-(↑a:Int))<=12),false)] [] [] λa2 Y j d m r t=>?_;rw[R]at j;exact Nm F e s IH b p G E K ω i Z d ω m P j
def O9(F:aB prog T (DX D) O)(b:HB B D)(c:n<65536)(e:Sat D w (tR g u n::C))(j:fS Q C u n)(a:Q.a=0/\Q.b=n)(a:B<=w.heap.size)(K:∀d a,w.heap.size<=a.heap.size->Sat D a (tR g d n::C)->fS Q C d n->gw Q.κ 0 n d->O (G (W.finish (.tuple #[])) V) a):O (G (Frame.enter prog 189 #[.slice (some g) n cap,av] .normal) (W::V)) w:=by
 refine cJ func189 e 14 λU a I a a e d i h=>Rb F b a d i 11 [] 1 [] [(10,.int .u64 (IntKind.wrap .u64 (↑n:Int))),(8,i6 n),(7,.slice (some g) n cap),(1,av)] 11 1 [] λd d f d h h h=>?_;rw[wrap64 ω]at f;refine ah F a d f 11 193 #[.int .u64 (↑n:Int)] λd d=>Is F b (l:=n) ω f.sat ω λk h h h h i=>d _ _ _ h λd d i d h=>Rb F b a d i 1 [] 1 [] [(12,av),(11,i6 k),(8,i6 n),(7,.slice (some g) n cap)] 13 1 [] λd d h d i i i=>ah F a d h 13 192 #[.slice (some g) n cap,i6 0,i6 n,i6 k,av] λd d=>?_;rw[show((n:Nat):Int)=((0+n:Nat):Int) by omega];refine BG (a:=0) (l:=n) F b c (UW F b c n) ω ω ω h.sat j ω λu4 c c c g h=>d _ _ _ c λc c i c d=>Rb F b a c i 1 [] 1 [] [] 15 1 [] λb d c b i i i=>cC F c a e b [] (.tuple #[]) ?_;exact K u4 d ω c.sat g (by simpa using h)
end
end Go.Proofs.YtobagnjnbmgidabGreatDoor
