import Derived.Test.YtobagnjnbmgidaaGreatDoorA1
import Derived.Test.YtobagnjnbmgidaaGreatDoorN4
set_option linter.all false
set_option maxHeartbeats 0
set_option maxRecDepth 100000
namespace Go.Proofs.YtobagnjnbmgidaaGreatDoor
open Go.Conc Go.RowKit Tryz
variable{b:Bk}{V:Ev0}{d ly num:Int}{T i j k lb m n aS x:Nat}{r:aH}{A C M O R X Y:aW}{w I:aj}{c cf:aC}{en v wi:ay}{q:aN}{es:jl}{Z:cO}{vs:iO}
variable{main:Bool}{B t:Nat}{Ok:dh}{Ψ:gi}{S:Type}
def LS.Yj(L:LS)(t j:Nat)(n:Int):LS:={L with tk:=upd L.tk t {L.tk t with a:=upd (L.tk t).a j n}}
abbrev oR(b o:Nat)(vs:iO)(wr:Bool):aH:=⟨λj=>⟨b,o+j.2,none⟩,vs,λ_ _=>undef,1,vs.length,wr,none⟩
structure mW where
 E:Nat
 n:Nat
 c:Nat
 f:Nat->Value
abbrev eR(b:mW):aH:=⟨λj=>⟨b.E,j.2,none⟩,[],λ_ j=>b.f j,b.c,b.n,true,match b.c with|0=>none|_+1=>some (b.E,128,b.n)⟩
def Has(C:aW)(r:aH):Prop:=r.wr=false/\∃i,nth C i=some r
theorem Has.cons{x:aH}(h:Has C r):Has (x::C) r:=by
 obtain⟨b,i,a⟩:=h;exact⟨b,i+1,a⟩
theorem Has.app{C:aW}{r:aH}(h:Has C r):∀A:List aH,Has (A++C) r
 |[]=>h
 |_::A=>(h.app A).cons
theorem Has.pre(h:Has C r)(A:aW):Has (C++A) r:=by
 obtain⟨b,i,a⟩:=h;exact⟨b,i,by rw[b8,ah (qH _ _ _ a)];exact a⟩
theorem Sat.get(h:Sat Ok w M)(a:Has M r):Sat Ok w (r::M):=by
 obtain⟨c,i,b⟩:=a;exact h.dup b c
theorem St.get{Ok:dh}{B N c:Nat}{E:Env}{M:aW}{r:aH}{a:Act}{w:aj}(S:St Ok B N E M c a w)(h:Has M r):St Ok B N E (r::M) c a w:=⟨S.env,S.sat.get h,S.sz⟩
def s9(x:Lm):List Value:=[i6 x.k,i6 x.n,i6 x.t]
structure PK where
 A:Nat
 J:Nat
 HD:Nat
 O:Nat
 sc:Nat->Value
 V:Ev0
 lb:Nat->Nat
 T:Nat->Nat
 aS:Nat->Nat
 ca:Addr
 cc:Nat
 dL:Nat->Option Addr
 eu:Nat->Nat
 bM:Nat
 bJ:Nat
structure Fb where
 s:Bool
 g:Nat
 o:Nat
 c:Nat
 v:Nat->List Value
structure PS where
 k:PK
 en:Value
 eb:mW
 ea:Option Addr
 ec:Nat
 vv:Nat->List Value
 oh:Nat->Value
 q:List Nat
 wb:Nat->Nat
 f:Nat->Fb
 lq:Nat->List Nat
 cv:Nat->Value
 cx:List aH
 l:LS
def pM(s:PS):List aH:=[bR s.k.A [i6 s.l.now,s.en],eR s.eb,bR s.k.J [.slice s.ea s.l.el s.ec],vR s.ea 5 (λj=>yt (s.l.ev j)) s.l.el s.ec 55,sR s.ea 5 s.vv s.l.el s.ec,
 fR ⟨s.k.HD,0,none⟩ 1 (λj=>[i6 (s.l.us j)]) s.k.V.nc true,fR ⟨s.k.O,0,none⟩ 4 (λj=>yL (s.l.ou j,s.oh j)) s.k.V.nc true]
abbrev tQ(b:Nat)(wi:ay)(num:Int)(J:Nat):aH:=oR b 0 [wi,i6 num,ptr J] false
abbrev wF(T A:Nat)(i:Nat)(aS:Nat):aH:=oR T 0 [ptr A,i6 i,i6 i,.chan (some aS)] false
abbrev dO(T:Nat)(v:ay)(e:Bool):aH:=oR T 4 [v,.slice none 0 0,.bool false,.bool e] true
def su(f:Fb)(n:Nat):Value:=if f.s=true then .slice (some ⟨f.g,f.o,none⟩) n f.c else .slice none 0 0
def rK(f:Fb):Nat:=if f.s=true then max f.c 1 else 0
def gR(y:ju)(lb:Nat)(g:Gt)(f:Fb)(q:aN):List aH:=if y.k=3 then[oR lb 5 [i6 g.nx] true]else if y.k=4 then[oR lb 8 [i6 g.st,i6 g.si,i6 g.pd,i6 g.pr,su f g.la.length] true,fR ⟨f.g,0,none⟩ 1 f.v (f.o+f.c) true]else if y.k=5 then[oR lb 5 [i6 g.tn,su f q.length] true,fR ⟨f.g,f.o,none⟩ 1 f.v (rK f) true]else[]
def nJ(x:tU):Int:=if x.x=true then 2 else if x.e=true then 1 else 0
def wR(s:PS)(i:Nat):List aH:=[oR (s.wb i) 1 [i6 (nJ (s.l.wt i))] true,oR (s.wb i) 0 [ptr (s.k.T (s.l.wt i).t.toNat)] false]
def wS(s:PS):List aH:=(List.range s.l.wl).flatMap (wR s)
def gA(s:PS):List aH:=(List.range s.k.V.nl).flatMap λj=>gR (s.k.V.ly j) (s.k.lb j) (s.l.gt j) (s.f j) (s.lq j)
def gS(s:PS):List aH:=gA s++(wS s++s.cx)
def gX(s:PS)(k:Nat):List aH:=((List.range s.k.V.nl).flatMap λj=>if j=k then[]else gR (s.k.V.ly j) (s.k.lb j) (s.l.gt j) (s.f j) (s.lq j))++(wS s++s.cx)
def wX(s:PS)(i:Nat):List aH:=gA s++(((List.range s.l.wl).flatMap λj=>if j=i then[]else wR s j)++s.cx)
theorem kC(f g:Nat->List aH)(i:Nat)(b:g i=[])(c:∀j,j≠i->g j=f j):∀n,((List.range n).flatMap f).Perm ((if i<n then f i else[])++(List.range n).flatMap g)
 |0=>by simp
 |n+1=>by
  have a:=kC f g i b c n;rw[rj,yZ,yZ];simp only[DN,List.flatMap_nil,List.append_nil];by_cases e:n=i
  .subst e;rw[af (Ap _),List.nil_append]at a;rw[ah (gr _),b,List.append_nil];exact(a.append_right _).trans D2
  .rw[c n e];have:(i<n)=(i<n+1):=by grind
   simp only[this]at a;rw[<-dU];exact a.append_right _
theorem Yo(s:PS)(a:k<s.k.V.nl):(gS s).Perm (gR (s.k.V.ly k) (s.k.lb k) (s.l.gt k) (s.f k) (s.lq k)++gX s k):=by
 have:=kC (λj=>gR (s.k.V.ly j) (s.k.lb j) (s.l.gt j) (s.f j) (s.lq j)) (λj=>if j=k then[]else gR (s.k.V.ly j) (s.k.lb j) (s.l.gt j) (s.f j) (s.lq j)) k (ah rfl) (λj b=>af b) s.k.V.nl;rw[ah a]at this;have h:=this.append_right (wS s++s.cx);rw[dU]at h;exact h
theorem og(s:PS)(b:i<s.l.wl):(gS s).Perm (wR s i++wX s i):=by
 have:=kC (wR s) (λj=>if j=i then[]else wR s j) i (ah rfl) (λj a=>af a) s.l.wl;rw[ah b]at this;have h:=(this.append_right s.cx).append_left (gA s);rw[dU]at h;exact h.trans (fA ..)
def WY(s s':PS):Prop:=s'.l.wl=s.l.wl/\∀i,i<s.l.wl->wR s' i=wR s i
theorem O5{s a:PS}(h:WY s a):wS a=wS s:=by
 unfold wS;rw[h.1,List.flatMap_def,List.flatMap_def];congr 1;exact u7 λi a=>h.2 i (aZ.1 a)
theorem K3{s a:PS}(d:a.k=s.k)(b:∀j,j≠k->a.l.gt j=s.l.gt j)(b:∀j,j≠k->a.f j=s.f j/\a.lq j=s.lq j)(c:WY s a)(b:a.cx=s.cx):gX a k=gX s k:=by
 unfold gX;rw[O5 c,b,d];simp_all
theorem Gf(y:ju)(lb:Nat)(g:Gt)(f:Fb)(q:aN):∀r∈gR y lb g f q,r.row=none:=λr a=>by
 unfold gR at a;grind
theorem r9(s:PS)(a:∀r∈s.cx,r.row=none):∀r∈gS s,r.row=none:=λr a=>by
 rcases dJ.1 a with a|a
 .obtain⟨j,_,h⟩:=mL.1 a;exact Gf _ _ _ _ _ r h
 .rcases dJ.1 a with a|a
  .obtain⟨j,_,h⟩:=mL.1 a;simp[wR]at h;grind
  simp_all
structure qv(Ok:dh)(la:iy)(f:Fb):Prop where
 nil:f.s=false->la=[]/\f.o=0/\f.c=0
 len:f.s=true->0<la.length/\la.length<=f.c
 ok:f.s=true->∀(ad:Addr)(wr:Bool),ad.block=f.g->Ok ad wr
 val:∀j,j<la.length->(f.v (f.o+j)).getD 0 undef=.bool (la.getD j false)
structure G3(Ok:dh)(wb:bU)(q:aN)(f:Fb):Prop where
 nil:f.s=false->q=[]/\f.o=0/\f.c=0
 len:f.s=true->q.length<=f.c
 ok:f.s=true->∀(ad:Addr)(wr:Bool),ad.block=f.g->Ok ad wr
 val:∀j,j<q.length->(f.v j).getD 0 undef=ptr (wb (q.getD j 0))
theorem G3.wb{b a:bU}{f:Fb}(h:G3 Ok b q f)(c:∀w∈q,a w=b w):G3 Ok a q f:=⟨h.nil,h.len,h.ok,λj a=>by rw[h.val j a,c _ (by simp_all)]⟩
abbrev PS.dI(s:PS)(g' cap':Nat)(vs':eX)(L:LS):PS:={s with ea:=some ⟨g',0,none⟩,ec:=cap',vv:=vs',l:=L}
theorem Er(F:aB prog main (DX Ok) Ψ)(p:HB B Ok){s:PS}{q n:Int}(m:Sat Ok w (pM s++C))(D:Has C (tQ lb wi num s.k.J))(y:Has C (wF T s.k.A t aS))(u:Vc Ok s.ea s.l.el s.ec)(o:B<=w.heap.size)(o:s.l.el<1000000)(v:(s.l.tk t).c=t)(K:∀g b c I,Sat Ok I (pM (s.dI g b c (s.l.say t num q n))++C)->Vc Ok (some ⟨g,0,none⟩) (s.l.el+1) b->w.heap.size<=I.heap.size->Ψ (G (cf.finish (.tuple #[])) Z) I):
 Ψ (G (Frame.enter prog 149 #[ptr lb,ptr T,i6 q,i6 n] .normal) (cf::Z)) w:=by
 replace m:=(m.get (D.app (pM s))).get ((y.app (pM s)).cons);refine cJ func149 m 34 λo o w o d l k H o=>TM [tQ lb wi num s.k.J] [(3,[(0,(0,2),true)])] F aK (λa wr z=>p a wr (by omega)) d 23 (Hq [1,0,2,1,1,0,2,1,4,0,0,1,0,0,0,1,2,0,0,1,0,0,2,1,1,0,1,1]) [] [(11,ptr s.k.J)] (bR w (yt ⟨s.l.now,t,num,q,n⟩)::·) 1 [] [] [] 18 30 31 33 55 5 40 6 7 0 (by kernel_rfl) (by kernel_rfl) (by kernel_rfl) (by kernel_rfl) (by kernel_rfl) (by kernel_rfl) (λi r h=>by match i,h with|0,h=>cases h;exact⟨rfl,2,by decide,by decide,rfl⟩) rfl rfl (by decide) (by kernel_rfl) eU eU eU H rfl rfl (by decide) rfl u (λ_ _=>rfl) rfl (A4 _) (by omega) (by simp only[maxLen];omega) (by omega) λg b a c i j a A a a f=>?_;have h:=A.size;have E:St Ok j.heap.size 34 _ _ 0 i j:=⟨a,A.sat,rfl⟩;rw[k]at f;generalize x:j.heap.size=a at*;refine aq F p d f E 4 [5,0,0,1] [] [] [] (λM=>bh 5 (0,0) (.slice (some ⟨g,0,none⟩) (s.l.el+1) b) (M)) 0 5 1 [24] λa i h a j j j=>cC F h d l a [] (.tuple #[]) ?_;have e:s.l.say t num q n={s.l with el:=s.l.el+1,ev:=upd s.l.ev s.l.el ⟨s.l.now,t,num,q,n⟩}:=by unfold LS.say;rw[v]
 rw[e]at K;exact K g b c i (h.sat.tail.tail.tail.re 3 rfl rfl _ A.upd) A.vc (by omega)
def O1(en:ay)(eb:mW)(es:jl):Prop:=(∀e∈es,e.2.oneCell'=true)/\((en=.slice none 0 0/\es=[]/\eb.c=0)\/
 ∃off cap,en=.slice (some ⟨eb.E,off,none⟩) es.length cap/\eb.c=1/\es.length<=cap/\off+2*cap<=eb.n/\0<eb.n/\∀(j:Nat)(u:ay),(flat es)[j]? =some u->eb.f (off+j)=u)
structure PV(Ok:dh)(s:PS)(es:jl):Prop where
 jr:Vc Ok s.ea s.l.el s.ec
 en:O1 s.en s.eb es
 eo:s.eb.c=1->s.k.A<s.eb.E/\∀(a:Addr)(wr:Bool),a.block=s.eb.E->Ok a wr
 fb:∀k,k<s.k.V.nl->(s.k.V.ly k).k=4->qv Ok (s.l.gt k).la (s.f k)
 rm:∀k,k<s.k.V.nl->(s.k.V.ly k).k=5->G3 Ok s.wb (s.lq k) (s.f k)
 cx:∀r∈s.cx,r.wr=false/\r.row=none
theorem yx{E:Nat}{a:gd}{t:TypeId}{f:Nat×Nat}(h:w.heap[E]? =some (.cells a t f)):w.cell? ⟨E,j,none⟩=a[j]? :=oz h
theorem wo{b:mW}(h:Sat Ok w M)(c:nth M i=some (eR b))(a:b.c=1):∃a,w.heap[b.E]? =some (.cells a 128 (0,0))/\a.size=b.n/\∀j,j<b.n->a[j]? =some (b.f j):=by
 obtain⟨_,_,a,d,e⟩:=h.row i _ c b.E 128 b.n (by simp_all);refine⟨a,d,e,λj a=>?_⟩;have:=h.val i _ c (0,j) ⟨by simp_all,a⟩;rw[<-yx d];exact this
theorem wm{a:mW}{N:Nat}(h:Sat Ok w M)(e:nth M i=some (eR a))(b:O1 en a es)(f:a.c=1->N<=a.E):fZ N w en es:=by
 refine⟨b.1,b.2.imp (λx=>⟨x.1,x.2.1⟩) ?_⟩;rintro ⟨off,cap,i,c,g,b,b,b⟩;obtain⟨b,k,l,c3⟩:=wo h e c;refine⟨a.E,off,cap,b,i,g,f c,k,by omega,λj u a=>?_⟩;have d:j<(flat es).length:=(lg.1 a).1;rw[ia]at d;grind
theorem Sat.two{A y m l:aH}{t:aW}(h:Sat Ok w (A::y::t))(x:∀i r,nth t i=some r->∀j,r.has j->I.cell? (r.ad j)=w.cell? (r.ad j)/\I.frozen? (r.ad j)=w.frozen? (r.ad j))(B:∀i r,nth t i=some r->∀g e n,r.row=some (g,e,n)->pI w g e n->pI I g e n)(c:Sat Ok I [m,l])(u:∀i r,nth t i=some r->∀j k,r.has j->(m.has k->m.ad k≠r.ad j)/\(l.has k->l.ad k≠r.ad j)):Sat Ok I (m::l::t):=by
 refine⟨λi r a j f=>?_,λi r a j f=>?_,λi r q p a b s j k f d o=>?_,λi r a g e n v=>?_⟩
 .match i,a with
  |0,a=>exact c.val 0 r a j f
  |1,a=>exact c.val 1 r a j f
  |i+2,a=>rw[(x i r a j f).1];exact h.val (i+2) r a j f
 .match i,a with
  |0,a=>exact c.ok 0 r a j f
  |1,a=>exact c.ok 1 r a j f
  |i+2,a=>have:=h.ok (i+2) r a j f;exact⟨this.1,λz=>⟨(this.2 z).1,by rw[(x i r a j f).2];simp_all⟩⟩
 .match i,a,q,b with
  |0,a,0,b=>exact c.sep 0 r 0 p a b s j k f d o
  |0,a,1,b=>exact c.sep 0 r 1 p a b s j k f d o
  |1,a,0,b=>exact c.sep 1 r 0 p a b s j k f d o
  |1,a,1,b=>exact c.sep 1 r 1 p a b s j k f d o
  |0,a,q+2,b=>cases a;exact absurd o ((u q p b k j d).1 f)
  |1,a,q+2,b=>cases a;exact absurd o ((u q p b k j d).2 f)
  |i+2,a,0,b=>cases b;exact absurd o.symm ((u i r a j k f).1 d)
  |i+2,a,1,b=>cases b;exact absurd o.symm ((u i r a j k f).2 d)
  |i+2,a,q+2,b=>exact h.sep (i+2) r (q+2) p a b s j k f d o
 .match i,a with
  |0,a=>exact c.row 0 r a g e n v
  |1,a=>exact c.row 1 r a g e n v
  |i+2,a=>have:=h.row (i+2) r a g e n v;exact⟨this.1,this.2.1,B i r a g e n v this.2.2⟩
theorem Sat.K6{C':List Addr}{A:Nat}{x:ay}{s:mW}{K:jl}(h:Sat Ok w (bR A [x,en]::eR s::M))(hE:O1 en s es)(C:s.c=1->A<s.E)(hB:HB w.heap.size Ok)(W:s.c=1->∀(a:Addr)(wr:Bool),a.block=s.E->Ok a wr)(C:∀a∈C',a.block=A/\a.off≠0)(C:∀i r,nth M i=some r->∀j,r.has j->r.ad j∉C')(Q:Kp (cw en) w I (⟨A,1,none⟩::C'))(hv:I.cell? ⟨A,1,none⟩=some v)(hf:I.frozen? ⟨A,1,none⟩=false)(N:fZ (A+1) I v K)(O:∀g∈cw v,g∈cw en\/w.heap.size<=g)(C:0<K.length)(C:∀i r g e n,nth M i=some r->r.row=some (g,e,n)->g≠A):
 ∃C,Sat Ok I (bR A [x,v]::eR C::M)/\O1 v C K/\C.c=1/\A<C.E/\∀(a:Addr)(wr:Bool),a.block=C.E->Ok a wr:=by
 obtain⟨ho,⟨_,z⟩|⟨D,off,cap,t,e1,e2,v,e4,e5,v⟩⟩:=N
 .simp_all
 have v:∀g,g∈cw en↔s.c=1/\g=s.E:=λg=>by
  rcases hE.2 with ⟨E,G,C⟩|⟨o,c,E,G,_⟩
  .rw[E,bS];simp[Value.ownBlock,C]
  .rw[E,bS];simp[Value.ownBlock,G];omega
 have R:(s.c=1/\D=s.E)\/w.heap.size<=D:=by
  rcases O D (by rw[e1,bS];rfl)with z|z
  .simp_all
  omega
 have P:∀(a:Addr)(wr:Bool),a.block=D->Ok a wr:=λa wr hb=>by
  rcases R with ⟨E,G⟩|z
  .exact W E a wr (hb.trans G)
  .exact hB a wr (by omega)
 have B:0<t.size:=by omega
 have a:∀j,I.frozen? ⟨D,j,none⟩=false:=λj=>by simp[World.frozen?,e4]
 have J:∀j,j<t.size->I.cell? ⟨D,j,none⟩=some (t.getD j undef):=λj d=>by
  rw[yx e4];simp_all
 have m:∀i r,nth M i=some r->∀j,r.has j->(r.ad j).block∉cw en/\r.ad j∉(⟨A,1,none⟩::C':List Addr):=λi r b j d=>by
  have k:=h.val (i+2) r b j d;refine⟨λz=>?_,λz=>?_⟩
  .obtain⟨E,G⟩:=(v _).1 z;obtain⟨cu,c1,c2,c3⟩:=wo h (i:=1) rfl E;have Y:(r.ad j).off<s.n/\(r.ad j).spot=none:=by
    unfold World.cell? at k;rw[G,c1]at k;simp only at k;cases M5:(r.ad j).spot with
    |none=>grind
    |some q=>simp_all
   have Z:r.ad j=⟨s.E,(r.ad j).off,none⟩:=by
    cases hra:r.ad j with
    |mk o c a=>simp_all
   have:=h.sep 1 (eR s) (i+2) r rfl b rfl (0,(r.ad j).off) j ⟨by grind,Y.1⟩ d Z.symm;omega
  .rcases ak.1 z with z|z
   .have:=h.sep 0 _ (i+2) r rfl b rfl (0,1) j ⟨aD,gr 1⟩ d z.symm;omega
   grind
 refine⟨⟨D,t.size,1,λj=>t.getD j undef⟩,?_,⟨ho,.inr ⟨off,cap,e1,rfl,e2,e5,B,λj u a=>?_⟩⟩,rfl,by grind,P⟩
 .refine h.two (λi r b j d=>?_) (λi r b g e n V a=>?_) ?_ (λi r b j U d=>⟨λp N=>?_,λp N=>?_⟩)
  .obtain⟨L,T⟩:=m i r b j d;have k:=h.val (i+2) r b j d;exact⟨(Q.cellC _ _ L T k).trans k.symm,Q.Q6 _ _ L T k⟩
  .obtain⟨cu,c1,c2⟩:=a;obtain⟨c,a,_⟩:=h.row (i+2) r b g e n V;obtain⟨L,T⟩:=m i r b (0,0) c;rw[a]at L;refine⟨cu,Q.blk g cu e (0,0) L (λx a=>?_) c1,c2⟩;grind
  .have S:I.cell? ⟨A,0,none⟩=some x/\I.frozen? ⟨A,0,none⟩=false:=by
    have c:=h.val 0 _ rfl (0,0) ⟨aD,D9 1⟩;have a:A∉cw en:=λz=>by simp_all
    have B:(⟨A,0,none⟩:Addr)∉(⟨A,1,none⟩::C':List Addr):=λz=>by
     grind
    exact⟨Q.cellC _ _ a B c,(Q.Q6 _ _ a B c).trans ((h.ok 0 _ rfl (0,0) ⟨aD,D9 1⟩).2 rfl).2⟩
   have F:∀j,j<2->Ok ⟨A,j,none⟩ false/\Ok ⟨A,j,none⟩ true:=λj d=>by
    have:=h.ok 0 _ rfl (0,j) ⟨aD,d⟩;simp_all
   refine⟨λi r b j d=>?_,λi r b j d=>?_,λi r i' a b f a j U d p N=>?_,λi r b g e n V=>?_⟩
   .match i,b with
    |0,b=>
     cases b;obtain⟨H,y⟩:=j;have l:y<2:=d.2;match y,l with
     |0,_=>exact S.1
     |1,_=>exact hv
    |1,b=>cases b;exact J _ d.2
   .match i,b with
    |0,b=>
     cases b;obtain⟨H,y⟩:=j;have l:y<2:=d.2;refine⟨(F y l).1,λ_=>⟨(F y l).2,?_⟩⟩;match y,l with
     |0,_=>exact S.2
     |1,_=>exact hf
    |1,b=>cases b;simp_all
   .have a:A≠D:=by omega
    match i,b,i',f with
    |0,b,0,f=>
     cases b;cases f;obtain⟨H,y⟩:=j;obtain⟨X,k2⟩:=U;have h1:H<1:=d.1;have h2:X<1:=p.1;simp_all
    |0,b,1,f=>cases b;cases f;simp_all
    |1,b,0,f=>cases b;cases f;grind
    |1,b,1,f=>
     cases b;cases f;obtain⟨H,y⟩:=j;obtain⟨X,k2⟩:=U;have h1:H<1:=d.1;have h2:X<1:=p.1;simp_all
   .match i,b with
    |0,b=>cases b;cases V
    |1,b=>cases b;cases V;exact⟨⟨aD,B⟩,rfl,t,e4,rfl⟩
  .obtain⟨L,T⟩:=m i r b j d;obtain⟨H,y⟩:=U;have h1:H<1:=p.1;have l:y<2:=p.2;have:=h.sep 0 _ (i+2) r rfl b rfl (0,y) j ⟨aD,l⟩ d N;omega
  .obtain⟨L,T⟩:=m i r b j d;have hb:(r.ad j).block=D:=by rw[<-N]
   rcases R with ⟨E,G⟩|z
   .simp_all
   .have:=au (h.val (i+2) r b j d);omega
 simp_all
theorem Sat.bA{A:Nat}{x:ay}{b:mW}{c:jl}(h:Sat Ok w (bR A [x,en]::eR b::M))(q:O1 en b es)(t:b.c=1->A<b.E)(s:HB w.heap.size Ok)(f:b.c=1->∀(a:Addr)(wr:Bool),a.block=b.E->Ok a wr)(m:Kp (cw en) w I [⟨A,1,none⟩])(l:I.cell? ⟨A,1,none⟩=some v)(o:I.frozen? ⟨A,1,none⟩=false)(p:fZ (A+1) I v c)(d:∀g∈cw v,g∈cw en\/w.heap.size<=g)(k:0<c.length)(j:∀i r g e n,nth M i=some r->r.row=some (g,e,n)->g≠A):
 ∃b,Sat Ok I (bR A [x,v]::eR b::M)/\O1 v b c/\b.c=1/\A<b.E/\∀(a:Addr)(wr:Bool),a.block=b.E->Ok a wr:=
 h.K6 q t s f (C':=[]) (λa z=>by cases z) (λ_ _ _ _ _ z=>by cases z) m l o p d k j
def Flat(C:aW):Prop:=∀i r,nth C i=some r->r.row=none
theorem Flat.cons(h:Flat C)(a:r.row=none):Flat (r::C):=λi x b=>by
 rcases cD b with ⟨k,rfl,c⟩|⟨rfl,rfl⟩
 .exact h k x c
 .exact a
theorem Flat.nil:Flat []:=λi r h=>by cases h
theorem Flat.app(c:Flat A)(b:Flat C):Flat (A++C):=λi r a=>by
 rw[b8]at a;split at a
 .exact c i r a
 .exact b _ r a
theorem Flat.left(h:Flat (A++C)):Flat A:=λi r a=>h i r (by rw[b8,ah (qH _ _ _ a)];exact a)
theorem Flat.right(h:Flat (A++C)):Flat C:=λi r a=>h (A.length+i) r (by rw[b8,af (by omega),D4];exact a)
theorem Flat.tail(h:Flat (r::C)):Flat C:=λi x a=>h (i+1) x a
theorem Sat.Zx{c:aH}(h:Sat Ok w (A++(r::c::C))):Sat Ok w (A++(c::r::C)):=by
 refine h.map (λi=>if i=A.length then i+1 else if i=A.length+1 then A.length else i) (λi d a=>⟨d,?_,.inl rfl⟩) (λi j d a l e=>?_)
 .rw[b8]at a ⊢;by_cases b:i=A.length
  .subst b;rw[af (by omega),Nat.sub_self]at a;rw[ah rfl,af (by omega),D4];exact a
  .by_cases f:i=A.length+1
   .subst f;rw[af (by omega),D4]at a;rw[af b,ah rfl,af (by omega),Nat.sub_self];exact a
   .rw[af b,af f];split at a
    .simp_all
    .rename_i z;rw[af z];obtain⟨k,g⟩:∃k,i-A.length=k+2:=⟨i-A.length-2,by omega⟩;rw[g]at a ⊢;exact a
 grind
theorem Sat.Db{Ok:dh}{w:aj}{A C:aW}:∀{X:aW},Sat Ok w (A++(X++C))->Sat Ok w (A++C)
 |[],h=>h
 |_::X,h=>Sat.Db (X:=X) h.BC
def J4(x:Nat):Value:=.func (.func 144) #[ptr x] #[]
def fF(s:PS)(i:Nat):Int×Value:=((s.l.ag i).a,if(s.l.ag i).c=0 then s.k.sc (s.l.ag i).t.toNat else if(s.l.ag i).c=2 then s.cv i else J4 (s.wb (s.l.ag i).w.toNat))
def bA(s:PS):List (Int×Value):=s.q.map (fF s)
def fQ(ag:Nat->qy)(i j:Nat):Prop:=(ag i).a<(ag j).a\/((ag i).a=(ag j).a/\i<j)
structure QI(s:PS):Prop where
 lt:∀i∈s.q,i<s.l.al/\(s.l.ag i).o=false
 all:∀i,i<s.l.al->(s.l.ag i).o=false->i∈s.q
 pN:s.q.Pairwise (fQ s.l.ag)
 ws:∀i∈s.q,(s.l.ag i).c=0\/∃w:Nat,(s.l.ag i).w=w/\w<s.l.wl
 cv:∀i∈s.q,(s.l.ag i).c=2->∃ba bw,s.cv i=.func (.func 183) #[] #[ptr ba,ptr bw]/\Has s.cx (oR ba 0 [ptr s.k.A] false)/\Has s.cx (oR bw 0 [ptr (s.wb (s.l.ag i).w.toNat)] false)
 wt:∀w,w<s.l.wl->∃u:Nat,u<s.k.V.nc/\(s.l.wt w).t=u
structure yV(q:aN)(wl:Nat)(wt:Nat->tU)(k:Nat):Prop where
 pN:q.Pairwise (·<·)
 mem:∀w∈q,w<wl/\(wt w).l=k
 all:∀w,w<wl->(wt w).l=k->(wt w).x=false->(wt w).e=false->w∈q
theorem yV.cB{a:Nat}{wt:Nat->tU}{x:tU}(h:yV q a wt k)(c:x.l≠k):yV q (a+1) (upd wt a x) k:=by
 refine⟨h.pN,λw c=>?_,λw c b f d=>?_⟩
 .have:=h.mem w c;refine⟨by omega,?_⟩;simp only[upd];grind
 .by_cases e:w=a
  .subst e;simp[upd]at b;omega
  .simp only[upd,af e]at b f d;exact h.all w (by omega) b f d
abbrev PS.cB(s:PS)(t:Nat)(ly d:Int)(i x:Nat)(en:ay)(eb:mW):PS:={s with en:=en,eb:=eb,q:=s.q.take i++s.l.al::s.q.drop i,wb:=upd s.wb s.l.wl x,l:=s.l.wait t ly d}
theorem jT(s:PS):(bA s).length=s.q.length:=by simp[bA]
theorem xL{b:Nat->qy}(h:q.Pairwise (fQ b))(a:i<j)(c:j<q.length):fQ b (q[i]'(by omega)) q[j]:=HA.1 h i j (by omega) c a
theorem oX:∀{n:Nat}{q:aN},q.Nodup->(∀i∈q,i<n)->q.length<=n
 |0,[],_,_=>az _
 |0,i::_,_,h=>by have:=h i (bI ..);omega
 |n+1,q,a,h=>by
  have b:=oX (n:=n) (q:=q.erase n) (a.erase _) λi a=>by
   grind
  grind
theorem QI.len{s:PS}(Q:QI s):s.q.length<=s.l.al:=oX (Q.pN.imp fun{a b} h e=>by subst e;unfold fQ at h;omega) λi a=>(Q.lt i a).1
theorem QI.ins{s s1:PS}{e:qy}(Q:QI s)(hi:i<=s.q.length)(K:iM (bA s) e.a i)(g:s1.q=s.q.take i++s.l.al::s.q.drop i)(m:s1.k=s.k)(p:s1.l.al=s.l.al+1)(L:s1.l.ag=upd s.l.ag s.l.al e)(ho:e.o=false)(hw:e.c=0\/∃w:Nat,e.w=w/\w<s1.l.wl)(R:s.l.wl<=s1.l.wl)(S:∀w,w<s.l.wl->s1.wb w=s.wb w)(C:∀j,j≠s.l.al->s1.cv j=s.cv j)(X:∀r,Has s.cx r->Has s1.cx r)(P:∀w,w<s1.l.wl->∃u:Nat,u<s.k.V.nc/\(s1.l.wt w).t=u)(F:e.c=2->∃H G,s1.cv s.l.al=.func (.func 183) #[] #[ptr H,ptr G]/\Has s1.cx (oR H 0 [ptr s.k.A] false)/\Has s1.cx (oR G 0 [ptr (s1.wb e.w.toNat)] false)):QI s1/\bA s1=(bA s).take i++fF s1 s.l.al::(bA s).drop i:=by
 have b:∀j,j<s.l.al->s1.l.ag j=s.l.ag j:=λj a=>by rw[L];simp only[upd];grind
 have q:s1.l.ag s.l.al=e:=by rw[L];exact ah rfl
 have c:∀j,j∈s1.q↔j=s.l.al\/j∈s.q:=λj=>by
  rw[g]
  conv=>rhs;rhs;rw[<-va i s.q]
  grind
 have x:∀j∈s.q,(s.l.ag j).c≠0->s1.wb (s.l.ag j).w.toNat=s.wb (s.l.ag j).w.toNat:=λj a h0=>by
  rcases Q.ws j a with z|⟨w,v,I⟩
  .omega
  simp_all
 have d:∀j∈s.q,fF s1 j=fF s j:=λj a=>by
  have f:=(Q.lt j a).1;unfold fF;grind
 refine⟨⟨λj a=>?_,λj h1 F=>?_,?_,λj a=>?_,λj a M=>?_,by simp_all⟩,?_⟩
 .rcases(c j).1 a with rfl|a
  .simp_all
  .rw[b j (Q.lt j a).1,p];have:=Q.lt j a;grind
 .rw[c];by_cases e:j=s.l.al
  .exact .inl e
  .have a:j<s.l.al:=by omega
   rw[b j a]at F;exact .inr (Q.all j a F)
 .rw[g];have J:∀j∈s.q,∀k∈s.q,fQ s.l.ag j k->fQ s1.l.ag j k:=λj a k m h=>by
   unfold fQ;rw[b j (Q.lt j a).1,b k (Q.lt k m).1];exact h
  have o:=Q.pN;rw[<-va i s.q,YS]at o;obtain⟨O,N,Z⟩:=o;have t:∀j∈s.q.take i,j∈s.q:=λj a=>DW a;have B:∀j∈s.q.drop i,j∈s.q:=λj a=>DV a;rw[YS,dr];refine⟨LK (λE D h=>J _ (t _ E) _ (t _ D) h) O,⟨λj a=>?_,LK (λE D h=>J _ (B _ E) _ (B _ D) h) N⟩,λj a k m=>?_⟩
  .unfold fQ;rw[q,b j (Q.lt j (B j a)).1];left;obtain⟨n,l⟩:=u9 a;rw[DT]at l;have:=K.gt (i+n) (fF s j) (by omega) (by simp[bA,l]);exact this
  .rcases ak.1 m with rfl|m
   .unfold fQ;rw[q,b j (Q.lt j (t j a)).1];have U:(s.l.ag j).a<=e.a:=by
     obtain⟨n,l⟩:=u9 a;rw[List.getElem?_take]at l;split at l
     .rename_i T;have A:0<i:=by omega
      have f:i-1<s.q.length:=by omega
      have W:=K.le (fF s (s.q[i-1])) A (by simp[bA,f]);have V:(s.l.ag (s.q[i-1])).a<=e.a:=W;rcases Lz (show n<=i-1 by omega)with e|e
      .simp_all
      .have g:=xL Q.pN e f;have y:s.q[n]'(by omega)=j:=by grind
       rw[y]at g;rcases g with z|z
       .omega
       .omega
     .cases l
    have:=(Q.lt j (t j a)).1;omega
   simp_all
 .rcases(c j).1 a with rfl|a
  .simp_all
  .rw[b j (Q.lt j a).1];exact(Q.ws j a).imp id fun⟨w,v,I⟩=>⟨w,v,by omega⟩
 .rcases(c j).1 a with rfl|a
  .simp_all
  .rw[b j (Q.lt j a).1]at M ⊢;obtain⟨H,G,v,I,Y⟩:=Q.cv j a M;rw[m,C j (by have:=(Q.lt j a).1;omega),x j a (by omega)];grind
 .unfold bA;rw[g,List.map_append,nP,<-List.map_take,<-List.map_drop];congr 1
  .exact u7 λj a=>d j (DW a)
  .congr 1;exact u7 λj a=>d j (DV a)
theorem QI.cB{s:PS}(Q:QI s){t:Nat}(b:t<s.k.V.nc){ly d:Int}{i x:Nat}{en:ay}{eb:mW}(c:i<=s.q.length)(a:iM (bA s) (s.l.now+d) i):QI (s.cB t ly d i x en eb)/\bA (s.cB t ly d i x en eb)=(bA s).take i++(s.l.now+d,J4 x)::(bA s).drop i:=by
 have:=Q.ins (s1:=s.cB t ly d i x en eb) (e:=⟨s.l.now+d,t,s.l.wl,1,false⟩) c a rfl rfl rfl rfl rfl (.inr ⟨s.l.wl,rfl,gr _⟩) (Nat.le_succ _) (λw a=>af (iS a)) (λ_ _=>rfl) (λ_ h=>h) (λw a=>by
  by_cases e:w=s.l.wl
  .exact⟨t,b,by simp[LS.wait,LS.cB,LS.put,upd,e]⟩
  .obtain⟨u,c,b⟩:=Q.wt w (by have:w<s.l.wl+1:=a
                             omega)
   exact⟨u,c,by simp[LS.wait,LS.cB,LS.put,upd,e,b]⟩) (λz=>by cases z)
 refine⟨this.1,this.2.trans ?_⟩;congr 2;unfold fF;simp[LS.wait,LS.cB,LS.put,upd]
abbrev PS.uQ(s:PS)(n i:Nat)(en:ay)(eb:mW)(ba bw:Nat):PS:={s with en:=en,eb:=eb,q:=s.q.take i++s.l.al::s.q.drop i,cv:=upd s.cv s.l.al (.func (.func 183) #[] #[ptr ba,ptr bw]),cx:=oR ba 0 [ptr s.k.A] false::oR bw 0 [ptr (s.wb n)] false::s.cx,l:=s.l.dg n}
theorem QI.uQ{s:PS}(Q:QI s){n i:Nat}{en:ay}{eb:mW}{ba bw:Nat}(c:n<s.l.wl)(d:i<=s.q.length)(b:iM (bA s) s.l.now i):QI (s.uQ n i en eb ba bw)/\bA (s.uQ n i en eb ba bw)=(bA s).take i++(s.l.now,.func (.func 183) #[] #[ptr ba,ptr bw])::(bA s).drop i:=by
 have:=Q.ins (s1:=s.uQ n i en eb ba bw) (e:=⟨s.l.now,(s.l.wt n).t,n,2,false⟩) d b rfl rfl rfl rfl rfl (.inr ⟨n,rfl,c⟩) (az _) (λ_ _=>rfl) (λj b=>af b) (λ_ h=>h.cons.cons) (λw b=>by
  obtain⟨u,c,a⟩:=Q.wt w b;refine⟨u,c,?_⟩;by_cases e:w=n
  .subst e;simp[LS.dg,LS.put,upd,a]
  .simp[LS.dg,LS.put,upd,e,a]) (λ_=>⟨ba,bw,ah rfl,⟨rfl,0,rfl⟩,⟨rfl,1,rfl⟩⟩)
 refine⟨this.1,this.2.trans ?_⟩;congr 2;unfold fF;simp[LS.dg,LS.put,upd]
theorem Kq(F:aB prog main (DX Ok) Ψ)(L:HB B Ok){s:PS}(t:Int)(fn:Fn)(fst cap:gd)(m:Sat Ok w (pM s++C))(d:PV Ok s es)(Q:Flat C)(l:B<=w.heap.size)(O:es.length<1000000)(K:∀i en l I,i<=es.length->iM es t i->Sat Ok I (pM {s with en:=en,eb:=l}++C)->PV Ok {s with en:=en,eb:=l} (es.take i++(t,.func fn fst cap)::es.drop i)->w.heap.size<=I.heap.size->Ψ (G (cf.finish (.tuple #[])) Z) I):
 Ψ (G (Frame.enter prog 49 #[ptr s.k.A,i6 t,.func fn fst cap] .normal) (cf::Z)) w:=by
 have l:=m.ok 0 _ rfl (0,1) ⟨aD,gr 1⟩;have q:=m.val 0 _ rfl (0,1) ⟨aD,gr 1⟩;have B:=au q;have G:fZ (s.k.A+1) w s.en es:=wm (i:=1) m rfl d.en λz=>(d.eo z).1;have A:∀g,g∈cw s.en->s.eb.c=1/\g=s.eb.E:=λg f=>by
  rcases d.en.2 with ⟨p,x,U⟩|⟨o,c,p,x,_⟩
  .rw[p,bS]at f;simp[Value.ownBlock]at f
  .rw[p,bS]at f;simp[Value.ownBlock]at f;omega
 refine EX (s.k.A+1) s.k.A t fn fst cap s.en es w (by exact B) (gr _) O G q (l.2 rfl).2 l.1 (l.2 rfl).1 (λa wr h=>?_) Ψ F cf Z λv I c=>?_
 .rcases h with h|h
  .obtain⟨p,x⟩:=A _ h;exact(d.eo p).2 a wr x
  .exact L a wr (by omega)
 .obtain⟨rfl,J,N,i,P,E,T,S,c3,R⟩:=c;have c:(es.take i++(t,Value.func fn fst cap)::es.drop i).length=es.length+1:=by simp;omega
  have D:∀i r g e n,nth ([bR s.k.J [.slice s.ea s.l.el s.ec],vR s.ea 5 (λj=>yt (s.l.ev j)) s.l.el s.ec 55,sR s.ea 5 s.vv s.l.el s.ec,fR ⟨s.k.HD,0,none⟩ 1 (λj=>[i6 (s.l.us j)]) s.k.V.nc true,fR ⟨s.k.O,0,none⟩ 4 (λj=>yL (s.l.ou j,s.oh j)) s.k.V.nc true]++C) i=some r->r.row=some (g,e,n)->g≠s.k.A:=λi r g e n b f=>by
   match i,b with
   |0,b=>cases b;cases f
   |1,b=>
    cases b;cases k:s.ea with
    |none=>simp_all
    |some a=>
     obtain⟨y,u,_⟩:=m.row 3 _ rfl g e n f;intro H;rw[k]at y u;rcases d.jr.row with ⟨z,_⟩|⟨M,z,_⟩
     .simp_all
     .rw[k]at z;cases z;have c:M=g:=u;have:=m.sep 0 _ 3 _ rfl rfl rfl (0,0) (0,0) ⟨aD,D9 1⟩ (by simp_all) (by rw[k];show(⟨s.k.A,0,none⟩:Addr)=((⟨M,0,none⟩:Addr).add (0*5)).add 0;rw[add_add,c,H]);omega
   |2,b=>cases b;cases f
   |3,b=>cases b;cases f
   |4,b=>cases b;cases f
   |i+5,b=>rw[Q i r b]at f;cases f
  obtain⟨b,y,u,c,e,c⟩:=Sat.bA m d.en (λz=>(d.eo z).1) (λa wr z=>L a wr (by omega)) (λz=>(d.eo z).2) J T S c3 R (by omega) D;exact K i N b I P E y ⟨d.jr,u,λ_=>⟨e,c⟩,d.fb,d.rm,d.cx⟩ J.size
theorem uC(F:aB prog main (DX Ok) Ψ)(p:HB B Ok){s:PS}(o:Sat Ok w (pM s++C))(q:Has C (wF T s.k.A t aS))(h:t<s.k.V.nc)(u:PV Ok s (bA s))(Q:QI s)(y:Flat C)(l:∀k,k<s.k.V.nl->(s.k.V.ly k).k=5->∀w∈s.lq k,w<s.l.wl)(a:B<=w.heap.size)(v:s.q.length<1000000)(a:-4611686018427387904<=s.l.now+d)(a:s.l.now+d<4611686018427387904)(K:∀i x en c I,Sat Ok I (pM (s.cB t ly d i x en c)++(bR x [ptr T,i6 0]::C))->PV Ok (s.cB t ly d i x en c) (bA (s.cB t ly d i x en c))->QI (s.cB t ly d i x en c)->i<=s.q.length->w.heap.size<=x->x<I.heap.size->Ψ (G (cf.finish (ptr x)) Z) I):
 Ψ (G (Frame.enter prog 152 #[ptr T,i6 d] .normal) (cf::Z)) w:=by
 replace o:=o.get (q.app (pM s));refine cJ func152 o 26 λa a b a e n a j f=>?_;have g:IntKind.wrap .i64 (s.l.now+d)=s.l.now+d:=aA (by omega) (by omega);refine aq F p e a j 13 [1,0,0,1,1,0,0,1,2,0,0,1] [] [15] [(23,.func (Fn.func 144) #[ptr b] #[]),(21,i6 (IntKind.wrap .i64 (s.l.now+d))),(12,ptr s.k.A),(5,ptr b)] (λM=>bR (b) [ptr T,i6 0]::(M)) 1 13 1 [15] λa j r a f f f=>?_;rw[g]at r;refine bu F e a r 24 49 #[ptr s.k.A,i6 (s.l.now+d),.func (Fn.func 144) #[ptr b] #[]] λa f=>?_;have a:Sat Ok j (pM s++(bR b [ptr T,i6 0]::C)):=Sat.back (A:=pM s) (Sat.BC (A:=[bR b [ptr T,i6 0]]) r.sat);refine Kq F p (s.l.now+d) (.func 144) #[ptr b] #[] a u (y.cons rfl) (by omega) (by rw[jT];exact v) λi en c a m j q a u=>f _ _ _ q λf f u f q=>?_;rw[jT]at m;refine bB F p e n f u 6 [] [] [] 4 (ptr b) (λM=>M) 0 20 1 [15] λn p e e=>?_;obtain⟨q,f⟩:=Q.cB (t:=t) h (ly:=ly) (x:=b) (en:=en) (eb:=c) m j;have e:PV Ok (s.cB t ly d i b en c) (bA (s.cB t ly d i b en c)):=by rw[f];exact⟨a.jr,a.en,a.eo,a.fb,λk d f=>(a.rm k d f).wb λw g=>af (iS (l k d f w g)),a.cx⟩
 exact K i b en c n p.sat e q m (by omega) (by omega)
theorem pL(F:aB prog main (DX Ok) Ψ)(l:HB B Ok){s:PS}{e:Bool}(a:Sat Ok w (pM s++(dO T v e::C)))(m:Has C (wF T s.k.A t aS))(f:t<s.k.V.nc)(o:PV Ok s (bA s))(Q:QI s)(q:Flat C)(j:∀k,k<s.k.V.nl->(s.k.V.ly k).k=5->∀w∈s.lq k,w<s.l.wl)(b:B<=w.heap.size)(p:s.q.length<1000000)(h:-4611686018427387904<=s.l.now+d)(g:s.l.now+d<4611686018427387904)(K:∀i x en b I,Sat Ok I (pM (s.cB t ly d i x en b)++(dO T (ptr x) e::bR x [ptr T,i6 0]::C))->PV Ok (s.cB t ly d i x en b) (bA (s.cB t ly d i x en b))->QI (s.cB t ly d i x en b)->i<=s.q.length->w.heap.size<=x->x<I.heap.size->Ψ (G (cf.finish (ptr x)) Z) I):
 Ψ (G (Frame.enter prog 162 #[ptr T,i6 d] .normal) (cf::Z)) w:=by
 refine cJ func162 a 15 λa a a a a k c n e=>aq F l a c n 9 [] [] [] [(7,i6 d),(6,ptr T),(5,ptr T),(0,ptr T)] (λM=>M) 0 9 1 [] λc c e c n n n=>bu F a c e 8 152 #[ptr T,i6 d] λc c=>uC (ly:=ly) F l e.sat (m.cons) f o Q (q.cons rfl) j (by omega) p h g λi x en b e m e j g f f=>c _ _ _ m λc c h c f=>bB F l a k c h 12 [8,0,0,1,8,0,0,1] [] [] 4 (ptr x) (λM=>bh 8 (0,0) (ptr x) (M)) 0 22 1 [] λa f c c=>K i x en b a (Sat.Zx (A:=pM (s.cB t ly d i x en b)) f.sat) e j g (by omega) (by omega)
def Dv(k:PK)(j:Nat):Value:=if j=k.V.nl then .iface 138 (ptr (k.lb j))else if(k.V.ly j).k=1 then .iface 141 (ptr (k.lb j))else if(k.V.ly j).k=3 then .iface 147 (ptr (k.lb j))else if(k.V.ly j).k=4 then .iface 150 (ptr (k.lb j))else if(k.V.ly j).k=5 then .iface 155 (ptr (k.lb j))else .iface 144 (ptr (k.lb j))
structure yF(k:PK)(C:aW):Prop where
 lay:∀j,j<k.V.nl->Has C (tQ (k.lb j) (Dv k (j+1)) j k.J)
 Ig:∀j,j<k.V.nl->(k.V.ly j).k=1->Has C (oR (k.lb j) 3 [i6 (k.V.ly j).a,i6 (k.V.ly j).b,i6 (k.V.ly j).c,i6 (k.V.ly j).d] false)
 Mi:∀j,j<k.V.nl->(k.V.ly j).k=3->Has C (oR (k.lb j) 3 [i6 (k.V.ly j).a,i6 (k.V.ly j).b] false)
 Lh:∀j,j<k.V.nl->(k.V.ly j).k=4->Has C (oR (k.lb j) 3 [i6 (k.V.ly j).a,i6 (k.V.ly j).b,i6 (k.V.ly j).c,i6 (k.V.ly j).d,i6 (k.V.ly j).e] false)
 Kj:∀j,j<k.V.nl->(k.V.ly j).k=5->Has C (oR (k.lb j) 3 [i6 (k.V.ly j).a,i6 (k.V.ly j).b] false)
 OV:Has C (tQ (k.lb k.V.nl) .nilIface (-1) k.J)
 Wk:Has C (oR (k.lb k.V.nl) 3 [.slice (some k.ca) k.V.nc k.cc,.slice (some ⟨k.HD,0,none⟩) k.V.nc k.V.nc] false)
 OT:Has C (fR k.ca 2 (λj=>[i6 (k.V.st j),.slice (k.dL j) (k.V.nt j) (k.eu j)]) k.V.nc false)
 xm:∀c,c<k.V.nc->0<k.V.nt c->∃ta,k.dL c=some ta/\Has C (fR ta 3 (λj=>s9 (k.V.tr c j)) (k.V.nt c) false)
 nH:∀i,i<k.V.nc->Has C (wF (k.T i) k.A i (k.aS i))
 err:Has C (oR 0 0 [.iface 217 (.agg #[.pointer (some ⟨1,121,none⟩)])] false)
theorem yF.cons{k:PK}{C:aW}{r:aH}(h:yF k C):yF k (r::C):=⟨λj a=>(h.lay j a).cons,λj a b=>(h.Ig j a b).cons,λj a b=>(h.Mi j a b).cons,λj a b=>(h.Lh j a b).cons,λj a b=>(h.Kj j a b).cons,h.OV.cons,h.Wk.cons,h.OT.cons,λc b z=>by
 obtain⟨a,e,d⟩:=h.xm c b z;exact⟨a,e,d.cons⟩,λi a=>(h.nH i a).cons,h.err.cons⟩
theorem yF.app{k:PK}{C:aW}(h:yF k C):∀A:List aH,yF k (A++C)
 |[]=>h
 |_::A=>(h.app A).cons
structure Gq(t:Nat)(s0 s:PS):Prop where
 k:s.k=s0.k
 q:s.q=s0.q
 wb:s.wb=s0.wb
 al:s.l.al=s0.l.al
 ag:s.l.ag=s0.l.ag
 wl:s.l.wl=s0.l.wl
 wt:s.l.wt=s0.l.wt
 now:s.l.now=s0.l.now
 tl:s.l.tl=s0.l.tl
 tk:∀j,j≠t->s.l.tk j=s0.l.tk j
 us:∀j,j≠t->s.l.us j=s0.l.us j
 ou:∀j,j≠t->s.l.ou j=s0.l.ou j/\s.oh j=s0.oh j
structure Gc(s0 s:PS)(w i:Nat):Prop where
 k:s.k=s0.k
 q:s.q=s0.q.take i++s0.l.al::s0.q.drop i
 wb:s.wb=s0.wb
 oh:s.oh=s0.oh
 l:s.l=s0.l.dg w
 wn:w<s0.l.wl
 x:(s0.l.wt w).x=false
 e:(s0.l.wt w).e=false
 r:∃k:Nat,(s0.l.wt w).l=k/\k<s0.k.V.nl/\(s0.k.V.ly k).k=5
def Gu(t:Nat)(s0 s:PS):Prop:=∀P:PS->Prop,P s0->(∀a b,P a->Gq t a b->P b)->(∀a b w i,P a->Gc a b w i->P b)->P s
theorem Gu.refl(t:Nat)(s:PS):Gu t s s:=λ_ h _ _=>h
theorem Gu.trans{b a s2:PS}(h:Gu t b a)(d:Gq t a s2):Gu t b s2:=λP c a b=>a _ _ (h P c a b) d
theorem Gu.uQ{c b a:PS}{w:Nat}(h:Gu t c b)(d:Gc b a w i):Gu t c a:=λP c b a=>a _ _ _ _ (h P c b a) d
structure TE(S:Type) where
 Ok:S->Addr->Bool->Prop
 Ψ:S->Goroutine->World->Prop
 Bd:S->Nat
 O:S->List aH
 s0:S->PS
 pS:S->Nat
abbrev TE.P{S:Type}(E:TE S)(p:S)(s:PS):List aH:=gS s++E.O p
structure Cn{S:Type}(E:TE S)(D:PK)(t:Nat)(p:S)(s:PS)(w:aj)(v:ay)(R:aW):Prop where
 sat:Sat (E.Ok p) w (pM s++(dO (D.T t) v false::(R++E.P p s)))
 pv:PV (E.Ok p) s (bA s)
 qi:QI s
 fl:Flat (R++E.O p)
 eH:yF D R
 bd:E.Bd p<=w.heap.size
 gu:Gu t (E.s0 p) s
 hk:s.k=D
 ln:∀k,k<D.V.nl->(D.V.ly k).k=5->yV (s.lq k) s.l.wl s.l.wt k
def u0(V:Ev0)(U:LS)(m t wn:Nat)(c:Int)(L:LS):Prop:=qm V t L/\((c=1/\(L.wt wn).l=V.nl/\∃y ch,(L.wt wn).b.ch=y::ch/\Fin V U m (some (t,V.nl,some ⟨(L.wt wn).b.k,(L.wt wn).b.n,ch⟩)) (L.say t (-1) 2 y.n))\/
 (∃k:Nat,k<V.nl/\(L.wt wn).l=k/\((c=1/\(V.ly k).k=1/\Fin V U m (some (t,k+1,none)) L)\/((V.ly k).k=5/\c=1/\Fin V U m (some (t,k,some (c9 3 k 0))) (L.say t k 7 0))\/((V.ly k).k=5/\c=2/\Fin V U m (some (t,k+1,none)) (L.say t k 13 0)))))
def LS.tH(L:LS)(wn:Nat)(b:Bk):LS:={L with wt:=upd L.wt wn {L.wt wn with b:=b}}
theorem E4(L:LS)(n:Nat)(b:Bk)(w:Nat):((L.tH n b).wt w).t=(L.wt w).t:=by
 unfold LS.tH upd;grind
structure JV(t:Nat)(s s1:PS)(ly d:Int)(i x:Nat)(b:Bk):Prop where
 k:s1.k=s.k
 q:s1.q=s.q.take i++s.l.al::s.q.drop i
 wb:s1.wb=upd s.wb s.l.wl x
 oh:s1.oh=s.oh
 l:s1.l=(s.l.wait t ly d).tH s.l.wl b
structure jF{S:Type}(E:TE S)(D:PK)(U:LS)(t:Nat):Prop where
 V:wM D.V
 tn:t<D.V.nc
 f:∀p,aB prog false (DX (E.Ok p)) (E.Ψ p)
 hB:∀p (a:Addr) (wr:Bool),E.Bd p<=a.block->E.Ok p a wr
 wait:∀(p:S)(s s1:PS)(w:aj)(i x:Nat)(ly:Nat)(d:Int)(b:Bk)(c:aC)(Z:cO)(R:aW)(v:ay)(m:Nat),Gu t (E.s0 p) s->s.k=D->ly<=D.V.nl->JV t s s1 ly d i x b->
  Sat (E.Ok p) w (pM s1++(dO (D.T t) v false::(R++E.P p s1)))->PV (E.Ok p) s1 (bA s1)->QI s1->(∀k,k<D.V.nl->(D.V.ly k).k=5->yV (s1.lq k) s1.l.wl s1.l.wt k)->(∀k,k<D.V.nl->(D.V.ly k).k=5->(s1.f k).s=true->(s1.f k).g≠x)->Flat (R++E.O p)->yF D R->E.Bd p<=w.heap.size->Fin D.V U m none s1.l->m<=E.pS p->
  (∀p' s' I m' (z:Int),m'<m->m'<=E.pS p'->Cn E D t p' s' I v R->u0 D.V U m' t s.l.wl z s'.l->(s'.l.wt s.l.wl).l=ly->(ly=D.V.nl->(s'.l.wt s.l.wl).b=b)->(s'.l.tk t).a=(s.l.tk t).a->s'.l.us t=s.l.us t->(s'.l.tk t).q=(s.l.tk t).q->E.Ψ p' (G (c.finish (i6 z)) Z) I)->
  E.Ψ p (G (Frame.enter prog 153 #[ptr x] .normal) (c::Z)) w
theorem K4{s:PS}(b:k<s.k.V.nl):∀r∈gR (s.k.V.ly k) (s.k.lb k) (s.l.gt k) (s.f k) (s.lq k),r∈gS s:=λr a=>gU _ (mL.2 ⟨k,aZ.2 b,a⟩)
theorem V6{y:ju}{g:Gt}{f:Fb}(a:y.k=5):fR ⟨f.g,f.o,none⟩ 1 f.v (rK f) true∈gR y lb g f q:=by unfold gR;simp_all
theorem EN{s:PS}(h:Sat Ok w M)(b:∀r∈gS s,r∈M)(a:k<s.k.V.nl)(c:(s.k.V.ly k).k=5)(d:(s.f k).s=true):(s.f k).g<w.heap.size:=by
 have d:=b _ (K4 a _ (V6 c));obtain⟨i,a⟩:=u9 d;have b:=h.val i _ (by rw[dF];exact a) (0,0) ⟨by show 0<rK (s.f k);unfold rK;grind,aD⟩;exact au b
theorem Cn.row{E:TE S}{D:PK}{p:S}{s:PS}(C:Cn E D t p s w v R)(c:k<D.V.nl)(d:(D.V.ly k).k=5)(a:(s.f k).s=true):(s.f k).g<w.heap.size:=
 EN C.sat (λr b=>gF _ (aP _ (gF _ (gU _ b)))) (by rw[C.hk];exact c) (by rw[C.hk];exact d) a
theorem Cn.TJ{E:TE S}{D:PK}{p:S}{s:PS}(C:Cn E D t p s w v R):Flat (R++E.P p s):=C.fl.left.app (Flat.app (λi r b=>r9 s (λr a=>(C.pv.cx r a).2) r (by rw[dF]at b;grind)) C.fl.right)
theorem Sat.Es{a b:ay}(h:Sat Ok w (bR x [a,b]::M)):Sat Ok w (oR x 1 [b] true::oR x 0 [a] false::M):=by
 rw[sat_iff]at h ⊢;obtain⟨q,l⟩:=h;have H:=q _ (bI ..);have i:∀{o:Nat}{v:ay}{wr:Bool}(j:Ix),(oR x o [v] wr).has j->j=(0,0):=fun{o v wr} j c=>by
  obtain⟨q,l⟩:=c;grind
 have p:(bR x [a,b]).has (0,0):=⟨aD,(by decide:0<2)⟩;have m:(bR x [a,b]).has (0,1):=⟨aD,(by decide:1<2)⟩;refine⟨λr f=>?_,dr.2 ⟨λr f a j k c d e=>?_,dr.2 ⟨λr f a j k c d e=>?_,(dr.1 l).2⟩⟩⟩
 .rcases ak.1 f with rfl|f
  .exact⟨λj c=>by rw[i j c];exact H.val (0,1) m,λj c=>by rw[i j c];exact H.ok (0,1) m,λ_ j k c d _=>by rw[i j c,i k d],λg e n z=>by cases z⟩
  .rcases ak.1 f with rfl|f
   .exact⟨λj c=>by rw[i j c];exact H.val (0,0) p,λj c=>by rw[i j c];exact⟨(H.ok (0,0) p).1,λz=>(by cases z)⟩,λz=>(by cases z),λg e n z=>(by cases z)⟩
   grind
 .rw[i j c]at e;rcases ak.1 f with rfl|f
  .rw[i k d]at e;simp at e
  .exact(dr.1 l).1 r f (.inl rfl) (0,1) k m d e
 .rw[i j c]at e;exact(dr.1 l).1 r f (.inl rfl) (0,0) k p d e
abbrev PS.O4(s:PS)(t:Nat)(ly d:Int)(i x:Nat)(en:ay)(eb:mW)(b:Bk):PS:={s.cB t ly d i x en eb with l:=(s.l.wait t ly d).tH s.l.wl b}
theorem zk{s a:PS}(W:JV t s a ly d i x b):wS a=wS s++[oR x 1 [i6 0] true,oR x 0 [ptr (s.k.T t)] false]:=by
 have c:a.l.wl=s.l.wl+1:=by rw[W.l];rfl
 have b:∀j,j<s.l.wl->wR a j=wR s j:=λj b=>by
  unfold wR;rw[W.k,W.wb,W.l];simp only[LS.tH,LS.wait,LS.cB,LS.put,upd,af (iS b)]
 have b:wR a s.l.wl=[oR x 1 [i6 0] true,oR x 0 [ptr (s.k.T t)] false]:=by
  unfold wR;rw[W.k,W.wb,W.l];simp[LS.tH,LS.wait,LS.cB,LS.put,upd,nJ]
 unfold wS;rw[c,rj,yZ,List.flatMap_singleton,b,List.flatMap_def,List.flatMap_def];congr 2;simp_all
theorem NL{s a:PS}(W:JV t s a ly d i x b)(d:a.f=s.f)(c:a.lq=s.lq)(b:a.cx=s.cx):(gS a).Perm (oR x 1 [i6 0] true::oR x 0 [ptr (s.k.T t)] false::gS s):=by
 have e:gA a=gA s:=by unfold gA;rw[W.k,d,c,W.l];rfl
 unfold gS;rw[e,zk W,b];have h:=fA (gA s++wS s) [oR x 1 [i6 0] true,oR x 0 [ptr (s.k.T t)] false] s.cx;simp_all
theorem Sat.cB{s a:PS}(W:JV t s a ly d i x b)(d:a.f=s.f)(c:a.lq=s.lq)(b:a.cx=s.cx){B:aW}(h:Sat Ok w (bR x [ptr (s.k.T t),i6 0]::(A++(gS s++B)))):Sat Ok w (A++(gS a++B)):=by
 refine h.Es.perm ?_;have a:=((NL W d c b).append_right B).append_left A;refine List.Perm.trans ?_ a.symm;have:=fA [oR x 1 [i6 0] true,oR x 0 [ptr (s.k.T t)] false] A (gS s++B);simp_all
section
variable{E:TE S}{D:PK}{U:LS}
theorem HX(W:jF E D U t){p:S}{s:PS}(C:Cn E D t p s w v R)(l:s.l.al<1000000)(a:0<=s.l.now/\s.l.now<1000000000000)(a:0<=d/\d<=100000)(b:Bk)(X:Fin D.V U m none ((s.l.wait t D.V.nl d).tH s.l.wl b))(J:m<=E.pS p)(K:∀h g I n,n<m->n<=E.pS h->Cn E D t h g I v R->u0 D.V U n t s.l.wl 1 g.l->(g.l.wt s.l.wl).l=(D.V.nl:Int)->(g.l.wt s.l.wl).b=b->(g.l.tk t).a=(s.l.tk t).a->g.l.us t=s.l.us t->(g.l.tk t).q=(s.l.tk t).q->E.Ψ h (G (c.finish (.tuple #[])) Z) I):
 E.Ψ p (G (Frame.enter prog 150 #[ptr (D.T t),i6 d] .normal) (c::Z)) w:=by
 have F:=W.f p;have y:=W.hB p;have a:=C.bd;have a:=C.sat;refine cJ func150 a 8 λa a a a f N a q c=>aq F y f a q 3 [] [] [] [(5,i6 d),(4,ptr (D.T t))] (λM=>M) 0 3 1 [] λa a r a c c c=>bu F f a r 6 152 #[ptr (D.T t),i6 d] λa q=>?_;have c:=C.hk;refine uC (t:=t) (aS:=D.aS t) (ly:=D.V.nl) F y r.sat (by rw[c];exact((C.eH.nH t W.tn).pre _).cons) (by rw[c];exact W.tn) C.pv C.qi (C.TJ.cons rfl) (λk r A w G=>((C.ln k (by simp_all) (by simp_all)).mem w G).1) (by omega) (Nat.lt_of_le_of_lt C.qi.len l) (by omega) (by omega) λi x en B V O a l Q Q Q=>q _ _ _ O λq q T q Q=>GM F f q 7 153 #[ptr x] (by kernel_rfl) (by kernel_rfl) (by decide) T λq o=>?_;have Q:JV t s (s.O4 t D.V.nl d i x en B b) D.V.nl d i x b:=⟨rfl,rfl,rfl,rfl,rfl⟩;refine W.wait p s (s.O4 t D.V.nl d i x en B b) V i x D.V.nl d b q _ R v m C.gu C.hk (az _) Q ?_ ⟨a.jr,a.en,a.eo,a.fb,a.rm,a.cx⟩ ⟨l.lt,l.all,l.pN,l.ws,l.cv,λw G=>by obtain⟨u,a,O⟩:=l.wt w G;exact⟨u,a,(E4 ..).trans O⟩⟩ (λk r A=>?_) (λk r A a=>by have:=C.row r A a;grind) C.fl C.eH (by omega) X J λh g a n z H L P f1 f2 f3 f4 f5 f6=>?_
 .refine Sat.cB Q rfl rfl rfl (A:=pM (s.cB t D.V.nl d i x en B)++(dO (D.T t) v false::R)) (B:=E.O p) ?_|>.perm (by rfl);rw[c,dU];exact T.sat.perm eY
 .have:=(C.ln k r A).cB (x:=⟨t,D.V.nl,false,false,b⟩) (by simp;omega);have e:(s.O4 t D.V.nl d i x en B b).l.wt=upd s.l.wt s.l.wl ⟨t,D.V.nl,false,false,b⟩:=by funext j;simp only[LS.tH,LS.wait,LS.cB,LS.put,upd];simp_all
  rw[e];exact this
 obtain⟨rfl,a⟩:z=1/\True:=by
  refine⟨?_,trivial⟩;rcases f1.2 with z|⟨k,a,a,_⟩
  .exact z.1
  .omega
 refine o.ret _ _ _ _ _ P.sat λa a c a b=>?_;have b:=P.bd;replace F:=W.f h;replace y:=W.hB h;refine aq F y f a c 1 [] [] [] [] (λM=>M) 0 6 1 [] λa c b a d d d=>cC F b f N a [] (.tuple #[]) ?_;exact K h g c n H L {P with sat:=b.sat,bd:=by omega} f1 f2 (f3 rfl) f4 f5 f6
end
abbrev O3(Ok:dh)(Ψ:gi)(B:Nat)(M:aW)(f:Nat)(args:gd)(v:ay):Prop:=∀(cf:aC)(Z:cO)(I:aj)(M':aW),(∀r,Has M r->Has M' r)->Sat Ok I M'->B<=I.heap.size->(∀w2,Sat Ok w2 M'->I.heap.size<=w2.heap.size->Ψ (G (cf.finish v) Z) w2)->Ψ (G (Frame.enter Tryz.prog f args .normal) (cf::Z)) I
abbrev PS.yK(s:PS)(t:Nat)(n:Int):PS:={s with l:={s.l with us:=upd s.l.us t n}}
theorem JF(F:aB prog main (DX Ok) Ψ)(m:HB B Ok){s:PS}(i:Sat Ok w (pM s++C))(a:yF s.k C)(b:t<s.k.V.nc)(k:s.l.us t=n)(c:n<1000000)(c:B<=w.heap.size)(K:∀I,Sat Ok I (pM (s.yK t (n+1))++C)->w.heap.size<=I.heap.size->Ψ (G (cf.finish (.tuple #[i6 n,.agg (s9 (aU s.k.V t n)).toArray])) Z) I):
 Ψ (G (Frame.enter prog 147 #[ptr (s.k.lb s.k.V.nl),i6 t] .normal) (cf::Z)) w:=by
 replace i:=(i.get (a.Wk.app (pM s))).get ((a.OT.app (pM s)).cons);have D:IntKind.wrap .i64 ((n:Int)+1)=(n:Int)+1:=aA (by omega) (by omega);by_cases l:n<s.k.V.nt t
 .obtain⟨c,x,c⟩:=a.xm t b (by omega);replace i:=i.get ((c.app (pM s)).cons.cons);refine cJ func147 i 43 λN Q b L a h g B u=>aX F m a g B 26 [3,0,1,1,9,t,0,101,3,0,1,1,9,t,0,101] [2,2] [] [(22,i6 (IntKind.wrap .i64 (s.l.us t+1))),(19,i6 t),(18,.slice (some ⟨s.k.HD,0,none⟩) s.k.V.nc s.k.V.nc),(6,i6 (s.l.us t)),(5,ptr b),(0,ptr (s.k.lb s.k.V.nl)),(1,i6 t)] (λM=>bR (b) [i6 0,i6 0,i6 0]::(M)) 1 26 1 [] [] [((↑t:Int),s.k.V.nc),((↑t:Int),s.k.V.nc)] [(2,(t,s.k.V.nc))] λP H p d r w A=>?_;rw[k,D]at p;refine aX F m a d p 25 [9,t,0,101,3,0,0,1,2,t,1,101] [2,2,2] [] [(7,.slice (s.k.dL t) (s.k.V.nt t) (s.k.eu t)),(6,i6 n),(5,ptr b)] (λM=>bh 9 (t,0) (i6 ((↑n:Int)+1)) (M)) 1 51 3 [] [(decide ((↑n:Int)<(↑(s.k.V.nt t):Int)),true)] [((↑t:Int),s.k.V.nc),((↑t:Int),s.k.V.nc)] [(2,(t,s.k.V.nc))] λO C o c q v y=>?_;rw[x]at o;refine aX F m a c o 3 [1,n,0,103,0,0,0,3] [2] [6] [(4,i6 n),(5,ptr b)] (λM=>bh 0 (0,2) (i6 (s.k.V.tr t n).t) (bh 0 (0,1) (i6 (s.k.V.tr t n).n) (bh 0 (0,0) (i6 (s.k.V.tr t n).k) (M)))) 1 54 3 [6] [] [((↑n:Int),s.k.V.nt t)] [(3,(n,s.k.V.nt t))] λx G E x J J J=>cC F E a h x [0,0,0,3] (.tuple #[i6 n,.agg #[i6 (s.k.V.tr t n).k,i6 (s.k.V.tr t n).n,i6 (s.k.V.tr t n).t]]) ?_;have e:aU s.k.V t n=s.k.V.tr t n:=by unfold aU;rw[ah l]
  rw[e]at K;exact K G (E.sat.tail.tail.tail.tail.re 5 rfl rfl _ λj _ f _=>fT (C:=λz=>[i6 z]) rfl aD j f) (by omega)
 .refine cJ func147 i 43 λN Q b L a h g B u=>aX F m a g B 26 [2,0,1,1,8,t,0,101,2,0,1,1,8,t,0,101] [2,2] [] [(22,i6 (IntKind.wrap .i64 (s.l.us t+1))),(19,i6 t),(18,.slice (some ⟨s.k.HD,0,none⟩) s.k.V.nc s.k.V.nc),(6,i6 (s.l.us t)),(5,ptr b),(0,ptr (s.k.lb s.k.V.nl)),(1,i6 t)] (λM=>bR (b) [i6 0,i6 0,i6 0]::(M)) 1 26 1 [] [] [((↑t:Int),s.k.V.nc),((↑t:Int),s.k.V.nc)] [(2,(t,s.k.V.nc))] λP H p d r w A=>?_;rw[k,D]at p;refine aX F m a d p 32 [8,t,0,101,2,0,0,1,1,t,1,101,0,0,0,3] [2,2,0] [] [(4,i6 n),(5,ptr b)] (λM=>bh 8 (t,0) (i6 ((↑n:Int)+1)) (bh 0 (0,0) (i6 1) (M))) 1 58 2 [] [(decide ((↑n:Int)<(↑(s.k.V.nt t):Int)),false)] [((↑t:Int),s.k.V.nc),((↑t:Int),s.k.V.nc)] [(2,(t,s.k.V.nc))] λO C o c q v y=>cC F o a h c [0,0,0,3] (.tuple #[i6 n,.agg #[i6 1,i6 0,i6 0]]) ?_;have e:aU s.k.V t n=⟨1,0,0⟩:=by unfold aU;rw[af l]
  rw[e]at K;exact K C (o.sat.tail.tail.tail.re 5 rfl rfl _ λj _ f _=>fT (C:=λz=>[i6 z]) rfl aD j f) (by omega)
def Yu(C:aW):Value->List iN->Prop
 |e,[]=>e=.nilIface
 |e,x::ch=>∃q e',e=.iface 168 (ptr q)/\Has C (oR q 0 [i6 x.k,i6 x.l,i6 x.n,e'] false)/\Yu C e' ch
theorem Yu.up{C a:aW}(h:∀r,Has C r->Has a r):∀{ch:List iN}{e:ay},Yu C e ch->Yu a e ch
 |[],_,a=>a
 |_::_,_,⟨q,f,d,c,b⟩=>⟨q,f,d,h _ c,b.up h⟩
def Ov(C:aW)(r:Value ⊕ Value)(b:Bk):Prop:=(b.k=1/\r=.inl (.tuple #[i6 b.n,.nilIface]))\/(b.k=2/\∃e,r=.inl (.tuple #[i6 0,e])/\Yu C e b.ch)\/(b.k=3/\r=.inr (.iface 166 (i6 b.n)))
theorem QI.dI{s:PS}(Q:QI s)(c a:Nat)(b:eX)(t:Nat)(num q n:Int):QI (s.dI c a b (s.l.say t num q n)):=⟨Q.lt,Q.all,Q.pN,Q.ws,Q.cv,Q.wt⟩
theorem gY{a:aH}:(r::(A++(a::(R++O)))).Perm (A++(a::((r::R)++O))):=by
 have:=(eY (a:=r) (l₁:=A++[a]) (l₂:=R++O)).symm;simpa using this
theorem Cy{a b:aH}:(A++(a::b::(R++O))).Perm (b::(A++((a::R)++O))):=by
 have:=eY (a:=b) (l₁:=A++[a]) (l₂:=R++O);simpa using this
theorem Sat.fix{q:Nat}(h:Sat Ok w (bR q vs::M)):Sat Ok w (oR q 0 vs false::M):=
 h.G7 0 rfl (oR q 0 vs false) (λj a=>⟨a,by show(⟨q,0+j.2,none⟩:Addr)=⟨q,j.2,none⟩;rw[bK],rfl⟩) (λz=>by cases z) rfl
theorem Sat.cast{a:aW}(h:Sat Ok w M)(e:M=a):Sat Ok w a:=e▸h
theorem Cw{a:aH}:(X++(A++(a::(R++O)))).Perm (A++(a::((X++R)++O))):=by
 have:=fA X (A++[a]) (R++O);simpa using this
theorem gM{a:aH}:(A++(a::((X++(Y++R))++O))).Perm (Y++(A++(a::((X++R)++O)))):=by
 have:=fA (A++(a::X)) Y (R++O);simpa using this
theorem Sat.yg{q:Nat}(A:aW)(h:Sat Ok w (A++(bR q vs::M))):Sat Ok w (A++(oR q 0 vs false::M)):=
 (h.perm eY).fix.perm eY.symm
theorem Sat.ED{Z:aW}(h:Sat Ok w M)(b:∀r∈Z,Has M r):Sat Ok w Z:=h.dB λi r a=>by
 have:=b r (by rw[dF]at a;exact sQ a);exact⟨this.1,this.2⟩
theorem Has.in{a:aH}(h:Has R r):Has (A++(a::((X++R)++O))) r:=((h.app X).pre O).cons.app A
theorem bO:Flat M↔∀r∈M,r.row=none:=⟨λh r b=>by
 obtain⟨i,a⟩:=u9 b;exact h i r (by rw[dF];exact a),λh i r a=>h r (by rw[dF]at a;exact sQ a)⟩
theorem Flat.OC(h:Flat ((X++(Y++R))++O)):Flat ((X++R)++O):=by
 rw[bO]at h ⊢;intro r a;refine h r ?_;simp only[dJ]at a ⊢;rcases a with (z|z)|z
 .exact .inl (.inl z)
 .exact .inl (.inr (.inr z))
 .exact .inr z
theorem AJ(A:aW){q:Nat}{b a:aH}(h:Sat Ok w (bR q vs::r::(A++(a::(b::R++O))))):Sat Ok w (A++(a::(([oR q 0 vs false]++R)++O))):=
 ((Sat.BC (A:=[oR q 0 vs false]) h.fix).perm (gY (A:=A))).sub (nN (List.Sublist.cons_cons _ (List.Sublist.cons_cons _ (List.sublist_cons_self _ _))) _)
theorem AK(A:aW){b a:aH}(h:Sat Ok w (A++(a::(b::R++O)))):Sat Ok w (A++(a::(R++O))):=
 h.sub (nN (List.Sublist.cons_cons _ (List.sublist_cons_self _ _)) _)
section
variable{E:TE S}{D:PK}{U:LS}
theorem iU(W:jF E D U t){p:S}{s:PS}(C:Cn E D t p s w v R)(d:s.l.el<1000000)(b:(s.l.tk t).c=t){q n:Int}(e:Has R (tQ lb wi num D.J))(K:∀a I,Cn E D t p a I v R->a.l=s.l.say t num q n->w.heap.size<=I.heap.size->E.Ψ p (G (c.finish (.tuple #[])) Z) I):
 E.Ψ p (G (Frame.enter prog 149 #[ptr lb,ptr (D.T t),i6 q,i6 n] .normal) (c::Z)) w:=by
 have a:=C.hk;refine Er (W.f p) (W.hB p) (t:=t) (aS:=D.aS t) (wi:=wi) (num:=num) C.sat (by rw[a];exact(e.pre _).cons) (by rw[a];exact((C.eH.nH t W.tn).pre _).cons) C.pv.jr C.bd d b λg b c I f d e=>K (s.dI g b c (s.l.say t num q n)) I ⟨f,⟨d,C.pv.en,C.pv.eo,C.pv.fb,C.pv.rm,C.pv.cx⟩,C.qi.dI _ _ _ _ _ _ _,C.fl,C.eH,aT C.bd e,C.gu.trans ⟨rfl,rfl,rfl,rfl,rfl,rfl,rfl,rfl,rfl,λ_ _=>rfl,λ_ _=>rfl,λ_ _=>⟨rfl,rfl⟩⟩,a,C.ln⟩ rfl e
theorem ML(W:jF E D U t){p:S}{s:PS}(C:Cn E D t p s w v R)(f:s.l.us t=n)(e:n<1000000)(K:∀a I,Cn E D t p a I v R->a.l={s.l with us:=upd s.l.us t (n+1)}->w.heap.size<=I.heap.size->E.Ψ p (G (c.finish (.tuple #[i6 n,.agg (s9 (aU D.V t n)).toArray])) Z) I):
 E.Ψ p (G (Frame.enter prog 147 #[ptr (D.lb D.V.nl),i6 t] .normal) (c::Z)) w:=by
 have a:=C.hk;refine a▸JF (W.f p) (W.hB p) (t:=t) (n:=n) C.sat (by rw[a];exact yF.cons (by
  have:=C.eH;exact⟨λj b=>(this.lay j b).pre _,λj b d=>(this.Ig j b d).pre _,λj b d=>(this.Mi j b d).pre _,λj b d=>(this.Lh j b d).pre _,λj b d=>(this.Kj j b d).pre _,this.OV.pre _,this.Wk.pre _,this.OT.pre _,λc g z=>by
   obtain⟨d,k,h⟩:=this.xm c g z;exact⟨d,k,h.pre _⟩,λi c=>(this.nH i c).pre _,this.err.pre _⟩)) (by rw[a];exact W.tn) f e C.bd λI d c=>?_
 rw[a];refine K (s.yK t (n+1)) I ⟨d,⟨C.pv.jr,C.pv.en,C.pv.eo,C.pv.fb,C.pv.rm,C.pv.cx⟩,⟨C.qi.lt,C.qi.all,C.qi.pN,C.qi.ws,C.qi.cv,C.qi.wt⟩,C.fl,C.eH,aT C.bd c,C.gu.trans ⟨rfl,rfl,rfl,rfl,rfl,rfl,rfl,rfl,rfl,λ_ _=>rfl,λj b=>?_,λ_ _=>⟨rfl,rfl⟩⟩,a,C.ln⟩ rfl c;show upd s.l.us t (n+1) j=_;simp[upd,b]
end
def iq(V:Ev0)(j:Nat):Nat:=if j=V.nl then 146 else if(V.ly j).k=1 then 156 else if(V.ly j).k=3 then 167 else if(V.ly j).k=4 then 169 else if(V.ly j).k=5 then 178 else 165
def dV{S:Type}(E:TE S)(D:PK)(U:LS)(t j:Nat):Prop:=∀(m:Nat)(p:S)(s:PS)(w:aj)(v:ay)(R:aW)(c:aC)(Z:cO),Cn E D t p s w v R->Fin D.V U m (some (t,j,none)) s.l->m<=E.pS p->
 (∀m' p' s' I v' X r b,m'<m->m'<=E.pS p'->Cn E D t p' s' I v' (X++R)->Fin D.V U m' (some (t,j,some b)) s'.l->Ov X r b->(∀i,i<j->(s'.l.tk t).a i=(s.l.tk t).a i)->(∀i,i<j->(s'.l.tk t).q i=(s.l.tk t).q i)->E.Ψ p' (G (ends c r) Z) I)->
 E.Ψ p (G (Frame.enter prog (iq D.V j) #[ptr (D.lb j),ptr (D.T t)] .normal) (c::Z)) w
theorem CR{U:LS}{L:LS}(h:Fin V U m (some (t,V.nl,none)) L)(c:L.us t=n):∃b,m=b+1/\qm V t L/\
 ((aU V t n).t=0->Fin V U b (some (t,V.nl,some (cN (aU V t n)))) ((({L with us:=upd L.us t (n+1)}:LS).say t (-1) 1 n).say t (-1) 2 n))/\
 ((aU V t n).t≠0->Fin V U b none (((({L with us:=upd L.us t (n+1)}:LS).say t (-1) 1 n).wait t V.nl (aU V t n).t).tH L.wl ⟨(cN (aU V t n)).k,(cN (aU V t n)).n,⟨0,0,n⟩::(cN (aU V t n)).ch⟩)):=by
 cases m with
 |zero=>exact h.elim
 |succ m=>
  obtain⟨b,d,d,a⟩:=h;have d:(L.tk t).c.toNat=t:=by rw[b.tc];rfl
  refine⟨m,rfl,b,λb=>?_,λb=>?_⟩
  .simp only[LS.step,if_true,d,c,mY,b]at a;exact a
  .simp only[LS.step,if_true,d,c,mY,b,if_false]at a;exact a
theorem Eo(b:wM V)(a:t<V.nc)(n:Nat):(1<=(aU V t n).k/\(aU V t n).k<=4)/\(0<=(aU V t n).t/\(aU V t n).t<=1000):=by
 unfold aU;split
 .rename_i h;exact b.tr t a n h
 simp
section
variable{E:TE S}{D:PK}{U:LS}
theorem yC(W:jF E D U t){p:S}{s:PS}{x:Lm}{u:Nat}(C:Cn E D t p s w v (bR u (s9 x)::R))(d:yF D R)(f:s.l.el<1000000)(e:(s.l.tk t).c=t)(g:1<=x.k/\x.k<=4){b:aC}(y:O0 b 146){a:Act}(g:a.defers=[])(h:w.heap.size=B)(i:St (E.Ok p) B 63 [(32,i6 n),(31,ptr (D.T t)),(30,ptr (D.lb D.V.nl)),(7,ptr u),(0,ptr (D.lb D.V.nl))] (pM s++(dO (D.T t) v false::(bR u (s9 x)::R++E.P p s))) 0 a w)(K:∀h I X r,Cn E D t p h I v (X++R)->h.l=s.l.say t (-1) 2 n->Ov X r (cN x)->E.Ψ p (G (ends c r) Z) I):
 E.Ψ p (G (b.at a (pc prog 146 43 [false] [])) (c::Z)) w:=by
 have F:=W.f p;have r:=W.hB p;have a:=C.bd;have b:=y.k;have o:=y.f;refine bu F b g i 33 149 #[ptr (D.lb D.V.nl),ptr (D.T t),i6 2,i6 n] λa c=>iU W {C with sat:=i.sat} f e C.eH.OV λh a a s e=>c _ _ _ a.sat λc e j i c=>?_;have c:=a.bd;have q:Flat (R++E.O p):=a.fl.tail;have f:x.k=1\/x.k=2\/x.k=3\/x.k=4:=by omega
 rcases f with f|f|f|f
 .refine aX F r b i j 35 [8,0,0,2] [0,0,0] [] [(5,.nilIface),(4,i6 x.n)] (λM=>M) 0 79 16 [] [(x.k==4,false),(x.k==3,false),(x.k==2,false)] [] [] λp k g c l m n=>cC F g b o c [] (.tuple #[i6 x.n,.nilIface]) ?_;exact K h k [] (.inl (.tuple #[i6 x.n,.nilIface])) ⟨AK (pM h) g.sat,a.pv,a.qi,q,d,by omega,a.gu,a.hk,a.ln⟩ s (.inl (by unfold cN;simp[f]))
 .replace j:=j.get ((((d.OV.pre _).cons).cons).app (pM h));refine aX F r b i j 19 [9,0,0,2,0,0,1,1] [2] [8] [(5,.iface 168 (ptr e)),(4,i6 0)] (λM=>bR (e) [i6 1,i6 (-1),i6 x.n,.nilIface]::(M)) 1 63 6 [8] [(x.k==2,true)] [] [] λp k g c l m n=>cC F g b o c [] (.tuple #[i6 0,.iface 168 (ptr e)]) ?_;exact K h k [oR e 0 [i6 1,i6 (-1),i6 x.n,.nilIface] false] (.inl (.tuple #[i6 0,.iface 168 (ptr e)])) ⟨AJ (pM h) g.sat,a.pv,a.qi,q.cons rfl,d.cons,by omega,a.gu,a.hk,a.ln⟩ s (.inr (.inl ⟨by unfold cN c9;simp[f],_,rfl,by unfold cN c9;simp[f];exact⟨e,.nilIface,rfl,⟨rfl,0,rfl⟩,rfl⟩⟩))
 .replace j:=j.get ((((d.OV.pre _).cons).cons).app (pM h));refine aX F r b i j 25 [9,0,0,2,0,0,1,1] [0,2] [8] [(5,.iface 168 (ptr e)),(4,i6 0)] (λM=>bR (e) [i6 2,i6 (-1),i6 x.n,.nilIface]::(M)) 1 69 12 [8] [(x.k==3,true),(x.k==2,false)] [] [] λp k g c l m n=>cC F g b o c [] (.tuple #[i6 0,.iface 168 (ptr e)]) ?_;exact K h k [oR e 0 [i6 2,i6 (-1),i6 x.n,.nilIface] false] (.inl (.tuple #[i6 0,.iface 168 (ptr e)])) ⟨AJ (pM h) g.sat,a.pv,a.qi,q.cons rfl,d.cons,by omega,a.gu,a.hk,a.ln⟩ s (.inr (.inl ⟨by unfold cN c9;simp[f],_,rfl,by unfold cN c9;simp[f];exact⟨e,.nilIface,rfl,⟨rfl,0,rfl⟩,rfl⟩⟩))
 .refine aX F r b i j 30 [8,0,0,2] [0,0,2] [] [(60,.iface 166 (i6 x.n)),(7,ptr u)] (λM=>M) 0 74 24 [] [(x.k==4,true),(x.k==3,false),(x.k==2,false)] [] [] λp k g c l m n=>ZK F y 166 (i6 x.n) (by kernel_rfl) f146 func146 c g ?_;exact K h k [] (.inr (.iface 166 (i6 x.n))) ⟨AK (pM h) g.sat,a.pv,a.qi,q,d,by omega,a.gu,a.hk,a.ln⟩ s (.inr (.inr (by unfold cN;simp[f])))
theorem Oi(W:jF E D U t):dV E D U t D.V.nl:=by
 intro m p s w v R c Z C O c K;rw[show iq D.V D.V.nl=146 by unfold iq;simp];have F:=W.f p;have h:=W.hB p;have c:=C.bd;have hS:=(C.sat.get (((C.eH.nH t W.tn).pre _).cons.app (pM s)))
 obtain⟨n,l⟩:∃n:Nat,s.l.us t=n:=⟨(s.l.us t).toNat,by
  cases m with
  |zero=>exact O.elim
  |succ m=>have:=O.1.us;omega⟩
 obtain⟨I,rfl,g,N,L⟩:=CR O l;have c:=C.hk;refine cJ func146 hS 63 λc c c Q a c c w m=>aq F h a c w 23 [0,0,2,1] [] [] [(11,i6 t),(9,ptr (D.lb D.V.nl)),(0,ptr (D.lb D.V.nl)),(1,ptr (D.T t))] (λM=>M) 0 10 1 [] λc c m c w w w=>bu F a c m 12 147 #[ptr (D.lb D.V.nl),i6 t] λc c=>ML W {C with sat:=m.sat.tail,bd:=by omega} l (by have:=g.us;omega) λY l f P l=>c _ _ _ f.sat λc j m c l=>aq F h a c m 14 [0,0,0,3] [] [] [(19,i6 n),(18,ptr (D.T t)),(17,ptr (D.lb D.V.nl)),(6,i6 n),(7,ptr j),(0,ptr (D.lb D.V.nl)),(1,ptr (D.T t))] (λM=>bR (j) [i6 (aU D.V t n).k,i6 (aU D.V t n).n,i6 (aU D.V t n).t]::(M)) 1 25 1 [] λc V T c l l l=>bu F a c T 20 149 #[ptr (D.lb D.V.nl),ptr (D.T t),i6 1,i6 n] λc A=>?_;have o:=Eo W.V W.tn n;generalize aU D.V t n=x at*;have C3:Cn E D t p Y V v (bR j (s9 x)::R):=⟨T.sat.perm gY,f.pv,f.qi,f.fl.cons rfl,f.eH.cons,by omega,f.gu,f.hk,f.ln⟩;refine iU W C3 (by rw[P];exact g.el) (by rw[P];exact g.tc) C3.eH.OV λB c H e c=>A _ _ _ H.sat λc c S z c=>?_;have c:=H.bd;rw[P]at e;have u:(B.l.tk t).c=t:=by rw[e];exact g.tc
 by_cases q:x.t=0
 .have b:=N q;rw[<-e]at b;have J:qm D.V t (B.l.say t (-1) 2 n):=by
   cases I with
   |zero=>exact b.elim
   |succ I=>exact b.1
  have c:B.l.el+1<1000000:=J.el;refine aX F h a z S 17 [8,0,2,1] [0] [] [(32,i6 n),(31,ptr (D.T t)),(30,ptr (D.lb D.V.nl)),(7,ptr j),(0,ptr (D.lb D.V.nl))] (λM=>M) 0 43 2 [] [(decide (x.t>0),false)] [] [] λR P m c l w J=>yC W {H with sat:=m.sat,bd:=by omega} C.eH (by omega) u o.1 Q c l m λf N X r u O A=>K I p f N v X r (cN x) (by omega) (by omega) u (by simp_all) A (λi E=>by rw[O,e];rfl) (λi E=>by rw[O,e];rfl)
 .have p:0<x.t:=by omega
  have b:=L q;have p:B.l.wl=s.l.wl:=by rw[e];rfl
  rw[<-e,<-p]at b;refine aX F h a z S 13 [8,0,2,1,8,0,2,1] [2] [] [(26,i6 x.t),(24,ptr (D.T t)),(6,i6 n),(7,ptr j),(0,ptr (D.lb D.V.nl)),(1,ptr (D.T t))] (λM=>M) 0 39 3 [] [(decide (x.t>0),true)] [] [] λR P m c l w J=>GM F a c 27 150 #[ptr (D.T t),i6 x.t] (by kernel_rfl) (by kernel_rfl) (by decide) m λc c=>HX W {H with sat:=m.sat,bd:=by omega} (by rw[e];exact g.al) (by rw[e];exact g.now) ⟨by omega,by omega⟩ _ b (by omega) λg f N p l l u f1 f2 f3 f4 f5 f6=>c.ret _ _ _ _ _ u.sat λc c s m c=>?_;have c:=u.bd;replace F:=W.f g;replace h:=W.hB g;obtain⟨c,l⟩:=f1;have q:Fin D.V U p (some (t,D.V.nl,some (cN x))) (f.l.say t (-1) 2 n):=by
   rcases l with ⟨_,_,y,ch,G,d⟩|⟨k,k,k,_⟩
   .rw[f3]at G d;simp only[List.cons.injEq]at G;rw[<-G.1,<-G.2]at d;exact d
   omega
  refine aq F h a m s 8 [] [] [] [(32,i6 n),(31,ptr (D.T t)),(30,ptr (D.lb D.V.nl)),(7,ptr j),(0,ptr (D.lb D.V.nl))] (λM=>M) 0 48 3 [] λa a k j a l l=>?_;rw[show pc prog 146 48 (Bo 3) []=pc prog 146 43 [false] [] by kernel_rfl];refine yC W {u with sat:=k.sat,bd:=by omega} C.eH c.el c.tc o.1 Q j a k λj c X r k a A=>K p g j c v X r (cN x) (by omega) (by omega) k (by simp_all) A (λi E=>by
   rw[a];show(f.l.tk t).a i=_;rw[f4,e];rfl) (λi E=>by
   rw[a];show(f.l.tk t).q i=_;rw[f6,e];rfl)
end
theorem CW{U:LS}{L:LS}(a:j<V.nl)(b:(V.ly j).k=2)(h:Fin V U m (some (t,j,none)) L):∃a,m=a+1/\Fin V U a (some (t,j+1,none)) L:=by
 cases m with
 |zero=>exact h.elim
 |succ m=>
  obtain⟨a,a,a,c⟩:=h;have e:(j=V.nl)=False:=by simp;omega
  simp only[LS.step,e,if_false,b,af (show¬(2:Int)=1 by decide),af (show¬(2:Int)=3 by decide),af (show¬(2:Int)=4 by decide)]at c;simp_all
theorem yh{U:LS}{L:LS}(d:(V.ly j).k=2)(h:Fin V U m (some (t,j+1,some b)) L):∃c,m=c+1/\qm V t L/\G5 b/\(b.k=3->Fin V U c (some (t,j,some (c9 6 j b.n))) (L.say t j 5 b.n))/\(b.k≠3->Fin V U c (some (t,j,some b)) L):=by
 cases m with
 |zero=>exact h.elim
 |succ m=>
  obtain⟨f,c,c,a⟩:=h;have e:(j+1=0)=False:=by simp
  refine⟨m,rfl,f,(c b rfl).1,λb=>?_,λb=>?_⟩
  .simp only[LS.step,e,if_false,eM,d,af (show¬(2:Int)=1 by decide),af (show¬(2:Int)=4 by decide),af (show¬(2:Int)=5 by decide),b,and_self,if_true]at a;exact a
  .simp only[LS.step,e,if_false,eM,d,af (show¬(2:Int)=1 by decide),af (show¬(2:Int)=4 by decide),af (show¬(2:Int)=5 by decide),b,and_false,if_false]at a;exact a
theorem xT(k:PK)(j:Nat):∃a,Dv k j=.iface a (ptr (k.lb j))/\((a=138/\iq k.V j=146)\/(a=141/\iq k.V j=156)\/(a=144/\iq k.V j=165)\/(a=147/\iq k.V j=167)\/(a=150/\iq k.V j=169)\/(a=155/\iq k.V j=178)):=by
 unfold Dv iq;grind
section
variable{E:TE S}{D:PK}{U:LS}
theorem Je(W:jF E D U t)(hj:j<D.V.nl)(hk:(D.V.ly j).k=2)(IH:dV E D U t (j+1)):dV E D U t j:=by
 intro m p s w v R c Z C w m K;rw[show iq D.V j=165 by unfold iq;grind];have F:=W.f p;have L:=W.hB p;have m:=C.bd;have hS:=C.sat;obtain⟨m0,rfl,hf0⟩:=CW hj hk w;obtain⟨ty,m,hg⟩:=xT D (j+1);have A:=C.eH.lay j hj;rw[m]at A;unfold dV at IH;generalize iq D.V (j+1)=gf at*;refine cJ func165 hS 16 λbb m a hn n qh m S0 w=>aq F L n m S0 10 [] [] [] [(6,.func (Fn.func 166) #[] #[ptr a,ptr (a+1),ptr (a+2),ptr (a+3)]),(5,ptr (a+3)),(4,ptr (a+2)),(3,ptr (a+1)),(2,ptr a)] (λM=>bR (a+3) [.nilIface]::(bR (a+2) [i6 0]::(bR (a+1) [ptr (D.T t)]::(bR (a) [ptr (D.lb j)]::(M))))) 4 10 1 [] λm m S1 m w w w=>Wc F hn m 166 [ptr a,ptr (a+1),ptr (a+2),ptr (a+3)] (by kernel_rfl) (by kernel_rfl) (by kernel_rfl) S1 λm w m=>aq F L n m w 2 [] [] [] [(5,ptr (a+3)),(4,ptr (a+2)),(3,ptr (a+1)),(2,ptr a)] (λM=>M) 4 13 1 [] λw w3 S3 CJ m m m=>?_
 have m:Sat (E.Ok p) w3 (pM s++(dO (D.T t) v false::(([bR (a+3) [.nilIface],bR (a+2) [i6 0],oR (a+1) 0 [ptr (D.T t)] false,oR a 0 [ptr (D.lb j)] false]++R)++E.P p s))):=
  (Sat.yg [bR (a+3) [.nilIface],bR (a+2) [i6 0],oR (a+1) 0 [ptr (D.T t)] false] (Sat.yg [bR (a+3) [.nilIface],bR (a+2) [i6 0]] S3.sat)).perm (Cw (A:=pM s) (X:=[bR (a+3) [.nilIface],bR (a+2) [i6 0],oR (a+1) 0 [ptr (D.T t)] false,oR a 0 [ptr (D.lb j)] false]))
 have C3:Cn E D t p s w3 v ([bR (a+3) [.nilIface],bR (a+2) [i6 0],oR (a+1) 0 [ptr (D.T t)] false,oR a 0 [ptr (D.lb j)] false]++R):=⟨m,C.pv,C.qi,((((C.fl.cons rfl).cons rfl).cons rfl).cons rfl),C.eH.app _,by omega,C.gu,C.hk,C.ln⟩;replace S3:St (E.Ok p) a 16 _ _ 4 w w3:=⟨S3.env,m,S3.sz⟩
 have tO:∀f H I J X,Cn E D t f H I J (X++([bR (a+3) [.nilIface],bR (a+2) [i6 0],oR (a+1) 0 [ptr (D.T t)] false,oR a 0 [ptr (D.lb j)] false]++R))->Sat (E.Ok f) I [oR a 0 [ptr (D.lb j)] false,oR (a+1) 0 [ptr (D.T t)] false,tQ (D.lb j) (.iface ty (ptr (D.lb (j+1)))) j D.J]:=by
  intro f H I J X B;refine B.sat.ED λr hr=>?_;simp only[ak,bH,or_false]at hr;rcases hr with rfl|rfl|rfl
  .exact Has.in ⟨rfl,3,rfl⟩
  .exact Has.in ⟨rfl,2,rfl⟩
  .exact Has.in (A.app _)
 refine TL W.f aK W.hB n 9 6 [oR a 0 [ptr (D.lb j)] false,oR (a+1) 0 [ptr (D.T t)] false,tQ (D.lb j) (.iface ty (ptr (D.lb (j+1)))) j D.J] (Hq [0,0,0,1,2,0,0,1,1,0,0,1]) [(11,.iface ty (ptr (D.lb (j+1)))),(12,ptr (D.T t))] 13 gf #[ptr (D.lb (j+1)),ptr (D.T t)] (by kernel_rfl) (by kernel_rfl) (by kernel_rfl) (by kernel_rfl) (by rcases hg with ⟨rfl,rfl⟩|⟨rfl,rfl⟩|⟨rfl,rfl⟩|⟨rfl,rfl⟩|⟨rfl,rfl⟩|⟨rfl,rfl⟩<;>kernel_rfl) S3 (tO p s w3 v [] C3) (by omega) λcf w4 VM Bj VQ=>IH m0 p s w4 v _ cf (c::Z) {C3 with sat:=VM,bd:=by omega} hf0 (by omega) λm f H I J X r b m m B m hr ha DG=>?_;obtain⟨m1,rfl,FR,Hj,h3,Xr⟩:=yh hk m;have V:=B.bd;replace F:=W.f f;replace L:=W.hB f;have hM:=B.sat.perm (gM (A:=pM H));have S:∀w5,Sat (E.Ok f) w5 (pM H++(dO (D.T t) J false::((X++R)++E.P f H)))->I.heap.size<=w5.heap.size->Cn E D t f H w5 J (X++R):=λw5 m Dw=>⟨m,B.pv,B.qi,B.fl.OC,C.eH.app X,by omega,B.gu,B.hk,B.ln⟩
 rcases hr with ⟨hb,rfl⟩|⟨hb,e,rfl,he⟩|⟨hb,rfl⟩
 .refine VQ.ret f _ I [] [(14,i6 b.n),(15,.nilIface),(4,ptr (a+2)),(5,ptr (a+3))] _ V (tO f H I J X B) hM (by kernel_rfl) (by kernel_rfl) λa5 w5 B5 S5 k Y5 Dw=>?_;rw[CJ]at k;refine aq F L n k S5 3 [1,0,0,1,0,0,0,1] [] [] [(4,ptr (a+2)),(5,ptr (a+3))] (λM=>bh 1 (0,0) (i6 b.n) (M)) 0 17 1 [9] λa6 w6 S6 DE YG Hf TI=>Mj F (by kernel_rfl) DE Hr f166 func166 _ rfl (by kernel_rfl) 25 (by kernel_rfl) S6 λa7 S7 O=>qk F L O S7 2 [] [] [] [(0,ptr a),(1,ptr (a+1)),(2,ptr (a+2)),(3,ptr (a+3))] id 0 2 1 [] [] [] [] λa8 w8 S8 N FN IV Ro=>Td F 6 (by kernel_rfl) (by kernel_rfl) (by decide) rfl S8 λa9 S9 g=>?_;rw[N]at g;refine qk F L g S9 9 [] [1] [] [] id 0 12 2 [] [] [] [] λDq x o l P Q Y=>NW F (by kernel_rfl) l f166 func166 (by kernel_rfl) ?_;refine G6 F (a:=⟨a6.tmps,[]⟩) (N:=16) (E:=[(4,ptr (a+2)),(5,ptr (a+3))]) ⟨S6.env.sz,S6.env.val⟩ o.sat n qh rfl [(1,(0,0),true),(0,(0,0),true)] (.tuple #[i6 b.n,.nilIface]) (by kernel_rfl) (by kernel_rfl) ?_;exact K m1 f H x J X _ b (by omega) (by omega) (S x o.sat.tail.tail.tail.tail (by omega)) (Xr (by omega)) (.inl ⟨hb,rfl⟩) (λi T=>ha i (by omega)) λi T=>DG i (by omega)
 .obtain⟨q,rfl⟩:∃q,e=.iface 168 (ptr q):=by
   rcases Hj.2.2 with ⟨z,_⟩|⟨_,_,z⟩|⟨z,_⟩
   .omega
   .cases mQ:b.ch with
    |nil=>simp_all
    |cons y ch=>rw[mQ]at he;obtain⟨q,_,h,_⟩:=he;simp_all
   .omega
  refine VQ.ret f _ I [] [(14,i6 0),(15,.iface 168 (ptr q)),(4,ptr (a+2)),(5,ptr (a+3))] _ V (tO f H I J X B) hM (by kernel_rfl) (by kernel_rfl) λa5 w5 B5 S5 k Y5 Dw=>?_;rw[CJ]at k;refine aq F L n k S5 3 [1,0,0,1,0,0,0,1] [] [] [(4,ptr (a+2)),(5,ptr (a+3))] (λM=>bh 0 (0,0) (.iface 168 (ptr q)) (M)) 0 17 1 [9] λa6 w6 S6 DE YG Hf TI=>Mj F (by kernel_rfl) DE Hr f166 func166 _ rfl (by kernel_rfl) 25 (by kernel_rfl) S6 λa7 S7 O=>qk F L O S7 2 [] [] [] [(0,ptr a),(1,ptr (a+1)),(2,ptr (a+2)),(3,ptr (a+3))] id 0 2 1 [] [] [] [] λa8 w8 S8 N FN IV Ro=>Td F 6 (by kernel_rfl) (by kernel_rfl) (by decide) rfl S8 λa9 S9 g=>?_;rw[N]at g;refine qk F L g S9 9 [] [1] [] [] id 0 12 2 [] [] [] [] λDq x o l P Q Y=>NW F (by kernel_rfl) l f166 func166 (by kernel_rfl) ?_;refine G6 F (a:=⟨a6.tmps,[]⟩) (N:=16) (E:=[(4,ptr (a+2)),(5,ptr (a+3))]) ⟨S6.env.sz,S6.env.val⟩ o.sat n qh rfl [(1,(0,0),true),(0,(0,0),true)] (.tuple #[i6 0,.iface 168 (ptr q)]) (by kernel_rfl) (by kernel_rfl) ?_;exact K m1 f H x J X _ b (by omega) (by omega) (S x o.sat.tail.tail.tail.tail (by omega)) (Xr (by omega)) (.inr (.inl ⟨hb,_,rfl,he⟩)) (λi T=>ha i (by omega)) λi T=>DG i (by omega)
 .obtain⟨a5,t5,rfl,k,Rc⟩:=VQ.NO;rw[CJ]at k;show E.Ψ f (G ((bb.at a5 t5).raise (je (.iface 166 (i6 b.n)))) (c::Z)) I;rw[raise_at hn.m];refine Tc F k Hr f166 func166 _ rfl (by kernel_rfl) 25 (by kernel_rfl) hM λa7 c S7 O c=>qk F L O S7 2 [] [] [] [(0,ptr a),(1,ptr (a+1)),(2,ptr (a+2)),(3,ptr (a+3))] id 0 2 1 [] [] [] [] λa8 w8 S8 N FN IV Ro=>W3 F (v:=.iface 166 (i6 b.n)) 6 (by kernel_rfl) (by kernel_rfl) (by decide) rfl S8 λa9 S9 g=>?_;rw[N]at g;refine qk F L g S9 36 [3,0,0,1,2,0,0,1] [3] [5] [(15,i6 b.n),(14,ptr (D.T t)),(13,ptr (D.lb j)),(5,i6 b.n),(0,ptr a),(2,ptr (a+2)),(3,ptr (a+3))] id 0 19 3 [5] [] [] [] λDq x o l P Q Y=>RM F l 16 149 #[ptr (D.lb j),ptr (D.T t),i6 5,i6 b.n] (by kernel_rfl) (by kernel_rfl) (by decide) o λc h=>?_;have c:Cn E D t f H x J (X++([bR (a+3) [.nilIface],bR (a+2) [i6 0],oR (a+1) 0 [ptr (D.T t)] false,oR a 0 [ptr (D.lb j)] false]++R)):={B with sat:=o.sat.perm (gM (A:=pM H)).symm,bd:=by omega};refine iU W c FR.el FR.tc (wi:=.iface ty (ptr (D.lb (j+1)))) (num:=j) ((A.app _).app X) λe c c l m=>h _ _ _ ((c.sat.perm (gM (A:=pM e))).get (((((A.app X).pre _).cons).app (pM e)).app _)) λh h p m o=>?_;have o:=c.bd;refine qk F L m p 46 [4,0,0,1,0,0,1,1,3,0,0,1,2,0,0,1] [] [] [] (λM=>bR (h) [i6 6,i6 j,i6 b.n,.nilIface]::(bh 1 (0,0) (.iface 168 (ptr h)) (M))) 1 33 3 [5] [] [] [] λm m p o q q q=>BC F (b:=bb) (a':=⟨a5.tmps,[]⟩) (todo':=t5) (v:=.iface 166 (i6 b.n)) (by kernel_rfl) o f166 func166 (by kernel_rfl) ?_;have q:aR [(5,ptr (a+3)),(4,ptr (a+2))] 16 (⟨a5.tmps,[]⟩:Act):=⟨Rc.sz,λd u o=>Rc.val d u (fy [(5,ptr (a+3)),(4,ptr (a+2))] _ (by kernel_rfl) d u o)⟩;refine G6 F q p.sat n qh rfl [(3,(0,0),true),(2,(0,0),true)] (.tuple #[i6 0,.iface 168 (ptr h)]) (by kernel_rfl) (by kernel_rfl) ?_;have a:Sat (E.Ok f) m (bR h [i6 6,i6 j,i6 b.n,.nilIface]::(pM e++(dO (D.T t) J false::(R++E.P f e)))):=p.sat.sub (.cons_cons _ (.cons _ (.cons _ (.cons _ (.cons _ (.cons _ (nN (.cons_cons _ (D7 (D8 X R) _)) _)))))));have d:Flat (R++E.O f):=λi r T=>by
   have:=bO.1 B.fl.OC r;refine this ?_;have n:r∈R++E.O f:=by rw[dF]at T;exact sQ T
   simp_all
  have YR:=h3 hb;rw[<-l]at YR;exact K m1 f e m J [oR h 0 [i6 6,i6 j,i6 b.n,.nilIface] false] _ (c9 6 j b.n) (by omega) (by omega) ⟨a.fix.perm (gY (A:=pM e)),c.pv,c.qi,d.cons rfl,C.eH.cons,by omega,c.gu,c.hk,c.ln⟩ YR (.inr (.inl ⟨rfl,_,rfl,h,.nilIface,rfl,⟨rfl,0,rfl⟩,rfl⟩)) (λi T=>by rw[l];exact ha i (by omega)) λi T=>by rw[l];exact DG i (by omega)
end
end Go.Proofs.YtobagnjnbmgidaaGreatDoor
