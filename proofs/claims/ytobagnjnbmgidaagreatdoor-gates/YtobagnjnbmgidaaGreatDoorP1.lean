import Derived.Test.YtobagnjnbmgidaaGreatDoorA1
import Derived.Test.YtobagnjnbmgidaaGreatDoorN4
set_option linter.all false
set_option maxHeartbeats 0
set_option maxRecDepth 100000
namespace Go.Proofs.YtobagnjnbmgidaaGreatDoor
open Go.Conc Go.RowKit Tryz
variable{V:Ev0}{d ly num:Int}{T i j k lb m n q aR:Nat}{b r:aJ}{A C M O R X Y:aX}{w w':aj}{c cf:aE}{en v wi x:ay}{es:jg}{cs:cW}{vs:iG}
variable{main:Bool}{B t:Nat}{Ok:dw}{Ψ:gi}{γ:Type}
def LS.lD(L:LS)(t j:Nat)(n:Int):LS:={L with tk:=upd L.tk t {L.tk t with a:=upd (L.tk t).a j n}}
abbrev oR(b o:Nat)(vs:iG)(wr:Bool):aJ:=⟨λj=>⟨b,o+j.2,none⟩,vs,λ_ _=>undef,1,vs.length,wr,none⟩
structure oV where
 E:Nat
 n:Nat
 c:Nat
 f:Nat->Value
abbrev eR(b:oV):aJ:=⟨λj=>⟨b.E,j.2,none⟩,[],λ_ j=>b.f j,b.c,b.n,true,match b.c with|0=>none|_+1=>some (b.E,128,b.n)⟩
def Has(C:aX)(r:aJ):Prop:=r.wr=false/\∃i,nth C i=some r
theorem Has.cons{x:aJ}(h:Has C r):Has (x::C) r:=by
 obtain⟨e,i,a⟩:=h;exact⟨e,i+1,a⟩
theorem Has.app{C:aX}{r:aJ}(h:Has C r):∀A:List aJ,Has (A++C) r
 |[]=>h
 |_::A=>(h.app A).cons
theorem Has.pre(h:Has C r)(A:aX):Has (C++A) r:=by
 obtain⟨e,i,a⟩:=h;exact⟨e,i,by rw[bV,ah (qO _ _ _ a)];exact a⟩
theorem Sat.get(h:Sat Ok w M)(a:Has M r):Sat Ok w (r::M):=by
 obtain⟨f,i,e⟩:=a;exact h.dup e f
theorem St.get{Ok:dw}{B N c:Nat}{E:Env}{M:aX}{r:aJ}{a:Act}{w:aj}(S:St Ok B N E M c a w)(h:Has M r):St Ok B N E (r::M) c a w:=⟨S.env,S.sat.get h,S.sz⟩
def tL(x:Mw):List Value:=[i6 x.k,i6 x.n,i6 x.t]
structure PK where
 A:Nat
 J:Nat
 HD:Nat
 O:Nat
 sc:Nat->Value
 V:Ev0
 lb:Nat->Nat
 T:Nat->Nat
 aR:Nat->Nat
 ca:Addr
 cc:Nat
 dH:Nat->Option Addr
 dU:Nat->Nat
 bI:Nat
 bE:Nat
structure Fb where
 s:Bool
 g:Nat
 o:Nat
 c:Nat
 v:Nat->List Value
structure PS where
 k:PK
 en:Value
 eb:oV
 ea:Option Addr
 ec:Nat
 vv:Nat->List Value
 oh:Nat->Value
 q:List Nat
 wb:Nat->Nat
 f:Nat->Fb
 l:LS
def pM(s:PS):List aJ:=[bR s.k.A [i6 s.l.now,s.en],eR s.eb,bR s.k.J [.slice s.ea s.l.el s.ec],vR s.ea 5 (λj=>yR (s.l.ev j)) s.l.el s.ec 55,sR s.ea 5 s.vv s.l.el s.ec,
 fR ⟨s.k.HD,0,none⟩ 1 (λj=>[i6 (s.l.us j)]) s.k.V.nc true,fR ⟨s.k.O,0,none⟩ 4 (λj=>zm (s.l.ou j,s.oh j)) s.k.V.nc true]
abbrev uj(b:Nat)(wi:ay)(num:Int)(J:Nat):aJ:=oR b 0 [wi,i6 num,ptr J] false
abbrev zL(T A:Nat)(i:Nat)(aR:Nat):aJ:=oR T 0 [ptr A,i6 i,i6 i,.chan (some aR)] false
abbrev fI(T:Nat)(v:ay)(e:Bool):aJ:=oR T 4 [v,.slice none 0 0,.bool false,.bool e] true
def Hs(f:Fb)(n:Nat):Value:=if f.s=true then .slice (some ⟨f.g,f.o,none⟩) n f.c else .slice none 0 0
def gR(y:ko)(lb:Nat)(g:Gt)(f:Fb):List aJ:=if y.k=3 then[oR lb 5 [i6 g.nx] true]else if y.k=4 then[oR lb 8 [i6 g.st,i6 g.si,i6 g.pd,i6 g.pr,Hs f g.la.length] true,fR ⟨f.g,0,none⟩ 1 f.v (f.o+f.c) true]else[]
def gS(s:PS):List aJ:=(List.range s.k.V.nl).flatMap λj=>gR (s.k.V.ly j) (s.k.lb j) (s.l.gt j) (s.f j)
def gX(s:PS)(k:Nat):List aJ:=(List.range s.k.V.nl).flatMap λj=>if j=k then[]else gR (s.k.V.ly j) (s.k.lb j) (s.l.gt j) (s.f j)
theorem nk(f g:Nat->List aJ)(i:Nat)(h:g i=[])(l:∀j,j≠i->g j=f j):∀n,((List.range n).flatMap f).Perm ((if i<n then f i else[])++(List.range n).flatMap g)
 |0=>by simp
 |n+1=>by
  have a:=nk f g i h l n;rw[uz,CV,CV];simp only[EC,List.flatMap_nil,List.append_nil]
  by_cases e:n=i
  .subst e
   rw[af (Bc _),List.nil_append]at a;rw[ah (ij _),h,List.append_nil];exact(a.append_right _).trans EJ
  .rw[l n e]
   have:(i<n)=(i<n+1):=by apply propext;omega
   simp only[this]at a;rw[<-fM];exact a.append_right _
theorem qX(s:PS)(hk:k<s.k.V.nl):(gS s).Perm (gR (s.k.V.ly k) (s.k.lb k) (s.l.gt k) (s.f k)++gX s k):=by
 have:=nk (λj=>gR (s.k.V.ly j) (s.k.lb j) (s.l.gt j) (s.f j)) (λj=>if j=k then[]else gR (s.k.V.ly j) (s.k.lb j) (s.l.gt j) (s.f j)) k (ah rfl) (λj hj=>af hj) s.k.V.nl;rw[ah hk]at this;exact this
theorem TM{s a:PS}(hk:a.k=s.k)(f:∀j,j≠k->a.l.gt j=s.l.gt j)(g:∀j,j≠k->a.f j=s.f j):gX a k=gX s k:=by
 unfold gX;rw[hk]
 congr 1
 funext j
 by_cases e:j=k
 .rw[ah e,ah e]
 .rw[af e,af e,f j e,g j e]
theorem Hi(y:ko)(lb:Nat)(g:Gt)(f:Fb):∀r∈gR y lb g f,r.row=none:=λr a=>by
 unfold gR at a
 split at a
 .simp at a;rw[a]
 .split at a
  .simp at a;rcases a with rfl|rfl<;>rfl
  .cases a
theorem AG(s:PS):∀r∈gS s,r.row=none:=λr a=>by
 obtain⟨j,_,h⟩:=nV.1 a;exact Hi _ _ _ _ r h
structure qF(Ok:dw)(la:fL)(f:Fb):Prop where
 nil:f.s=false->la=[]/\f.o=0/\f.c=0
 len:f.s=true->0<la.length/\la.length<=f.c
 ok:f.s=true->∀(ad:Addr)(wr:Bool),ad.block=f.g->Ok ad wr
 val:∀j,j<la.length->(f.v (f.o+j)).getD 0 undef=.bool (la.getD j false)
abbrev PS.dR(s:PS)(g' cap':Nat)(vs':fH)(L:LS):PS:={s with ea:=some ⟨g',0,none⟩,ec:=cap',vv:=vs',l:=L}
theorem Fg(F:aC prog main (DX Ok) Ψ)(hB:HB B Ok){s:PS}{q n:Int}(y:Sat Ok w (pM s++C))(h1:Has C (uj lb wi num s.k.J))(h2:Has C (zL T s.k.A t aR))(W:Vc Ok s.ea s.l.el s.ec)(Z:B<=w.heap.size)(H:s.l.el<1000000)(hc:(s.l.tk t).c=t)(K:∀g' cap' vs' w',Sat Ok w' (pM (s.dR g' cap' vs' (s.l.say t num q n))++C)->Vc Ok (some ⟨g',0,none⟩) (s.l.el+1) cap'->w.heap.size<=w'.heap.size->Ψ (G (cf.finish (.tuple #[])) cs) w'):
 Ψ (G (Frame.enter prog 149 #[ptr lb,ptr T,i6 q,i6 n] .normal) (cf::cs)) w:=by
 replace y:=(y.get (h1.app (pM s))).get ((h2.app (pM s)).cons);refine dg f149 func149 _ rfl 34 (by kernel_rfl) y λbb a0 B1 hn f u p S0 S=>?_
 refine VE [uj lb wi num s.k.J] [(3,[(0,(0,2),true)])] F aB (λa wr z=>hB a wr (by omega)) f 23 [(1,(0,2),true),(1,(0,2),true),(4,(0,0),true),(0,(0,0),true),(2,(0,0),true),(0,(0,2),true),(1,(0,1),true)] [] [(11,ptr s.k.J)] (bR B1 (yR ⟨s.l.now,t,num,q,n⟩)::·) 1 [] [] [] 18 30 31 33 55 5 40 6 7 0 (by kernel_rfl) (by kernel_rfl) (by kernel_rfl) (by kernel_rfl) (by kernel_rfl) (by kernel_rfl) (λi r h=>by match i,h with|0,h=>cases h;exact⟨rfl,2,by decide,by decide,rfl⟩) rfl rfl (by decide) (by kernel_rfl) cg cg cg S0 rfl rfl (by decide) rfl W (λ_ _=>rfl) rfl (BR _) (by omega) (by simp only[maxLen];omega) (by omega) λg' cap' N vs' a1 l L A hz D g=>?_
 have Q:=A.size;have S1:St Ok l.heap.size 34 _ _ 0 a1 l:=⟨D,A.sat,rfl⟩;rw[p]at g;generalize hB2:l.heap.size=B2 at*;refine aq F hB f g S1 4 [5,0,0,1] [] [] [] (λM=>bu 5 (0,0) (.slice (some ⟨g',0,none⟩) (s.l.el+1) cap') (M)) 0 5 [] [24] λa2 J I o P U Qz=>?_
 refine cV F I f u o [] (.tuple #[]) ?_;have e:s.l.say t num q n={s.l with el:=s.l.el+1,ev:=upd s.l.ev s.l.el ⟨s.l.now,t,num,q,n⟩}:=by unfold LS.say;rw[hc]
 rw[e]at K;exact K g' cap' vs' J (I.sat.tail.tail.tail.re 3 rfl rfl _ A.upd) A.vc (by omega)
def QM(en:ay)(eb:oV)(es:jg):Prop:=(∀e∈es,e.2.oneCell'=true)/\((en=.slice none 0 0/\es=[]/\eb.c=0)\/
 ∃off cap,en=.slice (some ⟨eb.E,off,none⟩) es.length cap/\eb.c=1/\es.length<=cap/\off+2*cap<=eb.n/\0<eb.n/\∀(j:Nat)(u:ay),(flat es)[j]? =some u->eb.f (off+j)=u)
structure PV(Ok:dw)(s:PS)(es:jg):Prop where
 jr:Vc Ok s.ea s.l.el s.ec
 en:QM s.en s.eb es
 eo:s.eb.c=1->s.k.A<s.eb.E/\∀(a:Addr)(wr:Bool),a.block=s.eb.E->Ok a wr
 fb:∀k,k<s.k.V.nl->(s.k.V.ly k).k=4->qF Ok (s.l.gt k).la (s.f k)
theorem yU{E:Nat}{cur:fW}{t:TypeId}{f:Nat×Nat}(h:w.heap[E]? =some (.cells cur t f)):w.cell? ⟨E,j,none⟩=cur[j]? :=oJ h
theorem wD{eb:oV}(h:Sat Ok w M)(a:nth M i=some (eR eb))(hc:eb.c=1):∃cur,w.heap[eb.E]? =some (.cells cur 128 (0,0))/\cur.size=eb.n/\∀j,j<eb.n->cur[j]? =some (eb.f j):=by
 obtain⟨_,_,cur,e,f⟩:=h.row i _ a eb.E 128 eb.n (by show(match eb.c with|0=>none|_+1=>some (eb.E,128,eb.n))=_;rw[hc]);refine⟨cur,e,f,λj hj=>?_⟩;have:=h.val i _ a (0,j) ⟨by show 0<eb.c;omega,hj⟩;rw[<-yU e];exact this
theorem wC{eb:oV}{N:Nat}(h:Sat Ok w M)(g:nth M i=some (eR eb))(e:QM en eb es)(l:eb.c=1->N<=eb.E):eX N w en es:=by
 refine⟨e.1,e.2.imp (λx=>⟨x.1,x.2.1⟩) ?_⟩
 rintro ⟨off,cap,s,f,p,D,z,o⟩
 obtain⟨cur,y,c2,c3⟩:=wD h g f;refine⟨eb.E,off,cap,cur,s,p,l f,y,by omega,λj u a=>?_⟩;have hl:j<(flat es).length:=(nS.1 a).1;rw[gV]at hl;rw[c3 _ (by omega),o j u a]
theorem Sat.two{K J s p:aJ}{F:aX}(h:Sat Ok w (K::J::F))(I:∀i r,nth F i=some r->∀j,r.has j->w'.cell? (r.ad j)=w.cell? (r.ad j)/\w'.frozen? (r.ad j)=w.frozen? (r.ad j))(L:∀i r,nth F i=some r->∀g e n,r.row=some (g,e,n)->p8 w g e n->p8 w' g e n)(l:Sat Ok w' [s,p])(G:∀i r,nth F i=some r->∀j j',r.has j->(s.has j'->s.ad j'≠r.ad j)/\(p.has j'->p.ad j'≠r.ad j)):Sat Ok w' (s::p::F):=by
 refine⟨λi r a j hj=>?_,λi r a j hj=>?_,λi r y r' a f D j j' hj o u=>?_,λi r a g e n H=>?_⟩
 .match i,a with
  |0,a=>exact l.val 0 r a j hj
  |1,a=>exact l.val 1 r a j hj
  |i+2,a=>rw[(I i r a j hj).1];exact h.val (i+2) r a j hj
 .match i,a with
  |0,a=>exact l.ok 0 r a j hj
  |1,a=>exact l.ok 1 r a j hj
  |i+2,a=>have:=h.ok (i+2) r a j hj;exact⟨this.1,λz=>⟨(this.2 z).1,by rw[(I i r a j hj).2];exact(this.2 z).2⟩⟩
 .match i,a,y,f with
  |0,a,0,f=>exact l.sep 0 r 0 r' a f D j j' hj o u
  |0,a,1,f=>exact l.sep 0 r 1 r' a f D j j' hj o u
  |1,a,0,f=>exact l.sep 1 r 0 r' a f D j j' hj o u
  |1,a,1,f=>exact l.sep 1 r 1 r' a f D j j' hj o u
  |0,a,y+2,f=>cases a;exact absurd u ((G y r' f j' j o).1 hj)
  |1,a,y+2,f=>cases a;exact absurd u ((G y r' f j' j o).2 hj)
  |i+2,a,0,f=>cases f;exact absurd u.symm ((G i r a j j' hj).1 o)
  |i+2,a,1,f=>cases f;exact absurd u.symm ((G i r a j j' hj).2 o)
  |i+2,a,y+2,f=>exact h.sep (i+2) r (y+2) r' a f D j j' hj o u
 .match i,a with
  |0,a=>exact l.row 0 r a g e n H
  |1,a=>exact l.row 1 r a g e n H
  |i+2,a=>have:=h.row (i+2) r a g e n H;exact⟨this.1,this.2.1,L i r a g e n H this.2.2⟩
theorem Sat.Mi{C':List Addr}{A:Nat}{eb:oV}{Q:jg}(h:Sat Ok w (bR A [x,en]::eR eb::M))(hE:QM en eb es)(hA:eb.c=1->A<eb.E)(hB:HB w.heap.size Ok)(Qa:eb.c=1->∀(a:Addr)(wr:Bool),a.block=eb.E->Ok a wr)(hC1:∀a∈C',a.block=A/\a.off≠0)(hC2:∀i r,nth M i=some r->∀j,r.has j->r.ad j∉C')(hk:Kp (bU en) w w' (⟨A,1,none⟩::C'))(hv:w'.cell? ⟨A,1,none⟩=some v)(hf:w'.frozen? ⟨A,1,none⟩=false)(y:eX (A+1) w' v Q)(Od:∀g∈bU v,g∈bU en\/w.heap.size<=g)(ny:0<Q.length)(Of:∀i r g e n,nth M i=some r->r.row=some (g,e,n)->g≠A):
 ∃lC,Sat Ok w' (bR A [x,v]::eR lC::M)/\QM v lC Q/\lC.c=1/\A<lC.E/\∀(a:Addr)(wr:Bool),a.block=lC.E->Ok a wr:=by
 obtain⟨ho,⟨_,z⟩|⟨L,off,cap,cur,e1,e2,e3,e4,e5,e6⟩⟩:=y
 .rw[z]at ny;cases ny
 have P:∀g,g∈bU en↔eb.c=1/\g=eb.E:=λg=>by
  rcases hE.2 with ⟨I,G,z3⟩|⟨o,c,I,G,_⟩
  .rw[I,bq];simp[Value.ownBlock,z3]
  .rw[I,bq];simp[Value.ownBlock,G];exact⟨λh=>h.symm,λh=>h.symm⟩
 have Tx:(eb.c=1/\L=eb.E)\/w.heap.size<=L:=by
  rcases Od L (by rw[e1,bq];simp[Value.ownBlock])with z|z
  .exact .inl ((P _).1 z)
  .exact .inr z
 have J:∀(a:Addr)(wr:Bool),a.block=L->Ok a wr:=λa wr hb=>by
  rcases Tx with ⟨I,G⟩|z
  .exact Qa I a wr (hb.trans G)
  .exact hB a wr (by omega)
 have K:0<cur.size:=by omega
 have SV:∀j,w'.frozen? ⟨L,j,none⟩=false:=λj=>by simp[World.frozen?,e4]
 have W:∀j,j<cur.size->w'.cell? ⟨L,j,none⟩=some (cur.getD j undef):=λj hj=>by
  rw[yU e4];simp[Array.getD,hj]
 have D:∀i r,nth M i=some r->∀j,r.has j->(r.ad j).block∉bU en/\r.ad j∉(⟨A,1,none⟩::C':List Addr):=λi r f j hj=>by
  have l:=h.val (i+2) r f j hj;refine⟨λz=>?_,λz=>?_⟩
  .obtain⟨I,G⟩:=(P _).1 z
   obtain⟨cu,c1,c2,c3⟩:=wD h (i:=1) rfl I
   have N:(r.ad j).off<eb.n/\(r.ad j).spot=none:=by
    unfold World.cell? at l;rw[G,c1]at l
    simp only at l
    cases ue:(r.ad j).spot with
    |none=>rw[ue]at l;simp at l;exact⟨by rw[<-c2];exact(cH.1 l).1,rfl⟩
    |some q=>rw[ue]at l;simp at l
   have Ax:r.ad j=⟨eb.E,(r.ad j).off,none⟩:=by
    cases W0:r.ad j with
    |mk bb oo ss=>rw[W0]at G N;simp at G N;rw[G,N.2]
   have:=h.sep 1 (eR eb) (i+2) r rfl f rfl (0,(r.ad j).off) j ⟨by show 0<eb.c;omega,N.1⟩ hj Ax.symm;omega
  .rcases ak.1 z with z|z
   .have:=h.sep 0 _ (i+2) r rfl f rfl (0,1) j ⟨aG,ij 1⟩ hj z.symm
    omega
   .exact hC2 i r f j hj z
 refine⟨⟨L,cur.size,1,λj=>cur.getD j undef⟩,?_,⟨ho,.inr ⟨off,cap,e1,rfl,e2,e5,K,λj u hu=>?_⟩⟩,rfl,by show A<L;omega,J⟩
 .refine h.two (λi r f j hj=>?_) (λi r f g e n hg hR=>?_) ?_ (λi r f j j' hj=>⟨λF y=>?_,λF y=>?_⟩)
  .obtain⟨b1,b2⟩:=D i r f j hj
   have l:=h.val (i+2) r f j hj;exact⟨(hk.cellC _ _ b1 b2 l).trans l.symm,hk.jR _ _ b1 b2 l⟩
  .obtain⟨cu,c1,c2⟩:=hR
   obtain⟨q1,q2,_⟩:=h.row (i+2) r f g e n hg;obtain⟨b1,b2⟩:=D i r f (0,0) q1;rw[q2]at b1;refine⟨cu,hk.blk g cu e (0,0) b1 (λx Z=>?_) c1,c2⟩
   have hxA:x.block=A:=by
    rcases ak.1 Z with Z|Z
    .rw[Z]
    .exact(hC1 x Z).1
   exact λz=>Of i r g e n f hg (by rw[<-z,hxA])
  .have Vz:w'.cell? ⟨A,0,none⟩=some x/\w'.frozen? ⟨A,0,none⟩=false:=by
    have h0:=h.val 0 _ rfl (0,0) ⟨aG,ER 1⟩;have hn:A∉bU en:=λz=>by obtain⟨I,G⟩:=(P _).1 z;have:=hA I;omega
    have K:(⟨A,0,none⟩:Addr)∉(⟨A,1,none⟩::C':List Addr):=λz=>by
     rcases ak.1 z with z|z
     .simp at z
     .exact(hC1 _ z).2 rfl
    exact⟨hk.cellC _ _ hn K h0,(hk.jR _ _ hn K h0).trans ((h.ok 0 _ rfl (0,0) ⟨aG,ER 1⟩).2 rfl).2⟩
   have S:∀j,j<2->Ok ⟨A,j,none⟩ false/\Ok ⟨A,j,none⟩ true:=λj hj=>by
    have:=h.ok 0 _ rfl (0,j) ⟨aG,hj⟩;exact⟨this.1,(this.2 rfl).1⟩
   refine⟨λi r f j hj=>?_,λi r f j hj=>?_,λi r i' r' f p hw j j' hj F y=>?_,λi r f g e n hg=>?_⟩
   .match i,f with
    |0,f=>
     cases f
     obtain⟨U,H⟩:=j;have s:H<2:=hj.2
     match H,s with
     |0,_=>exact Vz.1
     |1,_=>exact hv
    |1,f=>cases f;exact W _ hj.2
   .match i,f with
    |0,f=>
     cases f
     obtain⟨U,H⟩:=j;have s:H<2:=hj.2;refine⟨(S H s).1,λ_=>⟨(S H s).2,?_⟩⟩
     match H,s with
     |0,_=>exact Vz.2
     |1,_=>exact hf
    |1,f=>cases f;exact⟨J _ _ rfl,λ_=>⟨J _ _ rfl,SV _⟩⟩
   .have TA:A≠L:=by omega
    match i,f,i',p with
    |0,f,0,p=>
     cases f;cases p
     obtain⟨U,H⟩:=j;obtain⟨k1,k2⟩:=j';have h1:U<1:=hj.1;have h2:k1<1:=F.1
     simp at y
     exact⟨rfl,by rw[y];congr 1;omega⟩
    |0,f,1,p=>cases f;cases p;simp at y;exact absurd y.1 TA
    |1,f,0,p=>cases f;cases p;simp at y;exact absurd y.1.symm TA
    |1,f,1,p=>
     cases f;cases p
     obtain⟨U,H⟩:=j;obtain⟨k1,k2⟩:=j';have h1:U<1:=hj.1;have h2:k1<1:=F.1
     simp at y
     exact⟨rfl,by rw[y];congr 1;omega⟩
   .match i,f with
    |0,f=>cases f;cases hg
    |1,f=>cases f;cases hg;exact⟨⟨aG,K⟩,rfl,cur,e4,rfl⟩
  .obtain⟨b1,b2⟩:=D i r f j hj
   obtain⟨U,H⟩:=j';have h1:U<1:=F.1;have s:H<2:=F.2;have:=h.sep 0 _ (i+2) r rfl f rfl (0,H) j ⟨aG,s⟩ hj y;omega
  .obtain⟨b1,b2⟩:=D i r f j hj
   have hb:(r.ad j).block=L:=by rw[<-y]
   rcases Tx with ⟨I,G⟩|z
   .exact b1 ((P _).2 ⟨I,hb.trans G⟩)
   .have:=au (h.val (i+2) r f j hj)
    omega
 .have hl:j<(flat Q).length:=(nS.1 hu).1
  rw[gV]at hl;have:=e6 j u hu
  show cur.getD (off+j) undef=u
  rw[o9,this];rfl
theorem Sat.bQ{A:Nat}{eb:oV}{f:jg}(h:Sat Ok w (bR A [x,en]::eR eb::M))(F:QM en eb es)(G:eb.c=1->A<eb.E)(hB:HB w.heap.size Ok)(o:eb.c=1->∀(a:Addr)(wr:Bool),a.block=eb.E->Ok a wr)(hk:Kp (bU en) w w' [⟨A,1,none⟩])(u:w'.cell? ⟨A,1,none⟩=some v)(y:w'.frozen? ⟨A,1,none⟩=false)(D:eX (A+1) w' v f)(l:∀g∈bU v,g∈bU en\/w.heap.size<=g)(s:0<f.length)(p:∀i r g e n,nth M i=some r->r.row=some (g,e,n)->g≠A):
 ∃lC,Sat Ok w' (bR A [x,v]::eR lC::M)/\QM v lC f/\lC.c=1/\A<lC.E/\∀(a:Addr)(wr:Bool),a.block=lC.E->Ok a wr:=
 h.Mi F G hB o (C':=[]) (λa z=>by cases z) (λ_ _ _ _ _ z=>by cases z) hk u y D l s p
def Flat(C:aX):Prop:=∀i r,nth C i=some r->r.row=none
theorem Flat.cons(h:Flat C)(a:r.row=none):Flat (r::C):=λi x e=>by
 rcases cB e with ⟨k,rfl,f⟩|⟨rfl,rfl⟩
 .exact h k x f
 .exact a
theorem Flat.nil:Flat []:=λi r h=>by cases h
theorem Flat.app(e:Flat A)(hc:Flat C):Flat (A++C):=λi r a=>by
 rw[bV]at a
 split at a
 .exact e i r a
 .exact hc _ r a
theorem Flat.left(h:Flat (A++C)):Flat A:=λi r a=>h i r (by rw[bV,ah (qO _ _ _ a)];exact a)
theorem Flat.right(h:Flat (A++C)):Flat C:=λi r a=>h (A.length+i) r (by rw[bV,af (by omega),EL];exact a)
theorem Flat.tail(h:Flat (r::C)):Flat C:=λi x a=>h (i+1) x a
theorem Sat.Zw{f:aJ}(h:Sat Ok w (A++(r::f::C))):Sat Ok w (A++(f::r::C)):=by
 refine h.map (λi=>if i=A.length then i+1 else if i=A.length+1 then A.length else i) (λi r' a=>⟨r',?_,.inl rfl⟩) (λi j r' a g e=>?_)
 .rw[bV]at a ⊢
  by_cases e1:i=A.length
  .subst e1
   rw[af (by omega),Nat.sub_self]at a;rw[ah rfl,af (by omega),EL];exact a
  .by_cases e2:i=A.length+1
   .subst e2
    rw[af (by omega),EL]at a;rw[af e1,ah rfl,af (by omega),Nat.sub_self];exact a
   .rw[af e1,af e2]
    split at a
    .rename_i z;rw[ah z];exact a
    .rename_i z
     rw[af z];obtain⟨k,hk⟩:∃k,i-A.length=k+2:=⟨i-A.length-2,by omega⟩;rw[hk]at a ⊢;exact a
 .split at e
  .split at e
   .omega
   .split at e<;>omega
  .split at e
   .split at e
    .omega
    .split at e<;>omega
   .split at e
    .omega
    .split at e<;>omega
theorem Sat.HC{Ok:dw}{w:aj}{A C:aX}:∀{X:aX},Sat Ok w (A++(X++C))->Sat Ok w (A++C)
 |[],h=>h
 |_::X,h=>Sat.HC (X:=X) h.D6
def EY(x:Nat):Value:=.func (.func 144) #[ptr x] #[]
def ia(s:PS)(i:Nat):Int×Value:=((s.l.ag i).a,if(s.l.ag i).c=0 then s.k.sc (s.l.ag i).t.toNat else EY (s.wb (s.l.ag i).w.toNat))
def bQ(s:PS):List (Int×Value):=s.q.map (ia s)
def fU(ag:Nat->rj)(i j:Nat):Prop:=(ag i).a<(ag j).a\/((ag i).a=(ag j).a/\i<j)
structure QI(s:PS):Prop where
 lt:∀i∈s.q,i<s.l.al/\(s.l.ag i).o=false
 all:∀i,i<s.l.al->(s.l.ag i).o=false->i∈s.q
 Bw:s.q.Pairwise (fU s.l.ag)
 ws:∀i∈s.q,(s.l.ag i).c=0\/∃w:Nat,(s.l.ag i).w=w/\w<s.l.wl
abbrev PS.cY(s:PS)(t:Nat)(ly d:Int)(i x:Nat)(en:ay)(eb:oV):PS:={s with en:=en,eb:=eb,q:=s.q.take i++s.l.al::s.q.drop i,wb:=upd s.wb s.l.wl x,l:=s.l.wait t ly d}
theorem oG(s:PS):(bQ s).length=s.q.length:=by simp[bQ]
theorem xZ{ag:Nat->rj}{q:aP}(h:q.Pairwise (fU ag))(a:i<j)(hj:j<q.length):fU ag (q[i]'(by omega)) q[j]:=MQ.1 h i j (by omega) hj a
theorem QI.cY{s:PS}(Q:QI s){t:Nat}{ly d:Int}{i x:Nat}{en:ay}{eb:oV}(hi:i<=s.q.length)(U:kP (bQ s) (s.l.now+d) i):QI (s.cY t ly d i x en eb)/\bQ (s.cY t ly d i x en eb)=(bQ s).take i++(s.l.now+d,EY x)::(bQ s).drop i:=by
 have a:∀j,j<s.l.al->(s.cY t ly d i x en eb).l.ag j=s.l.ag j:=λj hj=>by show upd _ _ _ j=_;simp only[upd];rw[af];rfl;exact xx hj
 have o:(s.cY t ly d i x en eb).l.ag s.l.al=⟨s.l.now+d,t,s.l.wl,1,false⟩:=by show upd _ _ _ _=_;simp only[upd];rw[ah];rfl
 have g:∀j,j∈(s.cY t ly d i x en eb).q↔j=s.l.al\/j∈s.q:=λj=>by
  show j∈s.q.take i++s.l.al::s.q.drop i↔_
  conv=>rhs;rhs;rw[<-zB i s.q]
  simp only[dZ,ak]
  constructor
  .rintro (h|h|h)
   .exact .inr (.inl h)
   .exact .inl h
   .exact .inr (.inr h)
  .rintro (h|h|h)
   .exact .inr (.inl h)
   .exact .inl h
   .exact .inr (.inr h)
 have f:(s.cY t ly d i x en eb).l.al=s.l.al+1:=rfl;have u:(s.cY t ly d i x en eb).l.wl=s.l.wl+1:=rfl
 have y:∀j∈s.q,ia (s.cY t ly d i x en eb) j=ia s j:=λj hj=>by
  have l:=(Q.lt j hj).1;unfold ia;rw[a j l];rcases Q.ws j hj with z|⟨w,H,Z⟩
  .rw[ah z,ah z]
  .have:upd s.wb s.l.wl x (s.l.ag j).w.toNat=s.wb (s.l.ag j).w.toNat:=by rw[H];simp only[tE,upd];rw[af (by omega)]
   show(_,if _ then _ else EY (upd s.wb s.l.wl x (s.l.ag j).w.toNat))=_
   rw[this]
 refine⟨⟨λj hj=>?_,λj h1 W=>?_,?_,λj hj=>?_⟩,?_⟩
 .rcases(g j).1 hj with rfl|hj
  .rw[o,f];exact⟨by omega,rfl⟩
  .rw[a j (Q.lt j hj).1,f];have:=Q.lt j hj;exact⟨by omega,this.2⟩
 .rw[g]
  by_cases e:j=s.l.al
  .exact .inl e
  .have hj:j<s.l.al:=by rw[f]at h1;omega
   rw[a j hj]at W;exact .inr (Q.all j hj W)
 .show(s.q.take i++s.l.al::s.q.drop i).Pairwise _
  have I:∀j∈s.q,∀k∈s.q,fU s.l.ag j k->fU (s.cY t ly d i x en eb).l.ag j k:=λj hj k hk h=>by
   unfold fU;rw[a j (Q.lt j hj).1,a k (Q.lt k hk).1];exact h
  have F:=Q.Bw;rw[<-zB i s.q,xu]at F;obtain⟨p1,p2,p3⟩:=F;have D:∀j∈s.q.take i,j∈s.q:=λj hj=>CY hj
  have G:∀j∈s.q.drop i,j∈s.q:=λj hj=>CX hj
  rw[xu,dI];refine⟨EM (λP N h=>I _ (D _ P) _ (D _ N) h) p1,⟨λj hj=>?_,EM (λP N h=>I _ (G _ P) _ (G _ N) h) p2⟩,λj hj k hk=>?_⟩
  .unfold fU
   rw[o,a j (Q.lt j (G j hj)).1]
   left
   obtain⟨n,p⟩:=CW hj;rw[EE]at p;have:=U.gt (i+n) (ia s j) (by omega) (by simp[bQ,p]);exact this
  .rcases ak.1 hk with rfl|hk
   .unfold fU
    rw[o,a j (Q.lt j (D j hj)).1]
    have hle:(s.l.ag j).a<=s.l.now+d:=by
     obtain⟨n,p⟩:=CW hj;rw[List.getElem?_take]at p
     split at p
     .rename_i hni
      have L:0<i:=by omega
      have l:i-1<s.q.length:=by omega
      have hl:=U.le (ia s (s.q[i-1])) L (by simp[bQ,l]);have J:(s.l.ag (s.q[i-1])).a<=s.l.now+d:=hl;rcases MF (show n<=i-1 by omega)with e|e
      .subst e
       rw[oY l]at p;cases p;exact J
      .have S:=xZ Q.Bw e l
       have K:s.q[n]'(by omega)=j:=by rw[oY (by omega)]at p;exact Option.some.inj p
       rw[K]at S;rcases S with z|z
       .omega
       .omega
     .cases p
    have:=(Q.lt j (D j hj)).1
    show(s.l.ag j).a<s.l.now+d\/((s.l.ag j).a=s.l.now+d/\j<s.l.al)
    omega
   .exact I _ (D j hj) _ (G k hk) (p3 j hj k hk)
 .rcases(g j).1 hj with rfl|hj
  .rw[o,u];exact .inr ⟨s.l.wl,rfl,by omega⟩
  .rw[a j (Q.lt j hj).1,u]
   exact(Q.ws j hj).imp id fun⟨w,H,Z⟩=>⟨w,H,by omega⟩
 .show(s.q.take i++s.l.al::s.q.drop i).map _=_
  rw[List.map_append,nT,bQ,<-List.map_take,<-List.map_drop]
  congr 1
  .exact zA λj hj=>y j (CY hj)
  .congr 1
   .unfold ia
    rw[o];have e1:upd s.wb s.l.wl x ((s.l.wl:Int)).toNat=x:=by simp[upd]
    simp only
    rw[af (by decide),e1]
   .exact zA λj hj=>y j (CX hj)
theorem Ro(F:aC prog main (DX Ok) Ψ)(hB:HB B Ok){s:PS}(t:Int)(fn:Fn)(fst cap:fW)(D:Sat Ok w (pM s++C))(u:PV Ok s es)(hC:Flat C)(gp:B<=w.heap.size)(hq:es.length<900)(K:∀i en eb w',i<=es.length->kP es t i->Sat Ok w' (pM {s with en:=en,eb:=eb}++C)->PV Ok {s with en:=en,eb:=eb} (es.take i++(t,.func fn fst cap)::es.drop i)->w.heap.size<=w'.heap.size->Ψ (G (cf.finish (.tuple #[])) cs) w'):
 Ψ (G (Frame.enter prog 49 #[ptr s.k.A,i6 t,.func fn fst cap] .normal) (cf::cs)) w:=by
 have y:=D.ok 0 _ rfl (0,1) ⟨aG,ij 1⟩;have J:=D.val 0 _ rfl (0,1) ⟨aG,ij 1⟩;have Vy:=au J;have he:eX (s.k.A+1) w s.en es:=wC (i:=1) D rfl u.en λz=>(u.eo z).1
 have Q:∀g,g∈bU s.en->s.eb.c=1/\g=s.eb.E:=λg f=>by
  rcases u.en.2 with ⟨H,L,z3⟩|⟨o,c,H,L,_⟩
  .rw[H,bq]at f;simp[Value.ownBlock]at f
  .rw[H,bq]at f;simp[Value.ownBlock]at f;exact⟨L,f.symm⟩
 refine FP (s.k.A+1) s.k.A t fn fst cap s.en es w (by exact Vy) (ij _) hq he J (y.2 rfl).2 y.1 (y.2 rfl).1 (λa wr h=>?_) Ψ F cf cs λv w' hp=>?_
 .rcases h with h|h
  .obtain⟨H,L⟩:=Q _ h;exact(u.eo H).2 a wr L
  .exact hB a wr (by omega)
 .obtain⟨rfl,hk,v',i,hi,U,c1,c2,c3,c4⟩:=hp
  have I:(es.take i++(t,Value.func fn fst cap)::es.drop i).length=es.length+1:=by simp;omega
  have S:∀i r g e n,nth ([bR s.k.J [.slice s.ea s.l.el s.ec],vR s.ea 5 (λj=>yR (s.l.ev j)) s.l.el s.ec 55,sR s.ea 5 s.vv s.l.el s.ec,fR ⟨s.k.HD,0,none⟩ 1 (λj=>[i6 (s.l.us j)]) s.k.V.nc true,fR ⟨s.k.O,0,none⟩ 4 (λj=>zm (s.l.ou j,s.oh j)) s.k.V.nc true]++C) i=some r->r.row=some (g,e,n)->g≠s.k.A:=λi r g e n l f=>by
   match i,l with
   |0,l=>cases l;cases f
   |1,l=>
    cases l
    cases p:s.ea with
    |none=>rw[p]at f;cases f
    |some a=>
     obtain⟨P,N,_⟩:=D.row 3 _ rfl g e n f;intro Z;rw[p]at P N;rcases u.jr.row with ⟨z,_⟩|⟨gg,z,_⟩
     .rw[p]at z;cases z
     .rw[p]at z;cases z
      have W:gg=g:=N;have:=D.sep 0 _ 3 _ rfl rfl rfl (0,0) (0,0) ⟨aG,ER 1⟩ (by rw[p];exact P) (by rw[p];show(⟨s.k.A,0,none⟩:Addr)=((⟨gg,0,none⟩:Addr).add (0*5)).add 0;rw[add_add,W,Z]);omega
   |2,l=>cases l;cases f
   |3,l=>cases l;cases f
   |4,l=>cases l;cases f
   |i+5,l=>rw[hC i r l]at f;cases f
  obtain⟨lC,P,N,q3,q4,q5⟩:=Sat.bQ D u.en (λz=>(u.eo z).1) (λa wr z=>hB a wr (by omega)) (λz=>(u.eo z).2) hk c1 c2 c3 c4 (by rw[I];omega) S;exact K i v' lC w' hi U P ⟨u.jr,N,λ_=>⟨q4,q5⟩,u.fb⟩ hk.size
theorem uM(F:aC prog main (DX Ok) Ψ)(hB:HB B Ok){s:PS}(D:Sat Ok w (pM s++C))(H:Has C (zL T s.k.A t aR))(hv:PV Ok s (bQ s))(Q:QI s)(hC:Flat C)(gp:B<=w.heap.size)(hq:s.q.length<900)(Vf:-4611686018427387904<=s.l.now+d)(Og:s.l.now+d<4611686018427387904)(K:∀i x en eb w',Sat Ok w' (pM (s.cY t ly d i x en eb)++(bR x [ptr T,i6 0]::C))->PV Ok (s.cY t ly d i x en eb) (bQ (s.cY t ly d i x en eb))->QI (s.cY t ly d i x en eb)->i<=s.q.length->w.heap.size<=x->x<w'.heap.size->Ψ (G (cf.finish (ptr x)) cs) w'):
 Ψ (G (Frame.enter prog 152 #[ptr T,i6 d] .normal) (cf::cs)) w:=by
 replace D:=D.get (H.app (pM s));refine dg f152 func152 _ rfl 26 (by kernel_rfl) D λbb a0 B1 hn e y u S0 U=>?_
 have hw:IntKind.wrap .i64 (s.l.now+d)=s.l.now+d:=aA (by omega) (by omega);refine aq F hB e u S0 13 [1,0,0,1,1,0,0,1,2,0,0,1] [] [15] [(23,.func (Fn.func 144) #[ptr B1] #[]),(21,i6 (IntKind.wrap .i64 (s.l.now+d))),(12,ptr s.k.A),(5,ptr B1)] (λM=>bR (B1) [ptr T,i6 0]::(M)) 1 13 [] [15] λa1 L I p S jA dS=>?_
 rw[hw]at I;refine bK F e p I 24 49 #[ptr s.k.A,i6 (s.l.now+d),.func (Fn.func 144) #[ptr B1] #[]] λgJ f=>?_
 have z:Sat Ok L (pM s++(bR B1 [ptr T,i6 0]::C)):=Sat.back (A:=pM s) (Sat.D6 (A:=[bR B1 [ptr T,i6 0]]) I.sat);refine Ro F hB (s.l.now+d) (.func 144) #[ptr B1] #[] z hv (hC.cons rfl) (by omega) (by rw[oG];exact hq) λi en eb w2 l h H a Z=>f _ _ _ H λa2 B2 S2 o P=>?_
 rw[oG]at l;refine bP F hB e y o S2 6 [] [] [] 4 (ptr B1) (λM=>M) 0 20 [] [15] λJ S3 N W=>?_
 obtain⟨Q',e'⟩:=Q.cY (t:=t) (ly:=ly) (x:=B1) (en:=en) (eb:=eb) l h;have g:PV Ok (s.cY t ly d i B1 en eb) (bQ (s.cY t ly d i B1 en eb)):=by rw[e'];exact⟨a.jr,a.en,a.eo,a.fb⟩
 exact K i B1 en eb J S3.sat g Q' l (by omega) (by omega)
theorem xK(F:aC prog main (DX Ok) Ψ)(hB:HB B Ok){s:PS}{e:Bool}(hS:Sat Ok w (pM s++(fI T v e::C)))(z:Has C (zL T s.k.A t aR))(Z:PV Ok s (bQ s))(Q:QI s)(hC:Flat C)(gp:B<=w.heap.size)(hq:s.q.length<900)(l:-4611686018427387904<=s.l.now+d)(h:s.l.now+d<4611686018427387904)(K:∀i x en eb w',Sat Ok w' (pM (s.cY t ly d i x en eb)++(fI T (ptr x) e::bR x [ptr T,i6 0]::C))->PV Ok (s.cY t ly d i x en eb) (bQ (s.cY t ly d i x en eb))->QI (s.cY t ly d i x en eb)->i<=s.q.length->w.heap.size<=x->x<w'.heap.size->Ψ (G (cf.finish (ptr x)) cs) w'):
 Ψ (G (Frame.enter prog 162 #[ptr T,i6 d] .normal) (cf::cs)) w:=by
 refine dg f162 func162 _ rfl 15 (by kernel_rfl) hS λbb a0 B1 hn a y u S0 N=>?_
 refine aq F hB a u S0 9 [] [] [] [(7,i6 d),(6,ptr T),(5,ptr T),(0,ptr T)] (λM=>M) 0 9 [] [] λa1 w1 D p L S dS=>?_
 refine bK F a p D 8 152 #[ptr T,i6 d] λgJ f=>?_
 refine uM (ly:=ly) F hB D.sat (z.cons) Z Q (hC.cons rfl) (by omega) hq l h λi x en eb w2 z g Q2 hi W U=>f _ _ _ z λa2 B2 S2 o J=>?_
 refine bP F hB a y o S2 12 [8,0,0,1,8,0,0,1] [] [] 4 (ptr x) (λM=>bu 8 (0,0) (ptr x) (M)) 0 22 [] [] λH S3 I P=>?_
 exact K i x en eb H (Sat.Zw (A:=pM (s.cY t ly d i x en eb)) S3.sat) g Q2 hi (by omega) (by omega)
def BV(k:PK)(j:Nat):Value:=if j=k.V.nl then .iface 138 (ptr (k.lb j))else if(k.V.ly j).k=1 then .iface 141 (ptr (k.lb j))else if(k.V.ly j).k=3 then .iface 147 (ptr (k.lb j))else if(k.V.ly j).k=4 then .iface 150 (ptr (k.lb j))else .iface 144 (ptr (k.lb j))
structure ze(k:PK)(C:aX):Prop where
 lay:∀j,j<k.V.nl->Has C (uj (k.lb j) (BV k (j+1)) j k.J)
 Jd:∀j,j<k.V.nl->(k.V.ly j).k=1->Has C (oR (k.lb j) 3 [i6 (k.V.ly j).a,i6 (k.V.ly j).b,i6 (k.V.ly j).c,i6 (k.V.ly j).d] false)
 Ns:∀j,j<k.V.nl->(k.V.ly j).k=3->Has C (oR (k.lb j) 3 [i6 (k.V.ly j).a,i6 (k.V.ly j).b] false)
 Ms:∀j,j<k.V.nl->(k.V.ly j).k=4->Has C (oR (k.lb j) 3 [i6 (k.V.ly j).a,i6 (k.V.ly j).b,i6 (k.V.ly j).c,i6 (k.V.ly j).d,i6 (k.V.ly j).e] false)
 QG:Has C (uj (k.lb k.V.nl) .nilIface (-1) k.J)
 YZ:Has C (oR (k.lb k.V.nl) 3 [.slice (some k.ca) k.V.nc k.cc,.slice (some ⟨k.HD,0,none⟩) k.V.nc k.V.nc] false)
 QB:Has C (fR k.ca 2 (λj=>[i6 (k.V.st j),.slice (k.dH j) (k.V.nt j) (k.dU j)]) k.V.nc false)
 xH:∀c,c<k.V.nc->0<k.V.nt c->∃ta,k.dH c=some ta/\Has C (fR ta 3 (λj=>tL (k.V.tr c j)) (k.V.nt c) false)
 nL:∀i,i<k.V.nc->Has C (zL (k.T i) k.A i (k.aR i))
 err:Has C (oR 0 0 [.iface 217 (.agg #[.pointer (some ⟨1,121,none⟩)])] false)
theorem ze.cons{k:PK}{C:aX}{r:aJ}(h:ze k C):ze k (r::C):=⟨λj hj=>(h.lay j hj).cons,λj hj hk=>(h.Jd j hj hk).cons,λj hj hk=>(h.Ns j hj hk).cons,λj hj hk=>(h.Ms j hj hk).cons,h.QG.cons,h.YZ.cons,h.QB.cons,λc hc z=>by
 obtain⟨ta,f,e⟩:=h.xH c hc z;exact⟨ta,f,e.cons⟩,λi a=>(h.nL i a).cons,h.err.cons⟩
theorem ze.app{k:PK}{C:aX}(h:ze k C):∀A:List aJ,ze k (A++C)
 |[]=>h
 |_::A=>(h.app A).cons
structure Gu(t:Nat)(s0 s:PS):Prop where
 k:s.k=s0.k
 q:s.q=s0.q
 wb:s.wb=s0.wb
 al:s.l.al=s0.l.al
 ag:s.l.ag=s0.l.ag
 wl:s.l.wl=s0.l.wl
 wt:s.l.wt=s0.l.wt
 now:s.l.now=s0.l.now
 tl:s.l.tl=s0.l.tl
 tk:∀j,j≠t->s.l.tk j=s0.l.tk j
 us:∀j,j≠t->s.l.us j=s0.l.us j
 ou:∀j,j≠t->s.l.ou j=s0.l.ou j/\s.oh j=s0.oh j
theorem Gu.refl(t:Nat)(s:PS):Gu t s s:=⟨rfl,rfl,rfl,rfl,rfl,rfl,rfl,rfl,rfl,λ_ _=>rfl,λ_ _=>rfl,λ_ _=>⟨rfl,rfl⟩⟩
theorem Gu.trans{t:Nat}{g f e:PS}(h:Gu t g f)(a:Gu t f e):Gu t g e:=⟨a.k.trans h.k,a.q.trans h.q,a.wb.trans h.wb,a.al.trans h.al,a.ag.trans h.ag,a.wl.trans h.wl,a.wt.trans h.wt,a.now.trans h.now,a.tl.trans h.tl,λj hj=>(a.tk j hj).trans (h.tk j hj),λj hj=>(a.us j hj).trans (h.us j hj),λj hj=>⟨(a.ou j hj).1.trans (h.ou j hj).1,(a.ou j hj).2.trans (h.ou j hj).2⟩⟩
structure TE(γ:Type) where
 Ok:γ->Addr->Bool->Prop
 Ψ:γ->Goroutine->World->Prop
 Bd:γ->Nat
 O:γ->List aJ
 s0:γ->PS
 qT:γ->Nat
abbrev TE.P{γ:Type}(E:TE γ)(p:γ)(s:PS):List aJ:=gS s++E.O p
structure Cn{γ:Type}(E:TE γ)(kk:PK)(t:Nat)(p:γ)(s:PS)(w:aj)(v:ay)(R:aX):Prop where
 sat:Sat (E.Ok p) w (pM s++(fI (kk.T t) v false::(R++E.P p s)))
 pv:PV (E.Ok p) s (bQ s)
 qi:QI s
 fl:Flat (R++E.O p)
 fJ:ze kk R
 bd:E.Bd p<=w.heap.size
 gu:Gu t (E.s0 p) s
 hk:s.k=kk
 ql:s.q.length<900
def zh(V:Ev0)(Lf:LS)(m t wn:Nat)(L:LS):Prop:=xg V t L/\(((L.wt wn).l=V.nl/\∃y ch,(L.wt wn).b.ch=y::ch/\Fin V Lf m (some (t,V.nl,some ⟨(L.wt wn).b.k,(L.wt wn).b.n,ch⟩)) (L.say t (-1) 2 y.n))\/
 (∃k:Nat,k<V.nl/\(V.ly k).k=1/\(L.wt wn).l=k/\Fin V Lf m (some (t,k+1,none)) L))
def LS.NI(L:LS)(wn:Nat)(b:Bk):LS:={L with wt:=upd L.wt wn {L.wt wn with b:=b}}
structure l7{γ:Type}(E:TE γ)(kk:PK)(Lf:LS)(t:Nat):Prop where
 V:vf kk.V
 tn:t<kk.V.nc
 f:∀p,aC prog false (DX (E.Ok p)) (E.Ψ p)
 hB:∀p (a:Addr) (wr:Bool),E.Bd p<=a.block->E.Ok p a wr
 wait:∀(p:γ)(s:PS)(w:aj)(i x:Nat)(en:ay)(eb:oV)(ly:Nat)(d:Int)(b:Bk)(c:aE)(cs:cW)(R:aX)(v:ay)(m:Nat),Gu t (E.s0 p) s->s.k=kk->ly<=kk.V.nl->i<=s.q.length->
  Sat (E.Ok p) w (pM (s.cY t ly d i x en eb)++(fI (kk.T t) v false::bR x [ptr (kk.T t),i6 0]::(R++E.P p s)))->PV (E.Ok p) (s.cY t ly d i x en eb) (bQ (s.cY t ly d i x en eb))->QI (s.cY t ly d i x en eb)->Flat (R++E.O p)->ze kk R->E.Bd p<=w.heap.size->Fin kk.V Lf m none ((s.l.wait t ly d).NI s.l.wl b)->m<=E.qT p->
  (∀p' s' w' m',m'<m->m'<=E.qT p'->Cn E kk t p' s' w' v R->zh kk.V Lf m' t s.l.wl s'.l->(s'.l.wt s.l.wl).l=ly->(s'.l.wt s.l.wl).b=b->(s'.l.tk t).a=(s.l.tk t).a->s'.l.us t=s.l.us t->(s'.l.tk t).q=(s.l.tk t).q->E.Ψ p' (G (c.finish (i6 1)) cs) w')->
  E.Ψ p (G (Frame.enter prog 153 #[ptr x] .normal) (c::cs)) w
theorem Cn.YF{E:TE γ}{kk:PK}{p:γ}{s:PS}(C:Cn E kk t p s w v R):Flat (R++E.P p s):=C.fl.left.app (Flat.app (λi r a=>AG s r (by rw[dN]at a;exact tH a)) C.fl.right)
section
variable{E:TE γ}{kk:PK}{Lf:LS}
theorem IY(W:l7 E kk Lf t){p:γ}{s:PS}(C:Cn E kk t p s w v R)(LL:0<=s.l.now/\s.l.now<1000000000000)(hd:0<=d/\d<=100000)(b:Bk)(hf:Fin kk.V Lf m none ((s.l.wait t kk.V.nl d).NI s.l.wl b))(y:m<=E.qT p)(K:∀f e w' g,g<m->g<=E.qT f->Cn E kk t f e w' v R->zh kk.V Lf g t s.l.wl e.l->(e.l.wt s.l.wl).l=(kk.V.nl:Int)->(e.l.wt s.l.wl).b=b->(e.l.tk t).a=(s.l.tk t).a->e.l.us t=s.l.us t->(e.l.tk t).q=(s.l.tk t).q->E.Ψ f (G (c.finish (.tuple #[])) cs) w'):
 E.Ψ p (G (Frame.enter prog 150 #[ptr (kk.T t),i6 d] .normal) (c::cs)) w:=by
 have F:=W.f p;have hB:=W.hB p;have wY:=C.bd;have hS:=C.sat;refine dg f150 func150 _ rfl 8 (by kernel_rfl) hS λbb a0 B1 hn a P N S0 iI=>?_
 refine aq F hB a N S0 3 [] [] [] [(5,i6 d),(4,ptr (kk.T t))] (λM=>M) 0 3 [] [] λa1 w1 S1 L iH jA dS=>?_
 refine bK F a L S1 6 152 #[ptr (kk.T t),i6 d] λgJ l=>?_
 have D:=C.hk;refine uM (t:=t) (aR:=kk.aR t) (ly:=kk.V.nl) F hB S1.sat (by rw[D];exact((C.fJ.nL t W.tn).pre _).cons) C.pv C.qi (C.YF.cons rfl) (by omega) C.ql (by omega) (by omega) λi x en eb w2 h2 o Q2 hi Sa R9=>l _ _ _ h2 λa2 B2 Z J fV=>?_
 refine Mm F a J 7 153 #[ptr x] (by kernel_rfl) (by kernel_rfl) (by decide) Z λQ h=>?_
 refine W.wait p s w2 i x en eb kk.V.nl d b Q _ R v m C.gu C.hk (az _) hi (Sat.Zw (A:=pM (s.cY t kk.V.nl d i x en eb)) Z.sat) o Q2 C.fl C.fJ (by omega) hf y λf e w3 g u z C' f1 f2 f3 f4 f5 f6=>h.ret _ _ _ _ _ C'.sat λa3 B3 S3 I gQ=>?_
 have S:=C'.bd;replace F:=W.f f;replace hB:=W.hB f;refine aq F hB a I S3 1 [] [] [] [] (λM=>M) 0 6 [] [] λa4 w4 U H jP oB TR=>?_
 refine cV F U a P H [] (.tuple #[]) ?_;exact K f e w4 g u z {C' with sat:=U.sat,bd:=by omega} f1 f2 f3 f4 f5 f6
end
abbrev QO(Ok:dw)(Ψ:gi)(B:Nat)(M:aX)(f:Nat)(args:fW)(v:ay):Prop:=∀(cf:aE)(cs:cW)(w':aj)(M':aX),(∀r,Has M r->Has M' r)->Sat Ok w' M'->B<=w'.heap.size->(∀w2,Sat Ok w2 M'->w'.heap.size<=w2.heap.size->Ψ (G (cf.finish v) cs) w2)->Ψ (G (Frame.enter Tryz.prog f args .normal) (cf::cs)) w'
abbrev PS.zl(s:PS)(t:Nat)(n:Int):PS:={s with l:={s.l with us:=upd s.l.us t n}}
theorem Kz(F:aC prog main (DX Ok) Ψ)(hB:HB B Ok){s:PS}(p:Sat Ok w (pM s++C))(hc:ze s.k C)(ht:t<s.k.V.nc)(u:s.l.us t=n)(qV:n<1000000)(gp:B<=w.heap.size)(K:∀w',Sat Ok w' (pM (s.zl t (n+1))++C)->w.heap.size<=w'.heap.size->Ψ (G (cf.finish (.tuple #[i6 n,.agg (tL (aU s.k.V t n)).toArray])) cs) w'):
 Ψ (G (Frame.enter prog 147 #[ptr (s.k.lb s.k.V.nl),i6 t] .normal) (cf::cs)) w:=by
 replace p:=(p.get (hc.YZ.app (pM s))).get ((hc.QB.app (pM s)).cons);have hw:IntKind.wrap .i64 ((n:Int)+1)=(n:Int)+1:=aA (by omega) (by omega)
 by_cases y:n<s.k.V.nt t
 .obtain⟨ta,Q,h5⟩:=hc.xH t ht (by omega)
  replace p:=p.get ((h5.app (pM s)).cons.cons);refine dg f147 func147 _ rfl 43 (by kernel_rfl) p λbb a0 B1 hn a o l Z L=>?_
  refine bA F hB a l Z 26 [3,0,1,1,9,t,0,101,3,0,1,1,9,t,0,101] [2,2] [] [(22,i6 (IntKind.wrap .i64 (s.l.us t+1))),(19,i6 t),(18,.slice (some ⟨s.k.HD,0,none⟩) s.k.V.nc s.k.V.nc),(6,i6 (s.l.us t)),(5,ptr B1),(0,ptr (s.k.lb s.k.V.nl)),(1,i6 t)] (λM=>bR (B1) [i6 0,i6 0,i6 0]::(M)) 1 26 [] [] [] [((↑t:Int),s.k.V.nc),((↑t:Int),s.k.V.nc)] [(2,(t,s.k.V.nc))] λa1 w1 H h J P W=>?_
  rw[u,hw]at H;refine bA F hB a h H 25 [9,t,0,101,3,0,0,1,2,t,1,101] [2,2,2] [] [(7,.slice (s.k.dH t) (s.k.V.nt t) (s.k.dU t)),(6,i6 n),(5,ptr B1)] (λM=>bu 9 (t,0) (i6 ((↑n:Int)+1)) (M)) 1 51 [true] [] [(decide ((↑n:Int)<(↑(s.k.V.nt t):Int)),true)] [((↑t:Int),s.k.V.nc),((↑t:Int),s.k.V.nc)] [(2,(t,s.k.V.nc))] λa2 w2 D g I N U=>?_
  rw[Q]at D;refine bA F hB a g D 3 [1,n,0,103,0,0,0,3] [2] [6] [(4,i6 n),(5,ptr B1)] (λM=>bu 0 (0,2) (i6 (s.k.V.tr t n).t) (bu 0 (0,1) (i6 (s.k.V.tr t n).n) (bu 0 (0,0) (i6 (s.k.V.tr t n).k) (M)))) 1 54 [true] [6] [] [((↑n:Int),s.k.V.nt t)] [(3,(n,s.k.V.nt t))] λa3 w3 S3 S gQ ji dX=>?_
  refine cV F S3 a o S [0,0,0,3] (.tuple #[i6 n,.agg #[i6 (s.k.V.tr t n).k,i6 (s.k.V.tr t n).n,i6 (s.k.V.tr t n).t]]) ?_;have e:aU s.k.V t n=s.k.V.tr t n:=by unfold aU;rw[ah y]
  rw[e]at K;exact K w3 (S3.sat.tail.tail.tail.tail.re 5 rfl rfl _ λj _ f _=>fN (C:=λz=>[i6 z]) rfl aG j f) (by omega)
 .refine dg f147 func147 _ rfl 43 (by kernel_rfl) p λbb a0 B1 hn a o l Z L=>?_
  refine bA F hB a l Z 26 [2,0,1,1,8,t,0,101,2,0,1,1,8,t,0,101] [2,2] [] [(22,i6 (IntKind.wrap .i64 (s.l.us t+1))),(19,i6 t),(18,.slice (some ⟨s.k.HD,0,none⟩) s.k.V.nc s.k.V.nc),(6,i6 (s.l.us t)),(5,ptr B1),(0,ptr (s.k.lb s.k.V.nl)),(1,i6 t)] (λM=>bR (B1) [i6 0,i6 0,i6 0]::(M)) 1 26 [] [] [] [((↑t:Int),s.k.V.nc),((↑t:Int),s.k.V.nc)] [(2,(t,s.k.V.nc))] λa1 w1 H h J P W=>?_
  rw[u,hw]at H;refine bA F hB a h H 32 [8,t,0,101,2,0,0,1,1,t,1,101,0,0,0,3] [2,2,0] [] [(4,i6 n),(5,ptr B1)] (λM=>bu 8 (t,0) (i6 ((↑n:Int)+1)) (bu 0 (0,0) (i6 1) (M))) 1 58 [false] [] [(decide ((↑n:Int)<(↑(s.k.V.nt t):Int)),false)] [((↑t:Int),s.k.V.nc),((↑t:Int),s.k.V.nc)] [(2,(t,s.k.V.nc))] λa2 w2 D g I N U=>?_
  refine cV F D a o g [0,0,0,3] (.tuple #[i6 n,.agg #[i6 1,i6 0,i6 0]]) ?_;have e:aU s.k.V t n=⟨1,0,0⟩:=by unfold aU;rw[af y]
  rw[e]at K;exact K w2 (D.sat.tail.tail.tail.re 5 rfl rfl _ λj _ f _=>fN (C:=λz=>[i6 z]) rfl aG j f) (by omega)
def lz(C:aX):Value->List iF->Prop
 |e,[]=>e=.nilIface
 |e,x::ch=>∃q e',e=.iface 168 (ptr q)/\Has C (oR q 0 [i6 x.k,i6 x.l,i6 x.n,e'] false)/\lz C e' ch
theorem lz.up{C C':aX}(h:∀r,Has C r->Has C' r):∀{ch:List iF}{e:ay},lz C e ch->lz C' e ch
 |[],_,a=>a
 |_::_,_,⟨q,o,l,g,f⟩=>⟨q,o,l,h _ g,f.up h⟩
def PJ(C:aX)(r:Value ⊕ Value)(b:Bk):Prop:=(b.k=1/\r=.inl (.tuple #[i6 b.n,.nilIface]))\/(b.k=2/\∃e,r=.inl (.tuple #[i6 0,e])/\lz C e b.ch)\/(b.k=3/\r=.inr (.iface 166 (i6 b.n)))
theorem QI.dR{s:PS}(Q:QI s)(g' cap':Nat)(vs':fH)(t:Nat)(num q n:Int):QI (s.dR g' cap' vs' (s.l.say t num q n)):=⟨Q.lt,Q.all,Q.Bw,Q.ws⟩
theorem gO{e:aJ}:(r::(A++(e::(R++O)))).Perm (A++(e::((r::R)++O))):=by
 have:=(iQ (a:=r) (l₁:=A++[e]) (l₂:=R++O)).symm
 simpa using this
theorem Sat.fix(h:Sat Ok w (bR q vs::M)):Sat Ok w (oR q 0 vs false::M):=
 h.Ic 0 rfl (oR q 0 vs false) (λj hj=>⟨hj,by show(⟨q,0+j.2,none⟩:Addr)=⟨q,j.2,none⟩;rw[bD],rfl⟩) (λz=>by cases z) rfl
theorem Du{a:aJ}:(X++(A++(a::(R++O)))).Perm (A++(a::((X++R)++O))):=by
 have:=iP X (A++[a]) (R++O)
 simpa using this
theorem gD{a:aJ}:(A++(a::((X++(Y++R))++O))).Perm (Y++(A++(a::((X++R)++O)))):=by
 have:=iP (A++(a::X)) Y (R++O)
 simpa using this
theorem Sat.AK(A:aX)(h:Sat Ok w (A++(bR q vs::M))):Sat Ok w (A++(oR q 0 vs false::M)):=
 (h.perm iQ).fix.perm iQ.symm
theorem Sat.Fw{Z:aX}(h:Sat Ok w M)(e:∀r∈Z,Has M r):Sat Ok w Z:=h.dD λi r a=>by
 have:=e r (by rw[dN]at a;exact tH a);exact⟨this.1,this.2⟩
theorem Has.in{a:aJ}(h:Has R r):Has (A++(a::((X++R)++O))) r:=((h.app X).pre O).cons.app A
theorem bN:Flat M↔∀r∈M,r.row=none:=⟨λh r e=>by
 obtain⟨i,a⟩:=CW e;exact h i r (by rw[dN];exact a),λh i r a=>h r (by rw[dN]at a;exact tH a)⟩
theorem Flat.Qb(h:Flat ((X++(Y++R))++O)):Flat ((X++R)++O):=by
 rw[bN]at h ⊢;intro r a;refine h r ?_;simp only[dZ]at a ⊢;rcases a with (z|z)|z
 .exact .inl (.inl z)
 .exact .inl (.inr (.inr z))
 .exact .inr z
theorem BC(A:aX){a:aJ}(h:Sat Ok w (bR q vs::r::(A++(a::(b::R++O))))):Sat Ok w (A++(a::(([oR q 0 vs false]++R)++O))):=
 ((Sat.D6 (A:=[oR q 0 vs false]) h.fix).perm (gO (A:=A))).sub (nR (List.Sublist.cons_cons _ (List.Sublist.cons_cons _ (List.sublist_cons_self _ _))) _)
theorem BD(A:aX){a:aJ}(h:Sat Ok w (A++(a::(b::R++O)))):Sat Ok w (A++(a::(R++O))):=
 h.sub (nR (List.Sublist.cons_cons _ (List.sublist_cons_self _ _)) _)
section
variable{E:TE γ}{kk:PK}{Lf:LS}
theorem lH(W:l7 E kk Lf t){p:γ}{s:PS}(C:Cn E kk t p s w v R)(g:s.l.el<1000000)(f:(s.l.tk t).c=t){q n:Int}(u:Has R (uj lb wi num kk.J))(K:∀h w',Cn E kk t p h w' v R->h.l=s.l.say t num q n->w.heap.size<=w'.heap.size->E.Ψ p (G (c.finish (.tuple #[])) cs) w'):
 E.Ψ p (G (Frame.enter prog 149 #[ptr lb,ptr (kk.T t),i6 q,i6 n] .normal) (c::cs)) w:=by
 have a:=C.hk;refine Fg (W.f p) (W.hB p) (t:=t) (aR:=kk.aR t) (wi:=wi) (num:=num) C.sat (by rw[a];exact(u.pre _).cons) (by rw[a];exact((C.fJ.nL t W.tn).pre _).cons) C.pv.jr C.bd g f λg' cap' vs' w' o e l=>?_
 exact K (s.dR g' cap' vs' (s.l.say t num q n)) w' ⟨o,⟨e,C.pv.en,C.pv.eo,C.pv.fb⟩,C.qi.dR _ _ _ _ _ _ _,C.fl,C.fJ,aT C.bd l,C.gu.trans ⟨rfl,rfl,rfl,rfl,rfl,rfl,rfl,rfl,rfl,λ_ _=>rfl,λ_ _=>rfl,λ_ _=>⟨rfl,rfl⟩⟩,a,C.ql⟩ rfl l
theorem NW(W:l7 E kk Lf t){p:γ}{s:PS}(C:Cn E kk t p s w v R)(h:s.l.us t=n)(e:n<1000000)(K:∀f w',Cn E kk t p f w' v R->f.l={s.l with us:=upd s.l.us t (n+1)}->w.heap.size<=w'.heap.size->E.Ψ p (G (c.finish (.tuple #[i6 n,.agg (tL (aU kk.V t n)).toArray])) cs) w'):
 E.Ψ p (G (Frame.enter prog 147 #[ptr (kk.lb kk.V.nl),i6 t] .normal) (c::cs)) w:=by
 have a:=C.hk
 refine a▸Kz (W.f p) (W.hB p) (t:=t) (n:=n) C.sat (by rw[a];exact ze.cons (by
  have:=C.fJ
  exact⟨λj hj=>(this.lay j hj).pre _,λj hj hk=>(this.Jd j hj hk).pre _,λj hj hk=>(this.Ns j hj hk).pre _,λj hj hk=>(this.Ms j hj hk).pre _,this.QG.pre _,this.YZ.pre _,this.QB.pre _,λc hc z=>by
   obtain⟨ta,u,o⟩:=this.xH c hc z;exact⟨ta,u,o.pre _⟩,λi l=>(this.nL i l).pre _,this.err.pre _⟩)) (by rw[a];exact W.tn) h e C.bd λw' y g=>?_
 rw[a];refine K (s.zl t (n+1)) w' ⟨y,⟨C.pv.jr,C.pv.en,C.pv.eo,C.pv.fb⟩,⟨C.qi.lt,C.qi.all,C.qi.Bw,C.qi.ws⟩,C.fl,C.fJ,aT C.bd g,C.gu.trans ⟨rfl,rfl,rfl,rfl,rfl,rfl,rfl,rfl,rfl,λ_ _=>rfl,λj hj=>?_,λ_ _=>⟨rfl,rfl⟩⟩,a,C.ql⟩ rfl g
 show upd s.l.us t (n+1) j=_
 simp[upd,hj]
end
def fZ(V:Ev0)(j:Nat):Nat:=if j=V.nl then 146 else if(V.ly j).k=1 then 156 else if(V.ly j).k=3 then 167 else if(V.ly j).k=4 then 169 else 165
def eM{γ:Type}(E:TE γ)(kk:PK)(Lf:LS)(t j:Nat):Prop:=∀(m:Nat)(p:γ)(s:PS)(w:aj)(v:ay)(R:aX)(c:aE)(cs:cW),Cn E kk t p s w v R->Fin kk.V Lf m (some (t,j,none)) s.l->m<=E.qT p->
 (∀m' p' s' w' v' X r b,m'<m->m'<=E.qT p'->Cn E kk t p' s' w' v' (X++R)->Fin kk.V Lf m' (some (t,j,some b)) s'.l->PJ X r b->(∀i,i<j->(s'.l.tk t).a i=(s.l.tk t).a i)->(∀i,i<j->(s'.l.tk t).q i=(s.l.tk t).q i)->E.Ψ p' (G (ends c r) cs) w')->
 E.Ψ p (G (Frame.enter prog (fZ kk.V j) #[ptr (kk.lb j),ptr (kk.T t)] .normal) (c::cs)) w
theorem DV{Lf:LS}{L:LS}(h:Fin V Lf m (some (t,V.nl,none)) L)(g:L.us t=n):∃e,m=e+1/\xg V t L/\
 ((aU V t n).t=0->Fin V Lf e (some (t,V.nl,some (cN (aU V t n)))) ((({L with us:=upd L.us t (n+1)}:LS).say t (-1) 1 n).say t (-1) 2 n))/\
 ((aU V t n).t≠0->Fin V Lf e none (((({L with us:=upd L.us t (n+1)}:LS).say t (-1) 1 n).wait t V.nl (aU V t n).t).NI L.wl ⟨(cN (aU V t n)).k,(cN (aU V t n)).n,⟨0,0,n⟩::(cN (aU V t n)).ch⟩)):=by
 cases m with
 |zero=>exact h.elim
 |succ m=>
  obtain⟨l,p,o,a⟩:=h;have hc:(L.tk t).c.toNat=t:=by rw[l.tc];rfl
  refine⟨m,rfl,l,λf=>?_,λf=>?_⟩
  .simp only[LS.step,if_true,hc,g,tE,f]at a
   exact a
  .simp only[LS.step,if_true,hc,g,tE,f,if_false]at a
   exact a
theorem Fc(e:vf V)(a:t<V.nc)(n:Nat):(1<=(aU V t n).k/\(aU V t n).k<=4)/\(0<=(aU V t n).t/\(aU V t n).t<=1000):=by
 unfold aU
 split
 .rename_i h;exact e.tr t a n h
 .exact⟨by decide,by decide⟩
section
variable{E:TE γ}{kk:PK}{Lf:LS}
theorem yY(W:l7 E kk Lf t){p:γ}{s:PS}{x:Mw}{P:Nat}(C:Cn E kk t p s w v (bR P (tL x)::R))(h:ze kk R)(U:s.l.el<1000000)(Q:(s.l.tk t).c=t)(hx:1<=x.k/\x.k<=4){b:aE}(S:UG b 146){a:Act}(Z:a.defers=[])(iI:w.heap.size=B)(S0:St (E.Ok p) B 63 [(32,i6 n),(31,ptr (kk.T t)),(30,ptr (kk.lb kk.V.nl)),(7,ptr P),(0,ptr (kk.lb kk.V.nl))] (pM s++(fI (kk.T t) v false::(bR P (tL x)::R++E.P p s))) 0 a w)(K:∀s' w' X r,Cn E kk t p s' w' v (X++R)->s'.l=s.l.say t (-1) 2 n->PJ X r (cN x)->E.Ψ p (G (ends c r) cs) w'):
 E.Ψ p (G (b.at a (pc prog 146 43 [false] [])) (c::cs)) w:=by
 have F:=W.f p;have hB:=W.hB p;have wY:=C.bd;have f:=S.k;have I:=S.f;refine bK F f Z S0 33 149 #[ptr (kk.lb kk.V.nl),ptr (kk.T t),i6 2,i6 n] λVC L=>?_
 refine lH W {C with sat:=S0.sat} U Q C.fJ.QG λo w1 e e1 jA=>L _ _ _ e.sat λa1 B1 y u iH=>?_
 have aav:=e.bd;have N:Flat (R++E.O p):=e.fl.tail;have hk:x.k=1\/x.k=2\/x.k=3\/x.k=4:=by omega
 rcases hk with hk|hk|hk|hk
 .refine bA F hB f u y 35 [8,0,0,2] [0,0,0] [] [(5,.nilIface),(4,i6 x.n)] (λM=>M) 0 79 [false,false,false,false] [] [(x.k==4,false),(x.k==3,false),(x.k==2,false)] [] [] λa2 z l g D H J=>?_
  refine cV F l f I g [] (.tuple #[i6 x.n,.nilIface]) ?_;exact K o z [] (.inl (.tuple #[i6 x.n,.nilIface])) ⟨BD (pM o) l.sat,e.pv,e.qi,N,h,by omega,e.gu,e.hk,e.ql⟩ e1 (.inl (by unfold cN;simp[hk]))
 .replace y:=y.get ((((h.QG.pre _).cons).cons).app (pM o))
  refine bA F hB f u y 19 [9,0,0,2,0,0,1,1] [2] [8] [(5,.iface 168 (ptr B1)),(4,i6 0)] (λM=>bR (B1) [i6 1,i6 (-1),i6 x.n,.nilIface]::(M)) 1 63 [false,true] [8] [(x.k==2,true)] [] [] λa2 z l g D H J=>?_
  refine cV F l f I g [] (.tuple #[i6 0,.iface 168 (ptr B1)]) ?_;exact K o z [oR B1 0 [i6 1,i6 (-1),i6 x.n,.nilIface] false] (.inl (.tuple #[i6 0,.iface 168 (ptr B1)])) ⟨BC (pM o) l.sat,e.pv,e.qi,N.cons rfl,h.cons,by omega,e.gu,e.hk,e.ql⟩ e1 (.inr (.inl ⟨by unfold cN eB;simp[hk],_,rfl,by unfold cN eB;simp[hk];exact⟨B1,.nilIface,rfl,⟨rfl,0,rfl⟩,rfl⟩⟩))
 .replace y:=y.get ((((h.QG.pre _).cons).cons).app (pM o))
  refine bA F hB f u y 25 [9,0,0,2,0,0,1,1] [0,2] [8] [(5,.iface 168 (ptr B1)),(4,i6 0)] (λM=>bR (B1) [i6 2,i6 (-1),i6 x.n,.nilIface]::(M)) 1 69 [false,false,true] [8] [(x.k==3,true),(x.k==2,false)] [] [] λa2 z l g D H J=>?_
  refine cV F l f I g [] (.tuple #[i6 0,.iface 168 (ptr B1)]) ?_;exact K o z [oR B1 0 [i6 2,i6 (-1),i6 x.n,.nilIface] false] (.inl (.tuple #[i6 0,.iface 168 (ptr B1)])) ⟨BC (pM o) l.sat,e.pv,e.qi,N.cons rfl,h.cons,by omega,e.gu,e.hk,e.ql⟩ e1 (.inr (.inl ⟨by unfold cN eB;simp[hk],_,rfl,by unfold cN eB;simp[hk];exact⟨B1,.nilIface,rfl,⟨rfl,0,rfl⟩,rfl⟩⟩))
 .refine bA F hB f u y 30 [8,0,0,2] [0,0,2] [] [(60,.iface 166 (i6 x.n)),(7,ptr P)] (λM=>M) 0 74 [false,false,false,true] [] [(x.k==4,true),(x.k==3,false),(x.k==2,false)] [] [] λa2 z l g D H J=>?_
  refine pnz F S 166 (i6 x.n) (by kernel_rfl) f146 func146 g l ?_;exact K o z [] (.inr (.iface 166 (i6 x.n))) ⟨BD (pM o) l.sat,e.pv,e.qi,N,h,by omega,e.gu,e.hk,e.ql⟩ e1 (.inr (.inr (by unfold cN;simp[hk])))
theorem Pw(W:l7 E kk Lf t):eM E kk Lf t kk.V.nl:=by
 intro m p s w v R c cs C hf JV K;rw[show fZ kk.V kk.V.nl=146 by unfold fZ;rw[ah rfl]];have F:=W.f p;have hB:=W.hB p;have wY:=C.bd;have hS:=(C.sat.get (((C.fJ.nL t W.tn).pre _).cons.app (pM s)))
 obtain⟨n,H⟩:∃n:Nat,s.l.us t=n:=⟨(s.l.us t).toNat,by
  cases m with
  |zero=>exact hf.elim
  |succ m=>have:=hf.1.us;omega⟩
 obtain⟨m0,rfl,hk,wW,pP⟩:=DV hf H;have GN:=C.hk;refine dg f146 func146 _ rfl 63 (by kernel_rfl) hS λbb a0 B1 hn a iK jf S0 iI=>?_
 refine aq F hB a jf S0 23 [0,0,2,1] [] [] [(11,i6 t),(9,ptr (kk.lb kk.V.nl)),(0,ptr (kk.lb kk.V.nl)),(1,ptr (kk.T t))] (λM=>M) 0 10 [] [] λa1 w1 S1 kJ iH jA dS=>?_
 refine bK F a kJ S1 12 147 #[ptr (kk.lb kk.V.nl),i6 t] λgJ S=>?_
 refine NW W {C with sat:=S1.sat.tail,bd:=by omega} H (by have:=hk.us;omega) λs2 w2 h e2 je=>S _ _ _ h.sat λa2 o S2 jQ fV=>?_
 refine aq F hB a jQ S2 14 [0,0,0,3] [] [] [(19,i6 n),(18,ptr (kk.T t)),(17,ptr (kk.lb kk.V.nl)),(6,i6 n),(7,ptr o),(0,ptr (kk.lb kk.V.nl)),(1,ptr (kk.T t))] (λM=>bR (o) [i6 (aU kk.V t n).k,i6 (aU kk.V t n).n,i6 (aU kk.V t n).t]::(M)) 1 25 [] [] λa3 w3 S3 jF gQ ji dX=>?_
 refine bK F a jF S3 20 149 #[ptr (kk.lb kk.V.nl),ptr (kk.T t),i6 1,i6 n] λlq Q=>?_
 have D:=Fc W.V W.tn n;generalize aU kk.V t n=x at*;have C3:Cn E kk t p s2 w3 v (bR o (tL x)::R):=⟨S3.sat.perm gO,h.pv,h.qi,h.fl.cons rfl,h.fJ.cons,by omega,h.gu,h.hk,h.ql⟩;refine lH W C3 (by rw[e2];exact hk.el) (by rw[e2];exact hk.tc) C3.fJ.QG λs4 w4 C4 g oB=>Q _ _ _ C4.sat λa4 B4 S4 N jP=>?_
 have aau:=C4.bd;rw[e2]at g;have I:(s4.l.tk t).c=t:=by rw[g];exact hk.tc
 by_cases G:x.t=0
 .have e:=wW G
  rw[<-g]at e
  have yz:xg kk.V t (s4.l.say t (-1) 2 n):=by
   cases m0 with
   |zero=>exact e.elim
   |succ m0=>exact e.1
  have he2:s4.l.el+1<1000000:=yz.el;refine bA F hB a N S4 17 [8,0,2,1] [0] [] [(32,i6 n),(31,ptr (kk.T t)),(30,ptr (kk.lb kk.V.nl)),(7,ptr o),(0,ptr (kk.lb kk.V.nl))] (λM=>M) 0 43 [false] [] [(decide (x.t>0),false)] [] [] λa5 w5 U l z kT jv=>?_
  refine yY W {C4 with sat:=U.sat,bd:=by omega} C.fJ (by omega) I D.1 hn l z U λu w6 X r Z e6 hr=>?_
  exact K m0 p u w6 v X r (cN x) (by omega) (by omega) Z (by rw[e6];exact e) hr (λi hi=>by rw[e6,g];rfl) (λi hi=>by rw[e6,g];rfl)
 .have WA:0<x.t:=by omega
  have e:=pP G;have JI:s4.l.wl=s.l.wl:=by rw[g];rfl
  rw[<-g,<-JI]at e;refine bA F hB a N S4 13 [8,0,2,1,8,0,2,1] [2] [] [(26,i6 x.t),(24,ptr (kk.T t)),(6,i6 n),(7,ptr o),(0,ptr (kk.lb kk.V.nl)),(1,ptr (kk.T t))] (λM=>M) 0 39 [true] [] [(decide (x.t>0),true)] [] [] λa5 w5 U l z kT jv=>?_
  refine Mm F a l 27 150 #[ptr (kk.T t),i6 x.t] (by kernel_rfl) (by kernel_rfl) (by decide) U λEB P=>?_
  refine IY W {C4 with sat:=U.sat,bd:=by omega} (by rw[g];exact hk.now) ⟨by omega,by omega⟩ _ e (by omega) λp6 u w6 m6 hm6 ZX Z f1 f2 f3 f4 f5 f6=>P.ret _ _ _ _ _ Z.sat λa6 B6 S6 nB oS=>?_
  have Tm:=Z.bd;replace F:=W.f p6;replace hB:=W.hB p6;obtain⟨J,XE⟩:=f1
  have L:Fin kk.V Lf m6 (some (t,kk.V.nl,some (cN x))) (u.l.say t (-1) 2 n):=by
   rcases XE with ⟨_,y,ch,hy,f⟩|⟨k,LR,_,GP,_⟩
   .rw[f3]at hy f
    simp only[List.cons.injEq]at hy;rw[<-hy.1,<-hy.2]at f;exact f
   .rw[f2]at GP;omega
  refine aq F hB a nB S6 8 [] [] [] [(32,i6 n),(31,ptr (kk.T t)),(30,ptr (kk.lb kk.V.nl)),(7,ptr o),(0,ptr (kk.lb kk.V.nl))] (λM=>M) 0 48 [true] [] λa7 w7 S7 lW oA oT tu=>?_
  rw[show pc prog 146 48 [true] []=pc prog 146 43 [false] [] by kernel_rfl];refine yY W {Z with sat:=S7.sat,bd:=by omega} C.fJ J.el J.tc D.1 hn lW oA S7 λs8 w8 X r C8 e8 hr=>?_
  exact K m6 p6 s8 w8 v X r (cN x) (by omega) (by omega) C8 (by rw[e8];exact L) hr (λi hi=>by
   rw[e8]
   show(u.l.tk t).a i=_
   rw[f4,g];rfl) (λi hi=>by
   rw[e8]
   show(u.l.tk t).q i=_
   rw[f6,g];rfl)
end
theorem DZ{Lf:LS}{L:LS}(hj:j<V.nl)(hk:(V.ly j).k=2)(h:Fin V Lf m (some (t,j,none)) L):∃a,m=a+1/\Fin V Lf a (some (t,j+1,none)) L:=by
 cases m with
 |zero=>exact h.elim
 |succ m=>
  obtain⟨o,l,g,f⟩:=h;have e:(j=V.nl)=False:=by simp;omega
  simp only[LS.step,e,if_false,hk,af (show¬(2:Int)=1 by decide),af (show¬(2:Int)=3 by decide),af (show¬(2:Int)=4 by decide)]at f;exact⟨m,rfl,f⟩
theorem yL{Lf:LS}{L:LS}{b:Bk}(hk:(V.ly j).k=2)(h:Fin V Lf m (some (t,j+1,some b)) L):∃f,m=f+1/\xg V t L/\Is b/\(b.k=3->Fin V Lf f (some (t,j,some (eB 6 j b.n))) (L.say t j 5 b.n))/\(b.k≠3->Fin V Lf f (some (t,j,some b)) L):=by
 cases m with
 |zero=>exact h.elim
 |succ m=>
  obtain⟨o,p,l,a⟩:=h;have e:(j+1=0)=False:=by simp
  refine⟨m,rfl,o,(l b rfl).1,λg=>?_,λg=>?_⟩
  .simp only[LS.step,e,if_false,fY,hk,af (show¬(2:Int)=1 by decide),af (show¬(2:Int)=4 by decide),g,and_self,if_true]at a
   exact a
  .simp only[LS.step,e,if_false,fY,hk,af (show¬(2:Int)=1 by decide),af (show¬(2:Int)=4 by decide),g,and_false,if_false]at a
   exact a
theorem su{k:PK}(g:vf k.V)(hj:j<k.V.nl):∃ty,BV k (j+1)=.iface ty (ptr (k.lb (j+1)))/\((ty=138/\fZ k.V (j+1)=146)\/(ty=141/\fZ k.V (j+1)=156)\/(ty=144/\fZ k.V (j+1)=165)\/(ty=147/\fZ k.V (j+1)=167)\/(ty=150/\fZ k.V (j+1)=169)):=by
 unfold BV fZ
 by_cases e:j+1=k.V.nl
 .rw[ah e,ah e];exact⟨138,rfl,.inl ⟨rfl,rfl⟩⟩
 .rw[af e,af e]
  by_cases e1:(k.V.ly (j+1)).k=1
  .rw[ah e1,ah e1];exact⟨141,rfl,.inr (.inl ⟨rfl,rfl⟩)⟩
  .rw[af e1,af e1]
   by_cases f:(k.V.ly (j+1)).k=3
   .rw[ah f,ah f];exact⟨147,rfl,.inr (.inr (.inr (.inl ⟨rfl,rfl⟩)))⟩
   .rw[af f,af f]
    by_cases a:(k.V.ly (j+1)).k=4
    .rw[ah a,ah a];exact⟨150,rfl,.inr (.inr (.inr (.inr ⟨rfl,rfl⟩)))⟩
    .rw[af a,af a];exact⟨144,rfl,.inr (.inr (.inl ⟨rfl,rfl⟩))⟩
section
variable{E:TE γ}{kk:PK}{Lf:LS}
theorem J7(W:l7 E kk Lf t)(hj:j<kk.V.nl)(hk:(kk.V.ly j).k=2)(IH:eM E kk Lf t (j+1)):eM E kk Lf t j:=by
 intro m p s w v R c cs C hf JV K;rw[show fZ kk.V j=165 by unfold fZ;rw[af (by omega),af (by rw[hk];decide),af (by rw[hk];decide),af (by rw[hk];decide)]];have F:=W.f p;have hB:=W.hB p;have wY:=C.bd;have hS:=C.sat;obtain⟨m0,rfl,wW⟩:=DZ hj hk hf;obtain⟨ty,GC,hg⟩:=su W.V hj;have L:=C.fJ.lay j hj;rw[GC]at L;unfold eM at IH;generalize fZ kk.V (j+1)=gf at*;refine dg f165 func165 _ rfl 16 (by kernel_rfl) hS λbb a0 B1 hn D iK jf S0 iI=>?_
 refine aq F hB D jf S0 10 [] [] [] [(6,.func (Fn.func 166) #[] #[ptr B1,ptr (B1+1),ptr (B1+2),ptr (B1+3)]),(5,ptr (B1+3)),(4,ptr (B1+2)),(3,ptr (B1+1)),(2,ptr B1)] (λM=>bR (B1+3) [.nilIface]::(bR (B1+2) [i6 0]::(bR (B1+1) [ptr (kk.T t)]::(bR (B1) [ptr (kk.lb j)]::(M))))) 4 10 [] [] λa1 w1 S1 kJ iH jA dS=>?_
 refine YN F hn kJ 166 [ptr B1,ptr (B1+1),ptr (B1+2),ptr (B1+3)] (by kernel_rfl) (by kernel_rfl) (by kernel_rfl) S1 λa2 S2 jQ=>?_
 refine aq F hB D jQ S2 2 [] [] [] [(5,ptr (B1+3)),(4,ptr (B1+2)),(3,ptr (B1+1)),(2,ptr B1)] (λM=>M) 4 13 [] [] λa3 w3 S3 jF gQ ji dX=>?_
 have hR:Sat (E.Ok p) w3 (pM s++(fI (kk.T t) v false::(([bR (B1+3) [.nilIface],bR (B1+2) [i6 0],oR (B1+1) 0 [ptr (kk.T t)] false,oR B1 0 [ptr (kk.lb j)] false]++R)++E.P p s))):=
  (Sat.AK [bR (B1+3) [.nilIface],bR (B1+2) [i6 0],oR (B1+1) 0 [ptr (kk.T t)] false] (Sat.AK [bR (B1+3) [.nilIface],bR (B1+2) [i6 0]] S3.sat)).perm (Du (A:=pM s) (X:=[bR (B1+3) [.nilIface],bR (B1+2) [i6 0],oR (B1+1) 0 [ptr (kk.T t)] false,oR B1 0 [ptr (kk.lb j)] false]))
 have C3:Cn E kk t p s w3 v ([bR (B1+3) [.nilIface],bR (B1+2) [i6 0],oR (B1+1) 0 [ptr (kk.T t)] false,oR B1 0 [ptr (kk.lb j)] false]++R):=⟨hR,C.pv,C.qi,((((C.fl.cons rfl).cons rfl).cons rfl).cons rfl),C.fJ.app _,by omega,C.gu,C.hk,C.ql⟩;replace S3:St (E.Ok p) B1 16 _ _ 4 a3 w3:=⟨S3.env,hR,S3.sz⟩
 have sH:∀f Q w' U X,Cn E kk t f Q w' U (X++([bR (B1+3) [.nilIface],bR (B1+2) [i6 0],oR (B1+1) 0 [ptr (kk.T t)] false,oR B1 0 [ptr (kk.lb j)] false]++R))->Sat (E.Ok f) w' [oR B1 0 [ptr (kk.lb j)] false,oR (B1+1) 0 [ptr (kk.T t)] false,uj (kk.lb j) (.iface ty (ptr (kk.lb (j+1)))) j kk.J]:=by
  intro f Q w' U X C';refine C'.sat.Fw λr hr=>?_
  simp only[ak,bB,or_false]at hr;rcases hr with rfl|rfl|rfl
  .exact Has.in ⟨rfl,3,rfl⟩
  .exact Has.in ⟨rfl,2,rfl⟩
  .exact Has.in (L.app _)
 refine VD W.f aB W.hB D 9 6 [oR B1 0 [ptr (kk.lb j)] false,oR (B1+1) 0 [ptr (kk.T t)] false,uj (kk.lb j) (.iface ty (ptr (kk.lb (j+1)))) j kk.J] [(0,(0,0),true),(2,(0,0),true),(1,(0,0),true)] [(11,.iface ty (ptr (kk.lb (j+1)))),(12,ptr (kk.T t))] 13 gf #[ptr (kk.lb (j+1)),ptr (kk.T t)] (by kernel_rfl) (by kernel_rfl) (by kernel_rfl) (by kernel_rfl) (by rcases hg with ⟨rfl,rfl⟩|⟨rfl,rfl⟩|⟨rfl,rfl⟩|⟨rfl,rfl⟩|⟨rfl,rfl⟩<;>kernel_rfl) S3 (sH p s w3 v [] C3) (by omega) λcf w4 OQ jP Tr=>?_
 refine IH m0 p s w4 v _ cf (c::cs) {C3 with sat:=OQ,bd:=by omega} wW (by omega) λm' f Q w' U X r b GM uR C' Ik hr ha Il=>?_
 obtain⟨m1,rfl,En,Av,h3,Qk⟩:=yL hk Ik;have sF:=C'.bd;replace F:=W.f f;replace hB:=W.hB f;have hM:=C'.sat.perm (gD (A:=pM Q));have Sq:∀w5,Sat (E.Ok f) w5 (pM Q++(fI (kk.T t) U false::((X++R)++E.P f Q)))->w'.heap.size<=w5.heap.size->Cn E kk t f Q w5 U (X++R):=λw5 h5 kT=>⟨h5,C'.pv,C'.qi,C'.fl.Qb,C.fJ.app X,by omega,C'.gu,C'.hk,C'.ql⟩
 rcases hr with ⟨hb,rfl⟩|⟨hb,e,rfl,he⟩|⟨hb,rfl⟩
 .refine Tr.ret f _ w' [] [(14,i6 b.n),(15,.nilIface),(4,ptr (B1+2)),(5,ptr (B1+3))] _ sF (sH f Q w' U X C') hM (by kernel_rfl) (by kernel_rfl) λa5 w5 B5 S5 l mz kT=>?_
  rw[jF]at l;refine aq F hB D l S5 3 [1,0,0,1,0,0,0,1] [] [] [(4,ptr (B1+2)),(5,ptr (B1+3))] (λM=>bu 1 (0,0) (i6 b.n) (M)) 0 17 [] [9] λa6 w6 S6 nB oS yw Qy=>?_
  refine P8 F (by kernel_rfl) nB f166 func166 _ rfl (by kernel_rfl) 25 (by kernel_rfl) S6 λa7 S7 lW=>?_
  refine wZ F aB hB (by omega) lW 2 [] [] [] [(0,ptr B1),(1,ptr (B1+1)),(2,ptr (B1+2)),(3,ptr (B1+3))] (λM=>M) 0 2 [] [] [] [] [] (by kernel_rfl) (by kernel_rfl) cg cg cg S7 λa8 w8 S8 Z yt Em O3=>?_
  refine U3 F 6 (by kernel_rfl) (by kernel_rfl) (by decide) rfl S8 λa9 S9 g=>?_
  rw[Z]at g;refine wZ F aB hB (by omega) g 9 [] [(false,true)] [] [] (λM=>M) 0 12 [false] [] [] [] [] (by kernel_rfl) (by kernel_rfl) cg cg cg S9 λCN I H o tY v8 TU=>?_
  refine QA F (by kernel_rfl) o f166 func166 (by kernel_rfl) ?_;refine Je F (a:=⟨a6.tmps,[]⟩) (N:=16) (E:=[(4,ptr (B1+2)),(5,ptr (B1+3))]) ⟨S6.env.sz,S6.env.val⟩ H.sat D iK rfl [(1,(0,0),true),(0,(0,0),true)] (.tuple #[i6 b.n,.nilIface]) (by kernel_rfl) (by kernel_rfl) ?_;exact K m1 f Q I U X _ b (by omega) (by omega) (Sq I H.sat.tail.tail.tail.tail (by omega)) (Qk (by omega)) (.inl ⟨hb,rfl⟩) (λi hi=>ha i (by omega)) λi hi=>Il i (by omega)
 .obtain⟨q,rfl⟩:∃q,e=.iface 168 (ptr q):=by
   rcases Av.2.2 with ⟨z,_⟩|⟨_,_,z⟩|⟨z,_⟩
   .omega
   .cases gI:b.ch with
    |nil=>exact absurd gI z
    |cons y ch=>rw[gI]at he;obtain⟨q,_,h,_⟩:=he;exact⟨q,h⟩
   .omega
  refine Tr.ret f _ w' [] [(14,i6 0),(15,.iface 168 (ptr q)),(4,ptr (B1+2)),(5,ptr (B1+3))] _ sF (sH f Q w' U X C') hM (by kernel_rfl) (by kernel_rfl) λa5 w5 B5 S5 l mz kT=>?_
  rw[jF]at l;refine aq F hB D l S5 3 [1,0,0,1,0,0,0,1] [] [] [(4,ptr (B1+2)),(5,ptr (B1+3))] (λM=>bu 0 (0,0) (.iface 168 (ptr q)) (M)) 0 17 [] [9] λa6 w6 S6 nB oS yw Qy=>?_
  refine P8 F (by kernel_rfl) nB f166 func166 _ rfl (by kernel_rfl) 25 (by kernel_rfl) S6 λa7 S7 lW=>?_
  refine wZ F aB hB (by omega) lW 2 [] [] [] [(0,ptr B1),(1,ptr (B1+1)),(2,ptr (B1+2)),(3,ptr (B1+3))] (λM=>M) 0 2 [] [] [] [] [] (by kernel_rfl) (by kernel_rfl) cg cg cg S7 λa8 w8 S8 Z yt Em O3=>?_
  refine U3 F 6 (by kernel_rfl) (by kernel_rfl) (by decide) rfl S8 λa9 S9 g=>?_
  rw[Z]at g;refine wZ F aB hB (by omega) g 9 [] [(false,true)] [] [] (λM=>M) 0 12 [false] [] [] [] [] (by kernel_rfl) (by kernel_rfl) cg cg cg S9 λCN I H o tY v8 TU=>?_
  refine QA F (by kernel_rfl) o f166 func166 (by kernel_rfl) ?_;refine Je F (a:=⟨a6.tmps,[]⟩) (N:=16) (E:=[(4,ptr (B1+2)),(5,ptr (B1+3))]) ⟨S6.env.sz,S6.env.val⟩ H.sat D iK rfl [(1,(0,0),true),(0,(0,0),true)] (.tuple #[i6 0,.iface 168 (ptr q)]) (by kernel_rfl) (by kernel_rfl) ?_;exact K m1 f Q I U X _ b (by omega) (by omega) (Sq I H.sat.tail.tail.tail.tail (by omega)) (Qk (by omega)) (.inr (.inl ⟨hb,_,rfl,he⟩)) (λi hi=>ha i (by omega)) λi hi=>Il i (by omega)
 .obtain⟨a5,t5,rfl,l,Qu⟩:=Tr.Qx
  rw[jF]at l
  show E.Ψ f (G ((bb.at a5 t5).raise (jy (.iface 166 (i6 b.n)))) (c::cs)) w'
  rw[raise_at hn.m];refine V7 F l f166 func166 _ rfl (by kernel_rfl) 25 (by kernel_rfl) hM λa7 B7 S7 lW oA=>?_
  refine wZ F aB hB (by omega) lW 2 [] [] [] [(0,ptr B1),(1,ptr (B1+1)),(2,ptr (B1+2)),(3,ptr (B1+3))] (λM=>M) 0 2 [] [] [] [] [] (by kernel_rfl) (by kernel_rfl) cg cg cg S7 λa8 w8 S8 Z yt Em O3=>?_
  refine Zz F (v:=.iface 166 (i6 b.n)) 6 (by kernel_rfl) (by kernel_rfl) (by decide) rfl S8 λa9 S9 g=>?_
  rw[Z]at g;refine wZ F aB hB (by omega) g 36 [(3,(0,0),true),(2,(0,0),true)] [(true,true)] [5] [(15,i6 b.n),(14,ptr (kk.T t)),(13,ptr (kk.lb j)),(5,i6 b.n),(0,ptr B1),(2,ptr (B1+2)),(3,ptr (B1+3))] (λM=>M) 0 19 [true] [5] [] [] [] (by kernel_rfl) (by kernel_rfl) cg cg cg S9 λCN I H o tY v8 TU=>?_
  refine YS F o 16 149 #[ptr (kk.lb j),ptr (kk.T t),i6 5,i6 b.n] (by kernel_rfl) (by kernel_rfl) (by decide) H λYV Tj=>?_
  have C10:Cn E kk t f Q I U (X++([bR (B1+3) [.nilIface],bR (B1+2) [i6 0],oR (B1+1) 0 [ptr (kk.T t)] false,oR B1 0 [ptr (kk.lb j)] false]++R)):={C' with sat:=H.sat.perm (gD (A:=pM Q)).symm,bd:=by omega};refine lH W C10 En.el En.tc (wi:=.iface ty (ptr (kk.lb (j+1)))) (num:=j) ((L.app _).app X) λP vp J YK v7=>Tj _ _ _ ((J.sat.perm (gD (A:=pM P))).get (((((L.app X).pre _).cons).app (pM P)).app _)) λPE S UA GZ JG=>?_
  have aaa:=J.bd;refine wZ F aB hB (by omega) GZ 46 [(4,(0,0),true),(0,(0,1),true),(3,(0,0),true),(2,(0,0),true)] [] [] [] (λM=>bR (S) [i6 6,i6 j,i6 b.n,.nilIface]::(bu 1 (0,0) (.iface 168 (ptr S)) (M))) 1 33 [true] [5] [] [] [] (by kernel_rfl) (by kernel_rfl) cg cg cg UA λPD Ek S13 GY Gx Gy O4=>?_
  refine D6 F (b:=bb) (a':=⟨a5.tmps,[]⟩) (todo':=t5) (v:=.iface 166 (i6 b.n)) (by kernel_rfl) GY f166 func166 (by kernel_rfl) ?_;have hA:aN [(5,ptr (B1+3)),(4,ptr (B1+2))] 16 (⟨a5.tmps,[]⟩:Act):=⟨Qu.sz,λd u hl=>Qu.val d u (eZ [(5,ptr (B1+3)),(4,ptr (B1+2))] _ (by kernel_rfl) d u hl)⟩;refine Je F hA S13.sat D iK rfl [(3,(0,0),true),(2,(0,0),true)] (.tuple #[i6 0,.iface 168 (ptr S)]) (by kernel_rfl) (by kernel_rfl) ?_;have Yf:Sat (E.Ok f) Ek (bR S [i6 6,i6 j,i6 b.n,.nilIface]::(pM P++(fI (kk.T t) U false::(R++E.P f P)))):=S13.sat.sub (.cons_cons _ (.cons _ (.cons _ (.cons _ (.cons _ (.cons _ (nR (.cons_cons _ (EP (EQ X R) _)) _)))))))
  have Er:Flat (R++E.O f):=λi r hi=>by
   have:=bN.1 C'.fl.Qb r;refine this ?_;have hm:r∈R++E.O f:=by rw[dN]at hi;exact tH hi
   simp only[dZ]at hm ⊢;exact hm.imp_left .inr
  have DI:=h3 hb;rw[<-YK]at DI;exact K m1 f P Ek U [oR S 0 [i6 6,i6 j,i6 b.n,.nilIface] false] _ (eB 6 j b.n) (by omega) (by omega) ⟨Yf.fix.perm (gO (A:=pM P)),J.pv,J.qi,Er.cons rfl,C.fJ.cons,by omega,J.gu,J.hk,J.ql⟩ DI (.inr (.inl ⟨rfl,_,rfl,S,.nilIface,rfl,⟨rfl,0,rfl⟩,rfl⟩)) (λi hi=>by rw[YK];exact ha i (by omega)) λi hi=>by rw[YK];exact Il i (by omega)
end
end Go.Proofs.YtobagnjnbmgidaaGreatDoor
