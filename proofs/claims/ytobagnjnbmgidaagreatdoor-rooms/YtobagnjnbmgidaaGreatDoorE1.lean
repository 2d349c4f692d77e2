import Derived.Test.YtobagnjnbmgidaaGreatDoorQ0
set_option linter.all false
set_option maxRecDepth 100000
namespace Go.Proofs.YtobagnjnbmgidaaGreatDoor
open Go.Conc Go.RowKit
variable{a:Addr}{B i:Nat}{α:Type}{es:dS}{v:ay}{P:aG}
variable{Ok:dh}{w:aj}
abbrev Env:=List (Nat×Value)
def look:Env->Nat->Option Value
 |[],_=>none
 |(k,v)::E,n=>bif k==n then some v else look E n
def ev(E:Env):Operand->Value
 |.tmp t=>(look E t).getD undef
 |.const v=>v
 |.global g=>.pointer (some ⟨g,0,none⟩)
 |.func f=>.func (.func f) #[] #[]
def kn(E:Env):Operand->Bool
 |.tmp t=>(look E t).isSome
 |_=>true
abbrev Ix:=Nat×Nat
structure aH where
 ad:Ix->Addr
 vs:List Value
 vl:Nat->Nat->Value
 n:Nat
 k:Nat
 wr:Bool
 row:Option (Nat×TypeId×Nat)
abbrev aW:=List aH
def aH.has(r:aH)(j:Ix):Prop:=j.1<r.n/\j.2<r.k
def nth:List aH->Nat->Option aH
 |[],_=>none
 |r::_,0=>some r
 |_::l,n+1=>nth l n
def cG:List aH->Nat->aH->List aH
 |[],_,_=>[]
 |_::l,0,r=>r::l
 |x::l,n+1,r=>x::cG l n r
def plain:Value->Bool
 |.agg _=>false
 |.tuple _=>false
 |_=>true
def ez(f:Nat->Nat->Value)(j l:Nat)(x:ay):Nat->Nat->Value:=λa b=>bif b==l&&a==j then x else f a b
def aH.get(r:aH)(j:Ix):Value:=match r.vs with
 |[]=>r.vl j.1 j.2
 |v::vs=>(v::vs).getD j.2 undef
def aH.set(r:aH)(j:Ix)(x:ay):aH:=match r.vs with
 |[]=>⟨r.ad,[],ez r.vl j.1 j.2 x,r.n,r.k,r.wr,r.row⟩
 |v::vs=>⟨r.ad,(v::vs).set j.2 x,r.vl,r.n,r.k,r.wr,r.row⟩
def aH.may(r:aH)(j:Ix):Bool:=match r.vs with
 |[]=>true
 |v::vs=>Nat.blt j.2 (v::vs).length&&r.n==1
theorem aH.zp(r:aH)(j:Ix)(x:ay):(r.set j x).ad=r.ad:=by unfold aH.set;grind
theorem aH.Ph(r:aH)(j:Ix)(x:ay):(r.set j x).n=r.n:=by unfold aH.set;grind
theorem aH.Pj(r:aH)(j:Ix)(x:ay):(r.set j x).k=r.k:=by unfold aH.set;grind
theorem aH.Ez(r:aH)(j:Ix)(x:ay):(r.set j x).wr=r.wr:=by unfold aH.set;grind
theorem aH.H7(r:aH)(j:Ix)(x:ay):(r.set j x).row=r.row:=by unfold aH.set;grind
theorem aH.vA(r:aH)(j:Ix)(x:ay)(k:Ix):(r.set j x).has k↔r.has k:=by unfold aH.has;rw[aH.Ph,aH.Pj]
theorem aH.Jf(r:aH)(j k:Ix)(x:ay)(g:r.may j=true)(o:r.has j)(m:r.has k):(r.set j x).get k=if k=j then x else r.get k:=by
 obtain⟨l,b⟩:=j;obtain⟨i,f⟩:=k;obtain⟨s,a,h,n,c,wr,e⟩:=r;cases a with
 |nil=>
  simp only[aH.set,aH.get,ez];grind
 |cons v a=>
  simp only[aH.may,bZ]at g;obtain⟨j,j⟩:=g;have j:b<(v::a).length:=by simp_all
  have j:n=1:=by simp_all
  have q:l=0:=by have:=o.1;simp_all
  have p:i=0:=by have:=m.1;simp_all
  subst q;subst p;have d:∃u us,(v::a).set b x=u::us:=by cases b<;>exact⟨_,_,rfl⟩
  obtain⟨u,us,i⟩:=d;have d:(aH.set ⟨s,v::a,h,n,c,wr,e⟩ (0,b) x).get (0,f)=((v::a).set b x).getD f undef:=by
   simp only[aH.set,aH.get,i]
  rw[d];by_cases a:f=b
  .grind
  .rw[af (by simp[a])];simp only[aH.get,ni,List.getElem?_set_ne (λz=>a z.symm)]
abbrev Hint:=Nat×Ix×Bool
structure lW where
 hs:List Hint
 M:List aH
 c:Nat
 eqs:List (Addr×Addr)
 cW:List (Nat×Nat)
def lW.yK(m:lW)(hs:List Hint)(M:List aH)(a b:Addr)(l:Bool)(j n:Nat):lW:=⟨hs,M,m.c,(a,b)::m.eqs,bif l then m.cW else(j,n)::m.cW⟩
def Yr(b:Nat)(t:TypeId)(cs:gd):aH:=⟨λj=>⟨b,j.2,none⟩,cs.toList,λ_ _=>undef,1,cs.size,true,match cs.toList with|[]=>none|_::_=>some (b,t,cs.size)⟩
def dw{α:Type}(P:aG)(B:Nat):Sem α->lW->Option (α×lW)
 |.pure a,s=>some (a,s)
 |.load _ a k,s=>match s.hs with
  |(i,j,l)::hs=>match nth s.M i with
   |some r=>bif Nat.blt j.2 r.k&&(!l||Nat.blt j.1 r.n)then dw P B (k (r.get j)) (s.yK hs s.M a (r.ad j) l j.1 r.n)else none
   |none=>none
  |[]=>none
 |.store _ a v k,s=>match s.hs with
  |(i,j,l)::hs=>match nth s.M i with
   |some r=>bif r.wr&&plain v&&r.may j&&(Nat.blt j.2 r.k&&(!l||Nat.blt j.1 r.n))then dw P B k (s.yK hs (cG s.M i (r.set j v)) a (r.ad j) l j.1 r.n)else none
   |none=>none
  |[]=>none
 |.new o k,s=>match o with
  |.cells cs t (0,0)=>dw P B (k (B+s.c)) {s with M:=Yr (B+s.c) t cs::s.M,c:=s.c+1}
  |_=>none
 |.program k,s=>dw P B (k P) s
 |.mark (.extern _) k,s=>dw P B k s
 |_,_=>none
def cV{α:Type}(P:aG):Sem α->Option α
 |.pure a=>some a
 |.program k=>cV P (k P)
 |_=>none
def pI(w:aj)(g:Nat)(e:TypeId)(n:Nat):Prop:=∃cur,w.heap[g]? =some (.cells cur e (0,0))/\cur.size=n
theorem pI.set{g n:Nat}{e:TypeId}(h:pI w g e n)(a:Addr)(v:ay):pI (w.setCell a v) g e n:=by
 obtain⟨a,a,b⟩:=h;unfold pI;simp only[World.setCell,sU,a];grind
theorem pI.alloc{w:aj}{g n:Nat}{e:TypeId}(h:pI w g e n)(o:Obj):pI (w.alloc o) g e n:=by
 obtain⟨a,b,c⟩:=h;exact⟨a,by rw[Below.heap_alloc _ _ _ ((cU.1 b).1)];exact b,c⟩
structure Sat(Ok:dh)(w:aj)(M:List aH):Prop where
 val:∀i r,nth M i=some r->∀j,r.has j->w.cell? (r.ad j)=some (r.get j)
 ok:∀i r,nth M i=some r->∀j,r.has j->Ok (r.ad j) false/\(r.wr=true->Ok (r.ad j) true/\w.frozen? (r.ad j)=false)
 sep:∀i r i' r',nth M i=some r->nth M i'=some r'->r.wr=true->∀j j',r.has j->r'.has j'->r.ad j=r'.ad j'->i=i'/\j=j'
 row:∀i r,nth M i=some r->∀g e n,r.row=some (g,e,n)->r.has (0,0)/\(r.ad (0,0)).block=g/\pI w g e n
def Wr(M:List aH)(a:Addr):Prop:=∃i r j,nth M i=some r/\r.wr=true/\r.has j/\r.ad j=a
structure Fr(W:Addr->Prop)(w w':aj):Prop where
 size:w.heap.size<=w'.heap.size
 cell:∀a:Addr,a.block<w.heap.size->¬W a->w'.cell? a=w.cell? a/\w'.frozen? a=w.frozen? a
 blk:∀k:Nat,k<w.heap.size->(∀a:Addr,a.block=k->¬W a)->w'.heap[k]? =w.heap[k]?
 obj:∀(c:Nat)(o:Obj),w.heap[c]? =some o->(∀cs t f,o≠Obj.cells cs t f)->w'.heap[c]? =some o
 row:∀g e n,pI w g e n->pI w' g e n
theorem Fr.refl(W:Addr->Prop)(w:aj):Fr W w w:=⟨az _,λ_ _ _=>⟨rfl,rfl⟩,λ_ _ _=>rfl,λ_ _ h _=>h,λ_ _ _ h=>h⟩
theorem Fr.trans{W i:Addr->Prop}{f b:aj}(h:Fr W w f)(d:Fr i f b)(j:∀a,i a->W a\/w.heap.size<=a.block):Fr W w b:=by
 refine⟨aT h.size d.size,λa f b=>?_,λk i b=>?_,λc o l b=>d.obj c o (h.obj c o l b) b,λg e n z=>d.row g e n (h.row g e n z)⟩
 .have c:=h.cell a f b;have c:=d.cell a (c7 f h.size) (λx=>(j a x).elim b (by omega));simp_all
 .rw[<-h.blk k i b];exact d.blk k (c7 i h.size) (λa f x=>(j a x).elim (b a f) (by omega))
theorem DX.trans{Ok:dh}{w f d:aj}{i g:dS}(h:DX Ok w f i)(b:DX Ok f d g):DX Ok w d (i++g):=by
 refine⟨λe g=>?_,aT h.size b.size,λc o f d=>b.obj c o (h.obj c o f d) d,λa d f=>?_,λk c d=>?_,?_⟩
 .rcases nQ.1 g with x|x
  .rcases h.ev e x with ⟨a,i,g,l,j⟩|y
   .exact .inl ⟨a,i,g,l,c7 j b.size⟩
   .exact .inr y
  .exact b.ev e x
 .have i:=h.cell a d f;have g:=b.cell a d (c7 f h.size);simp_all
 .rw[<-h.blk k c d];exact b.blk k (c7 c h.size) d
 .exact⟨b.rest.1.trans h.rest.1,b.rest.2.1.trans h.rest.2.1,b.rest.2.2.trans h.rest.2.2⟩
theorem dX:∀(M:List aH)(i:Nat)(r:aH)(k:Nat),nth (cG M i r) k=if k=i then(nth M i).map (λ_=>r)else nth M k
 |[],i,r,k=>by simp[cG,nth]
 |x::l,0,r,k=>by cases k<;>simp[cG,nth]
 |x::l,i+1,r,k=>by
  cases k with
  |zero=>rfl
  |succ k=>simp[cG,nth,dX l i r k]
theorem cD{M:List aH}{R s:aH}{k:Nat}(h:nth (R::M) k=some s):(∃a,k=a+1/\nth M a=some s)\/(k=0/\s=R):=by
 cases k with
 |zero=>simp[nth]at h;simp_all
 |succ k=>exact .inl ⟨k,rfl,h⟩
theorem qH:∀(M:List aH)(k:Nat)(r:aH),nth M k=some r->k<M.length
 |[],k,r=>by simp[nth]
 |x::l,0,r=>by simp
 |x::l,k+1,r=>λh=>by have:=qH l k r h;simp;omega
section
variable{M:List aH}
theorem Sat.lt(h:Sat Ok w M){r:aH}(b:nth M i=some r){j:Ix}(a:r.has j):(r.ad j).block<w.heap.size:=au (h.val i r b j a)
theorem Sat.set(h:Sat Ok w M){i:Nat}{r:aH}(q:nth M i=some r)(J:r.wr=true){j:Ix}(z:r.has j)(P:r.may j=true)(v:ay):
 Sat Ok (w.setCell (r.ad j) v) (cG M i (r.set j v)):=by
 have key:∀k s,nth (cG M i (r.set j v)) k=some s->∃a,nth M k=some a/\s.ad=a.ad/\(∀l,s.has l->a.has l)/\s.wr=a.wr/\(k=i->s=r.set j v/\a=r)/\(k≠i->s=a):=by
  intro k s c;rw[dX]at c;split at c
  .rename_i e;subst e;rw[q]at c;simp at c;subst c;exact⟨r,q,aH.zp ..,λl h=>(aH.vA ..).1 h,aH.Ez ..,λ_=>⟨rfl,rfl⟩,λx=>absurd rfl x⟩
  simp_all
 have Q:=h.val i r q j z;refine⟨λk s c l d=>?_,λk s c l d=>?_,λk s I N c E O l H d D K=>?_,λk s c g e n F=>?_⟩
 .obtain⟨a,f,t,m,A,y,u⟩:=key k s c;by_cases b:k=i
  .obtain⟨f1,f2⟩:=y b;subst b;subst f2;rw[t,f1,aH.Jf _ _ _ _ P z (m l d)];by_cases p:l=j
   .subst p;rw[World.cell?_setCell_same' _ _ _ (by rw[Q];rfl)];simp
   .have o:a.ad j≠a.ad l:=λe=>p (h.sep k a k a q q J j l z (m l d) e).2.symm;rw[qa _ _ _ _ o,af p];exact h.val k a q l (m l d)
  .obtain rfl:=u b;have o:r.ad j≠s.ad l:=λe=>b (h.sep i r k s q f J j l z d e).1.symm;rw[qa _ _ _ _ o];exact h.val k s f l d
 .obtain⟨a,f,t,m,A,y,u⟩:=key k s c;rw[t,A,YB];exact h.ok k a f l (m l d)
 .obtain⟨a,f,t,m,A,y,u⟩:=key k s c;obtain⟨L,R,f1,f2,f3,f4,f5⟩:=key I N E;rw[t,f1]at K;exact h.sep k a I L f R (by simp_all) l H (m l d) (f2 H D) K
 .obtain⟨a,f,t,m,A,y,u⟩:=key k s c;by_cases b:k=i
  .obtain⟨f1,f2⟩:=y b;subst b;subst f2;subst f1;rw[aH.H7]at F;obtain⟨C,G,B⟩:=h.row k a f g e n F;exact⟨(aH.vA ..).2 C,by simp_all,B.set _ _⟩
  .obtain rfl:=u b;obtain⟨C,G,B⟩:=h.row k s f g e n F;exact⟨C,G,B.set _ _⟩
theorem Sat.new(h:Sat Ok w M)(b:gd)(t:TypeId)(p:∀(a:Addr)(wr:Bool),w.heap.size<=a.block->Ok a wr):Sat Ok (w.alloc (.cells b t (0,0))) (Yr w.heap.size t b::M):=by
 refine⟨λk s j l c=>?_,λk s j l c=>?_,λk s L G j q u l A c f r=>?_,λk s j g e n o=>?_⟩
 .rcases cD j with ⟨i,_,d⟩|⟨_,rfl⟩
  .rw[Hx _ _ _ (h.lt d c)];exact h.val i s d l c
  .have f:l.2<b.size:=c.2;show(w.alloc (.cells b t (0,0))).cell? ⟨w.heap.size,l.2,none⟩=some (aH.get (Yr w.heap.size t b) l);have o:aH.get (Yr w.heap.size t b) l=b.toList.getD l.2 undef:=by
    cases x:b.toList with
    |nil=>simp_all
    |cons v z=>simp only[Yr,aH.get,x]
   simp_all
 .rcases cD j with ⟨i,_,d⟩|⟨_,rfl⟩
  .have H:(w.alloc (.cells b t (0,0))).frozen? (s.ad l)=w.frozen? (s.ad l):=World.frozen?_alloc_past _ _ _ (h.lt d c);rw[H];exact h.ok i s d l c
  .refine⟨p _ _ (az _),λ_=>⟨p _ _ (az _),?_⟩⟩;show(w.alloc (.cells b t (0,0))).frozen? ⟨w.heap.size,l.2,none⟩=false;simp
 .rcases cD j with ⟨i,O,d⟩|⟨K,rfl⟩
  .rcases cD q with ⟨B,J,m⟩|⟨C,rfl⟩
   .have:=h.sep i s B G d m u l A c f r;simp_all
   .have:=h.lt d c;rw[r]at this;exact absurd this (Ap _)
  .rcases cD q with ⟨B,J,m⟩|⟨C,rfl⟩
   .have:=h.lt m f;rw[<-r]at this;exact absurd this (Ap _)
   .refine⟨K.trans C.symm,?_⟩;have N:l.2=A.2:=cT Addr.off r;have I:=c.1;have y:=f.1;simp only[Yr]at I y;grind
 .rcases cD j with ⟨i,_,d⟩|⟨_,rfl⟩
  .obtain⟨F,E,D⟩:=h.row i s d g e n o;exact⟨F,E,D.alloc _⟩
  .simp only[Yr]at o;split at o
   .cases o
   .rename_i v z x;cases o;have:b.toList.length=z.length+1:=by rw[x];rfl
    rw[za]at this;refine⟨⟨aD,by simp only[Yr];omega⟩,rfl,b,?_,rfl⟩;show(w.heap.push (.cells b t (0,0)))[w.heap.size]? =_;simp
end
theorem zx{m:Mode}{k:Sem α}{x:ay}(b:plain v=true)(d:w.cell? a=some x)(c:w.frozen? a=false):
 (Sem.store m a v k).runT P w es=k.runT P (w.setCell a v) (es.push ⟨.cell a,true,m==.atomic⟩):=by
 cases v<;>first|(simp[plain]at b;done)|simp[Sem.runT,d,c]
theorem aE{β:Type}{c:Bool}{x:Option β}{y:β}(h:(bif c then x else none)=some y):c=true/\x=some y:=by
 grind
theorem gI:∀(s:Sem α)(m c:lW)(x:α),dw P B s m=some (x,c)->(∀p∈m.eqs,p∈c.eqs)/\(∀p∈m.cW,p∈c.cW):=by
 have e:∀(m:lW)(e:List Hint)(M:List aH)(a b:Addr)(l:Bool)(j n:Nat),(∀p∈m.eqs,p∈(m.yK e M a b l j n).eqs)/\(∀p∈m.cW,p∈(m.yK e M a b l j n).cW):=λm e M a b l j n=>
  ⟨λp f=>aP _ f,λp f=>by cases l<;>simp[lW.yK,f]⟩
 intro s;induction s with
 |pure a=>intro m c x h;simp[dw]at h;simp_all
 |load md a k d=>
  intro m c x h;simp only[dw]at h;grind
 |store md a v k d=>
  intro m c x h;simp only[dw]at h;grind
 |new o k d=>
  intro m c x h;simp only[dw]at h;split at h
  .have a:=d _ _ _ _ h;exact a
  .cases h
 |program k d=>intro m c x h;exact d _ _ _ _ h
 |mark mk k d=>
  intro m c x h;cases mk<;>simp only[dw]at h<;>first|exact d _ _ _ h|cases h
 |_=>intros;simp_all [dw]
structure Inv(Ok:dh)(B:Nat)(w:aj)(m:lW):Prop where
 sat:Sat Ok w m.M
 sz:w.heap.size=B+m.c
theorem Wr.put{M:List aH}{r:aH}{l:Ix}(g:nth M i=some r)(h:Wr (cG M i (r.set l v)) a):Wr M a:=by
 obtain⟨k,s,j,b,f,d,c⟩:=h;rw[dX]at b;split at b
 .rename_i e;subst e;rw[g]at b;simp at b;subst b;rw[aH.Ez]at f;rw[aH.vA]at d;rw[aH.zp]at c;exact⟨k,r,j,g,f,d,c⟩
 .exact⟨k,s,j,b,f,d,c⟩
theorem Wr.cons{M:List aH}{b:Nat}{t:TypeId}{i:gd}(h:Wr (Yr b t i::M) a):Wr M a\/b<=a.block:=by
 obtain⟨k,s,j,a,f,e,c⟩:=h;rcases cD a with ⟨d,_,g⟩|⟨_,rfl⟩
 .exact .inl ⟨d,s,j,g,f,e,c⟩
 .subst c;exact .inr (az _)
theorem xM{x:Event}{S:dS}(h:∀e∈es,e∈S\/Yk e):∀e∈#[x]++es,e∈#[x]++S\/Yk e:=λe a=>by
 grind
theorem AH(hB:∀(a:Addr)(wr:Bool),B<=a.block->Ok a wr):∀(s:Sem α)(m G:lW)(x:α),dw P B s m=some (x,G)->
 (∀p∈G.eqs,p.1=p.2)->(∀p∈G.cW,p.1<p.2)->∀(w:aj)(es:dS),Inv Ok B w m->
 ∃C c S,Inv Ok B C G/\(∀d,s.runT P (w.at d) es=(.ok x (C.at d),es++c))/\((∀e∈c,e∈S\/Yk e)/\∀d,DX Ok (w.at d) (C.at d) S)/\Fr (Wr m.M) w C/\(∀a,Wr G.M a->Wr m.M a\/w.heap.size<=a.block):=by
 intro s;induction s with
 |pure a=>
  intro m G x h E q w es u;simp[dw]at h;obtain⟨rfl,rfl⟩:=h;exact⟨w,#[],#[],u,λd=>by rfl,⟨by simp,λd=>DX.still d (by simp)⟩,Fr.refl _ _,λ_ h=>.inl h⟩
 |load md a k I=>
  intro m G x h E q w es u;simp only[dw]at h;split at h
  .rename_i i j l hs Y;split at h
   .rename_i r M;obtain⟨J,h⟩:=aE h;have D:=gI _ _ _ _ h;have ea:a=r.ad j:=E (a,r.ad j) (D.1 (a,r.ad j) (by simp[lW.yK]));simp only[bZ]at J;have O:r.has j:=by
     refine⟨?_,by simpa using J.1⟩;cases l with
     |true=>simpa using J.2
     |false=>exact q (j.1,r.n) (D.2 (j.1,r.n) (by simp[lW.yK]))
    subst ea;have R:=u.sat.val i r M j O;obtain⟨C,c,S,A,y,F,L,K⟩:=I _ _ _ _ h E q w (es.push ⟨.cell (r.ad j),false,md==.atomic⟩) ⟨u.sat,u.sz⟩;refine⟨C,#[⟨.cell (r.ad j),false,md==.atomic⟩]++c,#[⟨.cell (r.ad j),false,md==.atomic⟩]++S,A,λd=>?_,⟨xM F.1,λd=>DX.trans (DX.still d (λe D=>?_)) (F.2 d)⟩,L,K⟩
    .have W:(w.at d).cell? (r.ad j)=some (r.get j):=R;simp only[Sem.runT,W];rw[y d];simp
    .simp at D;subst D;exact Rt R (u.sat.ok i r M j O).1
   .cases h
  .cases h
 |store md a v k I=>
  intro m G x h E q w es u;simp only[dw]at h;split at h
  .rename_i i j l hs Y;split at h
   .rename_i r M;obtain⟨J,h⟩:=aE h;have D:=gI _ _ _ _ h;have ea:a=r.ad j:=E (a,r.ad j) (D.1 (a,r.ad j) (by simp[lW.yK]));simp only[bZ]at J;obtain⟨⟨⟨V,hp⟩,T⟩,J⟩:=J;have O:r.has j:=by
     refine⟨?_,by simpa using J.1⟩;cases l with
     |true=>simpa using J.2
     |false=>exact q (j.1,r.n) (D.2 (j.1,r.n) (by simp[lW.yK]))
    subst ea;have R:=u.sat.val i r M j O;have X:=(u.sat.ok i r M j O).2 V;have N:(w.setCell (r.ad j) v).heap.size=w.heap.size:=by simp
    obtain⟨C,c,S,A,y,F,L,K⟩:=I _ _ _ h E q (w.setCell (r.ad j) v) (es.push ⟨.cell (r.ad j),true,md==.atomic⟩) ⟨u.sat.set M V O T v,N.trans u.sz⟩;have U:∀b,Wr (cG m.M i (r.set j v)) b->Wr m.M b:=λb q=>q.put M;have Z:Fr (Wr m.M) w (w.setCell (r.ad j) v):=by
     have H:=DX.set (Ok:=λa wr=>wr=true->Wr m.M a) (w:=w) (es:=#[]) (v:=v) 0 (a:=r.ad j) (λ_=>⟨i,r,j,M,V,O,rfl⟩) (by simp);exact⟨H.size,λb A y=>H.cell b (λz=>y (z rfl)) A,λk A y=>H.blk k A (λb e z=>y b e (z rfl)),H.obj,λg e n z=>z.set _ _⟩
    refine⟨C,#[⟨.cell (r.ad j),true,md==.atomic⟩]++c,#[⟨.cell (r.ad j),true,md==.atomic⟩]++S,A,λd=>?_,⟨xM F.1,λd=>DX.trans (DX.set d X.1 (λe D=>?_)) (F.2 d)⟩,Z.trans L (λb q=>.inl (U b q)),λb q=>(K b q).imp (U b) (λz=>by omega)⟩
    .rw[zx (P:=P) (w:=w.at d) hp (show(w.at d).cell? (r.ad j)=some (r.get j)from R) X.2];show Sem.runT P k ((w.setCell (r.ad j) v).at d) _=_;rw[y d];simp
    .simp at D;subst D;exact Rt (w:=w.setCell (r.ad j) v) (World.cell?_setCell_same' _ _ _ (by rw[R];rfl)) X.1
   .cases h
  .cases h
 |new o k I=>
  intro m G x h E q w es u;simp only[dw]at h;split at h
  .rename_i Q t;have ZX:∀(a:Addr)(wr:Bool),w.heap.size<=a.block->Ok a wr:=λa wr z=>hB a wr (by rw[u.sz]at z;omega);have hS:=u.sat.new Q t ZX;rw[u.sz]at hS;have N:(w.alloc (.cells Q t (0,0))).heap.size=w.heap.size+1:=Array.size_push _;obtain⟨C,c,S,A,y,F,L,K⟩:=I _ _ _ _ h E q (w.alloc (.cells Q t (0,0))) es ⟨hS,by rw[N,u.sz,Nat.add_assoc]⟩;have H:=DX.alloc (Ok:=Ok) (w:=w) (es:=#[]);have Z:Fr (Wr m.M) w (w.alloc (.cells Q t (0,0))):=by
    have H:=DX.alloc (Ok:=λa wr=>wr=true->Wr m.M a) (w:=w) (es:=#[]) 0 (.cells Q t (0,0)) (by simp);exact⟨H.size,λb A y=>H.cell b (λz=>y (z rfl)) A,λk A y=>H.blk k A (λb e z=>y b e (z rfl)),H.obj,λg e n z=>z.alloc _⟩
   have U:∀b,Wr (Yr (B+m.c) t Q::m.M) b->Wr m.M b\/w.heap.size<=b.block:=λb q=>(Wr.cons q).imp id (λz=>by rw[u.sz];exact z);refine⟨C,c,S,A,λd=>?_,⟨F.1,λd=>?_⟩,Z.trans L U,λb q=>(K b q).elim (U b) (λz=>.inr (by omega))⟩
   .have hz:(w.at d).heap.size=B+m.c:=u.sz;simp only[Sem.runT,hz];exact y d
   .have:=DX.trans (H d (.cells Q t (0,0)) (by simp)) (F.2 d);grind
  .cases h
 |program k I=>
  intro m G x h E q w es u;obtain⟨C,c,S,A,y,F,L,K⟩:=I _ _ _ _ h E q w es u;exact⟨C,c,S,A,λd=>by simp only[Sem.runT];exact y d,F,L,K⟩
 |mark mk k I=>
  intro m G x h E q w es u;cases mk<;>try(simp only[dw]at h;cases h;done)
  rename_i f;simp only[dw]at h;obtain⟨C,c,S,A,y,F,L,K⟩:=I _ _ _ h E q w (es.push ⟨.mark (.extern f),false,true⟩) u;refine⟨C,#[⟨.mark (.extern f),false,true⟩]++c,S,A,λd=>?_,⟨λe D=>?_,F.2⟩,L,K⟩
  .simp only[Sem.runT];rw[y d];simp
  .rcases nQ.1 D with z|z
   .simp at z;rw[z];exact .inr (Dc f)
   grind
 |_=>intros;simp_all [dw]
theorem fV:∀(s:Sem α)(x:α),cV P s=some x->∀(w:aj)(es:dS),s.runT P w es=(.ok x w,es):=by
 intro s;induction s with
 |pure a=>intro x h w es;simp[cV]at h;simp_all
 |program k b=>intro x h w es;simp only[Sem.runT];exact b _ _ h w es
 |_=>intros;simp_all [cV]
end Go.Proofs.YtobagnjnbmgidaaGreatDoor
