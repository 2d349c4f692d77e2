import Derived.Test.YtobagnjnbmgidabGreatDoorZ1
import Derived.Conc.Listed
import Derived.Test.YtobagnjnbmgidabGreatDoorChecked
import Derived.Conc.TokenWords
import Derived.Laws.AppendOwn
import Derived.Maps.AppendAt
import Derived.Conc.LeavingOf
import Derived.RunNT
set_option linter.all false
set_option maxRecDepth 100000
namespace Go.Proofs.YtobagnjnbmgidabGreatDoor
open Go.Conc Go.RowKit Tryz
open Go.ConcN (sumTo upd sumTo_upd upd_ne upd_same)
variable{z:Addr}{ats:Array TypeId}{cl:Bool}{d:Deferred}{x:Nat}{α γ:Type}{fr:aC}{y:aV}{r:aN}
variable{Ok Wy:dh}{main:Bool}{L' rest cc:aN}{C C':List Addr}{w' Y aaK wI:aj}{p a1 a2 a3 a4 a5:Addr}{v v' v1 v2 v3 v4 v5:ay}{n i B h dl B' j c nb:Nat}{D:yW}{b:aC}{k S:eC}{cs:cO}{O:g8}{f:FuncId}{fn:Func}{Z:gd}{Post:qz}{Shun Still:dm}{Mem J pH:p8}{U:Nat->Option Seat}{T u:Trace}{I:jH}{q H:bU}{F:Event->Prop}{A:Act}{Anchor Φ Q':kr}{st:oJ}{St tW:Nat->Loc->Prop}{K':cK}{M':Nat->Goroutine->Prop}{g':aV}
def Yk(e:Event):Prop:=∀(quiet:FuncId->Bool)(q:Bool)(kept:dS),(seenStep quiet (q,kept) e).2=kept
def Yk.loc{e:Event}(h:Yk e)(z:Addr):e.loc≠.cell z:=λa=>by
 have:=h (λ_=>false) false #[];simp[seenStep,a]at this
def Cr(quiet:FuncId->Bool)(q:Bool)(kept:dS)(a e:Event)(h:e∈(seenStep quiet (q,kept) a).2):e∈kept\/(e=a/\¬Yk a):=by
 by_cases b:(seenStep quiet (q,kept) a).2=kept
 .rw[b]at h;exact .inl h
 have c:¬Yk a:=λz=>b (z quiet q kept);simp only[seenStep]at h;split at h
 .exact .inl h
 .split at h
  .exact .inl h
  .rcases Array.mem_push.1 h with h|h
   .exact .inl h
   .exact .inr ⟨h,c⟩
def zu(quiet:FuncId->Bool):∀(l:TR)(x:Bool×Array Event)(e:Event),e∈(l.foldl (seenStep quiet) x).2->e∈x.2\/¬Yk e:=by
 intro l;induction l with
 |nil=>exact λ_ _ h=>.inl h
 |cons a l b=>
  intro x e h;rcases b _ _ h with h|h
  .rcases Cr quiet x.1 x.2 a e h with h|⟨rfl,h⟩
   .exact .inl h
   .exact .inr h
  .exact .inr h
def zm{P:aG}{fn:FuncId}{a:Act}{o:Oper}{w:aj}{e:Event}(h:e∈listed P fn a o w):e∈(execOp a.eval o).events P w #[]/\¬Yk e:=by
 refine⟨Ly h,?_⟩;unfold listed at h;rw[seen_def]at h;rcases zu _ _ (_,#[]) e h with h|h
 .simp at h
 .exact h
def Dc(f:FuncId):Yk ⟨.mark (.extern f),false,true⟩:=λ_ _ _=>rfl
def aB.W5{P:aG}{V:gi}{a:Act}{w:aj}(F:aB P main D V){o:Oper}(p:O[i]? =some o)(n:Region.wanted o (yielded O a.tmps)=true)(q:b.kind≠.early)(h:∀d,∀K:Act->World->Prop,(∀m w' (S:dS),(∀e∈raw P a o (w.at d),e∈S\/Yk e)->D (w.at d) (w'.at d) S/\V (G (b.at m (.inRegion O rest::k)) cs) w'->K m (w'.at d))->uponK o a K ((execOp a.eval o).run P (w.at d))):
 V (G (b.at a (.inRegion O (i::rest)::k)) cs) w:=
 F.step _ _ rfl λd=>by
  have f:=h d (λm W=>∃S:Array Event,(∀e∈raw P a o (w.at d),e∈S\/Yk e)/\D (w.at d) W S/\V (G (b.at m (.inRegion O rest::k)) cs) W) λm w' S h x=>⟨S,h,x.1,F.at' _ _ _ x.2⟩
  have g:∀S:Array Event,(∀e∈raw P a o (w.at d),e∈S\/Yk e)->∀e∈listed P b.fn a o (w.at d),e∈S:=λS i e j=>by
   let⟨h,b⟩:=zm j;exact(i e h).resolve_right b
  cases c:(execOp a.eval o).run P (w.at d)with
  |halt _ _=>rw[c]at f;exact f.elim
  |ok x a=>
   rw[c]at f;cases x
   case value v=>
    let⟨S,b,a,d⟩:=f;refine⟨_,_,_,stepG_value p n q c,F.less _ _ _ _ a (g S b),d,λz v h i=>?_⟩;let⟨k,l⟩:=rP v c (λe j=>(b e j).elim (h _ _ _ a e) λy=>y.loc z) i;rw[stepG_value p n q k];unfold listed;unfold raw at l;rw[l]
   case skip=>
    let⟨S,b,a,d⟩:=f;refine⟨_,_,_,stepG_none p n q c,F.less _ _ _ _ a (g S b),d,λz v h i=>?_⟩;let⟨k,l⟩:=rP v c (λe j=>(b e j).elim (h _ _ _ a e) λy=>y.loc z) i;rw[stepG_none p n q k];unfold listed;unfold raw at l;rw[l]
   all_goals exact f.elim
abbrev Env:=List (Nat×Value)
def look:Env->Nat->Option Value
 |[],_=>none
 |(k,v)::E,n=>bif k==n then some v else look E n
def ev(E:Env):Operand->Value
 |.tmp t=>(look E t).getD undef
 |.const v=>v
 |.global g=>.pointer (some ⟨g,0,none⟩)
 |.func f=>.func (.func f) #[] #[]
def kn(E:Env):Operand->Bool
 |.tmp t=>(look E t).isSome
 |_=>true
abbrev Ix:=Nat×Nat
structure aH where
 ad:Ix->Addr
 vs:List Value
 vl:Nat->Nat->Value
 n:Nat
 k:Nat
 wr:Bool
 row:Option (Nat×TypeId×Nat)
abbrev aW:=List aH
def aH.has(r:aH)(j:Ix):Prop:=j.1<r.n/\j.2<r.k
def nth:List aH->Nat->Option aH
 |[],_=>none
 |r::_,0=>some r
 |_::l,n+1=>nth l n
def cG:List aH->Nat->aH->List aH
 |[],_,_=>[]
 |_::l,0,r=>r::l
 |x::l,n+1,r=>x::cG l n r
def plain:Value->Bool
 |.agg _=>false
 |.tuple _=>false
 |_=>true
def JD(f:Nat->Nat->Value)(j l:Nat)(x:ay):Nat->Nat->Value:=λa b=>bif b==l&&a==j then x else f a b
def aH.get(r:aH)(j:Ix):Value:=match r.vs with
 |[]=>r.vl j.1 j.2
 |v::vs=>(v::vs).getD j.2 undef
def aH.set(r:aH)(j:Ix)(x:ay):aH:=match r.vs with
 |[]=>⟨r.ad,[],JD r.vl j.1 j.2 x,r.n,r.k,r.wr,r.row⟩
 |v::vs=>⟨r.ad,(v::vs).set j.2 x,r.vl,r.n,r.k,r.wr,r.row⟩
def aH.may(r:aH)(j:Ix):Bool:=match r.vs with
 |[]=>true
 |v::vs=>Nat.blt j.2 (v::vs).length&&r.n==1
def aH.zp(r:aH)(j:Ix)(x:ay):(r.set j x).ad=r.ad:=by unfold aH.set;grind
def aH.Ph(r:aH)(j:Ix)(x:ay):(r.set j x).n=r.n:=by unfold aH.set;grind
def aH.Pj(r:aH)(j:Ix)(x:ay):(r.set j x).k=r.k:=by unfold aH.set;grind
def aH.Ez(r:aH)(j:Ix)(x:ay):(r.set j x).wr=r.wr:=by unfold aH.set;grind
def aH.H7(r:aH)(j:Ix)(x:ay):(r.set j x).row=r.row:=by unfold aH.set;grind
def aH.vA(r:aH)(j:Ix)(x:ay)(k:Ix):(r.set j x).has k↔r.has k:=by unfold aH.has;rw[aH.Ph,aH.Pj]
def aH.Jf(r:aH)(j k:Ix)(x:ay)(g:r.may j=true)(o:r.has j)(m:r.has k):(r.set j x).get k=if k=j then x else r.get k:=by
 let⟨l,b⟩:=j;let⟨i,f⟩:=k;let⟨s,a,h,n,c,wr,e⟩:=r;cases a with
 |nil=>
  simp only[aH.set,aH.get,JD];grind
 |cons v a=>
  simp only[aH.may,bZ]at g;let⟨_,j⟩:=g;have j:b<(v::a).length:=ξ
  have j:n=1:=ξ
  have q:l=0:=by have:=o.1;simp_all
  have p:i=0:=by have:=m.1;simp_all
  subst q;subst p;have d:∃u us,(v::a).set b x=u::us:=by cases b<;>exact⟨_,_,rfl⟩
  let⟨u,us,i⟩:=d;have d:(aH.set ⟨s,v::a,h,n,c,wr,e⟩ (0,b) x).get (0,f)=((v::a).set b x).getD f undef:=by
   simp only[aH.set,aH.get,i]
  rw[d];by_cases a:f=b
  .grind
  .rw[af (by simp[a])];simp only[aH.get,ni,List.getElem?_set_ne (λz=>a z.symm)]
abbrev Hint:=Nat×Ix×Bool
structure lW where
 hs:List Hint
 M:List aH
 c:Nat
 eqs:List (Addr×Addr)
 cW:List (Nat×Nat)
def lW.yK(m:lW)(hs:List Hint)(M:aW)(a b:Addr)(l:Bool)(j n:Nat):lW:=⟨hs,M,m.c,(a,b)::m.eqs,bif l then m.cW else(j,n)::m.cW⟩
def Yr(b:Nat)(t:TypeId)(cs:gd):aH:=⟨λj=>⟨b,j.2,none⟩,cs.toList,λ_ _=>undef,1,cs.size,true,match cs.toList with|[]=>none|_::_=>some (b,t,cs.size)⟩
def dw{α:Type}(P:aG)(B:Nat):Sem α->lW->Option (α×lW)
 |.pure a,s=>some (a,s)
 |.load _ a k,s=>match s.hs with
  |(i,j,l)::hs=>match nth s.M i with
   |some r=>bif Nat.blt j.2 r.k&&(!l||Nat.blt j.1 r.n)then dw P B (k (r.get j)) (s.yK hs s.M a (r.ad j) l j.1 r.n)else none
   |none=>none
  |[]=>none
 |.store _ a v k,s=>match s.hs with
  |(i,j,l)::hs=>match nth s.M i with
   |some r=>bif r.wr&&plain v&&r.may j&&(Nat.blt j.2 r.k&&(!l||Nat.blt j.1 r.n))then dw P B k (s.yK hs (cG s.M i (r.set j v)) a (r.ad j) l j.1 r.n)else none
   |none=>none
  |[]=>none
 |.new o k,s=>match o with
  |.cells cs t (0,0)=>dw P B (k (B+s.c)) {s with M:=Yr (B+s.c) t cs::s.M,c:=s.c+1}
  |_=>none
 |.program k,s=>dw P B (k P) s
 |.mark (.extern _) k,s=>dw P B k s
 |_,_=>none
def cV{α:Type}(P:aG):Sem α->Option α
 |.pure a=>some a
 |.program k=>cV P (k P)
 |_=>none
def pI(w:aj)(g:Nat)(e:TypeId)(n:Nat):Prop:=∃cur,w.heap[g]? =some (.cells cur e (0,0))/\cur.size=n
def pI.set{w:aj}{g:Nat}{e:TypeId}(h:pI w g e n)(a:Addr)(v:ay):pI (w.setCell a v) g e n:=by
 let⟨_,a,b⟩:=h;unfold pI;simp only[World.setCell,sU,a];grind
def pI.alloc{w:aj}{g n:Nat}{e:TypeId}(h:pI w g e n)(o:Obj):pI (w.alloc o) g e n:=by
 let⟨a,b,c⟩:=h;exact⟨a,by rw[Below.heap_alloc _ _ _ ((cU.1 b).1)];exact b,c⟩
structure Sat(Ok:dh)(w:aj)(M:aW):Prop where
 val:∀i r,nth M i=some r->∀j,r.has j->w.cell? (r.ad j)=some (r.get j)
 ok:∀i r,nth M i=some r->∀j,r.has j->Ok (r.ad j) false/\(r.wr=true->Ok (r.ad j) true/\w.frozen? (r.ad j)=false)
 sep:∀i r i' r',nth M i=some r->nth M i'=some r'->r.wr=true->∀j j',r.has j->r'.has j'->r.ad j=r'.ad j'->i=i'/\j=j'
 row:∀i r,nth M i=some r->∀g e n,r.row=some (g,e,n)->r.has (0,0)/\(r.ad (0,0)).block=g/\pI w g e n
def Wr(M:aW)(a:Addr):Prop:=∃i r j,nth M i=some r/\r.wr=true/\r.has j/\r.ad j=a
structure Fr(W:Addr->Prop)(w w':aj):Prop where
 size:w.heap.size<=w'.heap.size
 cell:∀a:Addr,a.block<w.heap.size->¬W a->w'.cell? a=w.cell? a/\w'.frozen? a=w.frozen? a
 blk:∀k:Nat,k<w.heap.size->(∀a:Addr,a.block=k->¬W a)->w'.heap[k]? =w.heap[k]?
 obj:∀(c:Nat)(o:Obj),w.heap[c]? =some o->(∀cs t f,o≠Obj.cells cs t f)->w'.heap[c]? =some o
 row:∀g e n,pI w g e n->pI w' g e n
def Fr.refl(W:Addr->Prop)(w:aj):Fr W w w:=⟨az _,λ_ _ _=>⟨rfl,rfl⟩,λ_ _ _=>rfl,λ_ _ h _=>h,λ_ _ _ h=>h⟩
def Fr.trans{W i:Addr->Prop}{w f b:aj}(h:Fr W w f)(d:Fr i f b)(j:∀a,i a->W a\/w.heap.size<=a.block):Fr W w b:=by
 refine⟨aT h.size d.size,λa f b=>?_,λk i b=>?_,λc o l b=>d.obj c o (h.obj c o l b) b,λg e n z=>d.row g e n (h.row g e n z)⟩
 .have c:=h.cell a f b;have c:=d.cell a (ga f h.size) (λx=>(j a x).elim b ω);simp_all
 .rw[<-h.blk k i b];exact d.blk k (ga i h.size) (λa f x=>(j a x).elim (b a f) ω)
def DX.trans{Ok:dh}{w f d:aj}{i g:dS}(h:DX Ok w f i)(b:DX Ok f d g):DX Ok w d (i++g):=by
 refine⟨λe g=>?_,aT h.size b.size,λc o f d=>b.obj c o (h.obj c o f d) d,λa d f=>?_,λk c d=>?_,?_⟩
 .rcases nQ.1 g with x|x
  .rcases h.ev e x with ⟨a,i,g,l,j⟩|y
   .exact .inl ⟨a,i,g,l,ga j b.size⟩
   .exact .inr y
  .exact b.ev e x
 .have i:=h.cell a d f;have g:=b.cell a d (ga f h.size);simp_all
 .rw[<-h.blk k c d];exact b.blk k (ga c h.size) d
 .exact⟨b.rest.1.trans h.rest.1,b.rest.2.1.trans h.rest.2.1,b.rest.2.2.trans h.rest.2.2⟩
def dX:∀(M:aW)(i:Nat)(r:aH)(k:Nat),nth (cG M i r) k=if k=i then(nth M i).map (λ_=>r)else nth M k
 |[],i,r,k=>by simp[cG,nth]
 |x::l,0,r,k=>by cases k<;>simp[cG,nth]
 |x::l,i+1,r,k=>by
  cases k with
  |zero=>rfl
  |succ k=>simp[cG,nth,dX l i r k]
def iB{M:aW}{R s:aH}{k:Nat}(h:nth (R::M) k=some s):(∃a,k=a+1/\nth M a=some s)\/(k=0/\s=R):=by
 cases k with
 |zero=>simp[nth]at h;simp_all
 |succ k=>exact .inl ⟨k,rfl,h⟩
def qH:∀(M:aW)(k:Nat)(r:aH),nth M k=some r->k<M.length
 |[],k,r=>by simp[nth]
 |x::l,0,r=>ψ
 |x::l,k+1,r=>λh=>by have:=qH l k r h;simp;omega
section
variable{w:aj}{M:aW}
def Sat.lt(h:Sat Ok w M){r:aH}(b:nth M i=some r){j:Ix}(a:r.has j):(r.ad j).block<w.heap.size:=au (h.val i r b j a)
def Sat.set(h:Sat Ok w M){i:Nat}{r:aH}(q:nth M i=some r)(J:r.wr=true){j:Ix}(z:r.has j)(P:r.may j=true)(v:ay):
 Sat Ok (w.setCell (r.ad j) v) (cG M i (r.set j v)):=by
 have key:∀k s,nth (cG M i (r.set j v)) k=some s->∃a,nth M k=some a/\s.ad=a.ad/\(∀l,s.has l->a.has l)/\s.wr=a.wr/\(k=i->s=r.set j v/\a=r)/\(k≠i->s=a):=by
  intro k s c;rw[dX]at c;split at c
  .rename_i e;subst e;rw[q]at c;simp at c;subst c;exact⟨r,q,aH.zp ..,λl h=>(aH.vA ..).1 h,aH.Ez ..,λ_=>⟨rfl,rfl⟩,λx=>absurd rfl x⟩
  simp_all
 have Q:=h.val i r q j z;refine⟨λk s c l d=>?_,λk s c l d=>?_,λk s I N c E O l H d D K=>?_,λk s c g e n F=>?_⟩
 .let⟨a,f,t,m,A,y,u⟩:=key k s c;by_cases b:k=i
  .let⟨f1,f2⟩:=y b;subst b;subst f2;rw[t,f1,aH.Jf _ _ _ _ P z (m l d)];by_cases p:l=j
   .subst p;rw[World.cell?_setCell_same' _ _ _ (by rw[Q];rfl)];simp
   .have o:a.ad j≠a.ad l:=λe=>p (h.sep k a k a q q J j l z (m l d) e).2.symm;rw[qa _ _ _ _ o,af p];exact h.val k a q l (m l d)
  .obtain rfl:=u b;have o:r.ad j≠s.ad l:=λe=>b (h.sep i r k s q f J j l z d e).1.symm;rw[qa _ _ _ _ o];exact h.val k s f l d
 .let⟨a,f,t,m,A,y,u⟩:=key k s c;rw[t,A,YB];exact h.ok k a f l (m l d)
 .let⟨a,f,t,m,A,y,u⟩:=key k s c;let⟨L,R,f1,f2,f3,f4,f5⟩:=key I N E;rw[t,f1]at K;exact h.sep k a I L f R ξ l H (m l d) (f2 H D) K
 .let⟨a,f,t,m,A,y,u⟩:=key k s c;by_cases b:k=i
  .let⟨f1,f2⟩:=y b;subst b;subst f2;subst f1;rw[aH.H7]at F;let⟨C,G,B⟩:=h.row k a f g e n F;exact⟨(aH.vA ..).2 C,ξ,B.set _ _⟩
  .obtain rfl:=u b;let⟨C,G,B⟩:=h.row k s f g e n F;exact⟨C,G,B.set _ _⟩
def Sat.new(h:Sat Ok w M)(cs:gd)(t:TypeId)(o:∀(a:Addr)(wr:Bool),w.heap.size<=a.block->Ok a wr):Sat Ok (w.alloc (.cells cs t (0,0))) (Yr w.heap.size t cs::M):=by
 refine⟨λk s i l b=>?_,λk s i l b=>?_,λk s K F i p r l z b d q=>?_,λk s i g e n m=>?_⟩
 .rcases iB i with ⟨f,_,c⟩|⟨_,rfl⟩
  .rw[Hx _ _ _ (h.lt c b)];exact h.val f s c l b
  .have d:l.2<cs.size:=b.2;show(w.alloc (.cells cs t (0,0))).cell? ⟨w.heap.size,l.2,none⟩=some (aH.get (Yr w.heap.size t cs) l);have m:aH.get (Yr w.heap.size t cs) l=cs.toList.getD l.2 undef:=by
    cases u:cs.toList with
    |nil=>simp_all
    |cons v y=>simp only[Yr,aH.get,u]
   simp_all
 .rcases iB i with ⟨f,_,c⟩|⟨_,rfl⟩
  .have G:(w.alloc (.cells cs t (0,0))).frozen? (s.ad l)=w.frozen? (s.ad l):=World.frozen?_alloc_past _ _ _ (h.lt c b);rw[G];exact h.ok f s c l b
  .refine⟨o _ _ (az _),λ_=>⟨o _ _ (az _),?_⟩⟩;show(w.alloc (.cells cs t (0,0))).frozen? ⟨w.heap.size,l.2,none⟩=false;simp
 .rcases iB i with ⟨f,N,c⟩|⟨J,rfl⟩
  .rcases iB p with ⟨A,I,j⟩|⟨B,rfl⟩
   .have:=h.sep f s A F c j r l z b d q;simp_all
   .have:=h.lt c b;rw[q]at this;exact absurd this (Ap _)
  .rcases iB p with ⟨A,I,j⟩|⟨B,rfl⟩
   .have:=h.lt j d;rw[<-q]at this;exact absurd this (Ap _)
   .refine⟨J.trans B.symm,?_⟩;have L:l.2=z.2:=cT Addr.off q;have H:=b.1;have x:=d.1;simp only[Yr]at H x;grind
 .rcases iB i with ⟨f,_,c⟩|⟨_,rfl⟩
  .let⟨E,D,C⟩:=h.row f s c g e n m;exact⟨E,D,C.alloc _⟩
  .simp only[Yr]at m;split at m
   .cases m
   .rename_i v y u;cases m;have:cs.toList.length=y.length+1:=by rw[u];rfl
    rw[za]at this;refine⟨⟨aD,by simp only[Yr];omega⟩,rfl,cs,?_,rfl⟩;show(w.heap.push (.cells cs t (0,0)))[w.heap.size]? =_;simp
end
def zx{P:aG}{m:Mode}{a:Addr}{k:Sem α}{w:aj}{es:dS}{x:ay}(b:plain v=true)(d:w.cell? a=some x)(c:w.frozen? a=false):
 (Sem.store m a v k).runT P w es=k.runT P (w.setCell a v) (es.push ⟨.cell a,true,m==.atomic⟩):=by
 cases v<;>first|(simp[plain]at b;done)|simp[Sem.runT,d,c]
def aE{β:Type}{c:Bool}{x:Option β}{y:β}(h:(bif c then x else none)=some y):c=true/\x=some y:=by
 grind
def gI{P:aG}:∀(s:Sem α)(m c:lW)(x:α),dw P B s m=some (x,c)->(∀p∈m.eqs,p∈c.eqs)/\(∀p∈m.cW,p∈c.cW):=by
 have e:∀(m:lW)(e:List Hint)(M:aW)(a b:Addr)(l:Bool)(j n:Nat),(∀p∈m.eqs,p∈(m.yK e M a b l j n).eqs)/\(∀p∈m.cW,p∈(m.yK e M a b l j n).cW):=λm e M a b l j n=>
  ⟨λp f=>aP _ f,λp f=>by cases l<;>simp[lW.yK,f]⟩
 intro s;induction s with
 |pure a=>intro m c x h;simp[dw]at h;simp_all
 |load md a k d=>
  intro m c x h;simp only[dw]at h;grind
 |store md a v k d=>
  intro m c x h;simp only[dw]at h;grind
 |new o k d=>
  intro m c x h;simp only[dw]at h;split at h
  .have a:=d _ _ _ _ h;exact a
  .cases h
 |program k d=>intro m c x h;exact d _ _ _ _ h
 |mark mk k d=>
  intro m c x h;cases mk<;>simp only[dw]at h<;>first|exact d _ _ _ h|cases h
 |_=>intros;simp_all [dw]
structure Inv(Ok:dh)(B:Nat)(w:aj)(m:lW):Prop where
 sat:Sat Ok w m.M
 sz:w.heap.size=B+m.c
def Wr.put{M:aW}{r:aH}{l:Ix}(g:nth M i=some r){a:Addr}(h:Wr (cG M i (r.set l v)) a):Wr M a:=by
 let⟨k,s,j,b,f,d,c⟩:=h;rw[dX]at b;split at b
 .rename_i e;subst e;rw[g]at b;simp at b;subst b;rw[aH.Ez]at f;rw[aH.vA]at d;rw[aH.zp]at c;exact⟨k,r,j,g,f,d,c⟩
 .exact⟨k,s,j,b,f,d,c⟩
def Wr.cons{M:aW}{b:Nat}{t:TypeId}{cs:gd}{a:Addr}(h:Wr (Yr b t cs::M) a):Wr M a\/b<=a.block:=by
 let⟨k,s,j,a,f,e,c⟩:=h;rcases iB a with ⟨d,_,g⟩|⟨_,rfl⟩
 .exact .inl ⟨d,s,j,g,f,e,c⟩
 .subst c;exact .inr (az _)
def xM{x:Event}{es S:dS}(h:∀e∈es,e∈S\/Yk e):∀e∈#[x]++es,e∈#[x]++S\/Yk e:=λe a=>by
 grind
def AH{P:aG}(hB:∀(a:Addr)(wr:Bool),B<=a.block->Ok a wr):∀(s:Sem α)(m F:lW)(x:α),dw P B s m=some (x,F)->
 (∀p∈F.eqs,p.1=p.2)->(∀p∈F.cW,p.1<p.2)->∀(w:aj)(es:dS),Inv Ok B w m->
 ∃w' c S,Inv Ok B w' F/\(∀d,s.runT P (w.at d) es=(.ok x (w'.at d),es++c))/\((∀e∈c,e∈S\/Yk e)/\∀d,DX Ok (w.at d) (w'.at d) S)/\Fr (Wr m.M) w w'/\(∀a,Wr F.M a->Wr m.M a\/w.heap.size<=a.block):=by
 intro s;induction s with
 |pure a=>
  intro m F x h D q w es u;simp[dw]at h;obtain⟨rfl,rfl⟩:=h;exact⟨w,#[],#[],u,λd=>φ,⟨ψ,λd=>DX.still d ψ⟩,Fr.refl _ _,λ_ h=>.inl h⟩
 |load md a k H=>
  intro m F x h D q w es u;simp only[dw]at h;split at h
  .rename_i i j l hs W;split at h
   .rename_i r L;let⟨I,h⟩:=aE h;have C:=gI _ _ _ _ h;have Z:a=r.ad j:=D (a,r.ad j) (C.1 (a,r.ad j) (by simp[lW.yK]));simp only[bZ]at I;have N:r.has j:=by
     refine⟨?_,by simpa using I.1⟩;cases l with
     |true=>simpa using I.2
     |false=>exact q (j.1,r.n) (C.2 (j.1,r.n) (by simp[lW.yK]))
    subst Z;have O:=u.sat.val i r L j N;let⟨w',c,S,A,y,E,K,J⟩:=H _ _ _ _ h D q w (es.push ⟨.cell (r.ad j),false,md==.atomic⟩) ⟨u.sat,u.sz⟩;refine⟨w',#[⟨.cell (r.ad j),false,md==.atomic⟩]++c,#[⟨.cell (r.ad j),false,md==.atomic⟩]++S,A,λd=>?_,⟨xM E.1,λd=>DX.trans (DX.still d (λe C=>?_)) (E.2 d)⟩,K,J⟩
    .have U:(w.at d).cell? (r.ad j)=some (r.get j):=O;simp only[Sem.runT,U];rw[y d];simp
    .simp at C;subst C;exact Rt O (u.sat.ok i r L j N).1
   .cases h
  .cases h
 |store md a v k H=>
  intro m F x h D q w es u;simp only[dw]at h;split at h
  .rename_i i j l hs W;split at h
   .rename_i r L;let⟨I,h⟩:=aE h;have C:=gI _ _ _ _ h;have Z:a=r.ad j:=D (a,r.ad j) (C.1 (a,r.ad j) (by simp[lW.yK]));simp only[bZ]at I;let⟨⟨⟨T,hp⟩,Q⟩,I⟩:=I;have N:r.has j:=by
     refine⟨?_,by simpa using I.1⟩;cases l with
     |true=>simpa using I.2
     |false=>exact q (j.1,r.n) (C.2 (j.1,r.n) (by simp[lW.yK]))
    subst Z;have O:=u.sat.val i r L j N;have V:=(u.sat.ok i r L j N).2 T;have M:(w.setCell (r.ad j) v).heap.size=w.heap.size:=ψ
    let⟨w',c,S,A,y,E,K,J⟩:=H _ _ _ h D q (w.setCell (r.ad j) v) (es.push ⟨.cell (r.ad j),true,md==.atomic⟩) ⟨u.sat.set L T N Q v,M.trans u.sz⟩;have R:∀b,Wr (cG m.M i (r.set j v)) b->Wr m.M b:=λb q=>q.put L;have X:Fr (Wr m.M) w (w.setCell (r.ad j) v):=by
     have G:=DX.set (Ok:=λa wr=>wr=true->Wr m.M a) (w:=w) (es:=#[]) (v:=v) 0 (a:=r.ad j) (λ_=>⟨i,r,j,L,T,N,rfl⟩) ψ;exact⟨G.size,λb A y=>G.cell b (λz=>y (z rfl)) A,λk A y=>G.blk k A (λb e z=>y b e (z rfl)),G.obj,λg e n z=>z.set _ _⟩
    refine⟨w',#[⟨.cell (r.ad j),true,md==.atomic⟩]++c,#[⟨.cell (r.ad j),true,md==.atomic⟩]++S,A,λd=>?_,⟨xM E.1,λd=>DX.trans (DX.set d V.1 (λe C=>?_)) (E.2 d)⟩,X.trans K (λb q=>.inl (R b q)),λb q=>(J b q).imp (R b) (λz=>ω)⟩
    .rw[zx (P:=P) (w:=w.at d) hp (show(w.at d).cell? (r.ad j)=some (r.get j)from O) V.2];show Sem.runT P k ((w.setCell (r.ad j) v).at d) _=_;rw[y d];simp
    .simp at C;subst C;exact Rt (w:=w.setCell (r.ad j) v) (World.cell?_setCell_same' _ _ _ (by rw[O];rfl)) V.1
   .cases h
  .cases h
 |new o k H=>
  intro m F x h D q w es u;simp only[dw]at h;split at h
  .rename_i cs t;have Y:∀(a:Addr)(wr:Bool),w.heap.size<=a.block->Ok a wr:=λa wr z=>hB a wr (by rw[u.sz]at z;omega);have hS:=u.sat.new cs t Y;rw[u.sz]at hS;have M:(w.alloc (.cells cs t (0,0))).heap.size=w.heap.size+1:=Array.size_push _;let⟨w',c,S,A,y,E,K,J⟩:=H _ _ _ _ h D q (w.alloc (.cells cs t (0,0))) es ⟨hS,by rw[M,u.sz,Nat.add_assoc]⟩;have G:=DX.alloc (Ok:=Ok) (w:=w) (es:=#[]);have X:Fr (Wr m.M) w (w.alloc (.cells cs t (0,0))):=by
    have G:=DX.alloc (Ok:=λa wr=>wr=true->Wr m.M a) (w:=w) (es:=#[]) 0 (.cells cs t (0,0)) ψ;exact⟨G.size,λb A y=>G.cell b (λz=>y (z rfl)) A,λk A y=>G.blk k A (λb e z=>y b e (z rfl)),G.obj,λg e n z=>z.alloc _⟩
   have R:∀b,Wr (Yr (B+m.c) t cs::m.M) b->Wr m.M b\/w.heap.size<=b.block:=λb q=>(Wr.cons q).imp id (λz=>by rw[u.sz];exact z);refine⟨w',c,S,A,λd=>?_,⟨E.1,λd=>?_⟩,X.trans K R,λb q=>(J b q).elim (R b) (λz=>.inr ω)⟩
   .have hz:(w.at d).heap.size=B+m.c:=u.sz;simp only[Sem.runT,hz];exact y d
   .have:=DX.trans (G d (.cells cs t (0,0)) ψ) (E.2 d);grind
  .cases h
 |program k H=>
  intro m F x h D q w es u;let⟨w',c,S,A,y,E,K,J⟩:=H _ _ _ _ h D q w es u;exact⟨w',c,S,A,λd=>by simp only[Sem.runT];exact y d,E,K,J⟩
 |mark mk k H=>
  intro m F x h D q w es u;cases mk<;>try(simp only[dw]at h;cases h;done)
  rename_i f;simp only[dw]at h;let⟨w',c,S,A,y,E,K,J⟩:=H _ _ _ h D q w (es.push ⟨.mark (.extern f),false,true⟩) u;refine⟨w',#[⟨.mark (.extern f),false,true⟩]++c,S,A,λd=>?_,⟨λe C=>?_,E.2⟩,K,J⟩
  .simp only[Sem.runT];rw[y d];simp
  .rcases nQ.1 C with z|z
   .simp at z;rw[z];exact .inr (Dc f)
   grind
 |_=>intros;simp_all [dw]
def fV{P:aG}:∀(s:Sem α)(x:α),cV P s=some x->∀(w:aj)(es:dS),s.runT P w es=(.ok x w,es):=by
 intro s;induction s with
 |pure a=>intro x h w es;simp[cV]at h;simp_all
 |program k b=>intro x h w es;simp only[Sem.runT];exact b _ _ h w es
 |_=>intros;simp_all [cV]
def mixed:prog.follows .mixedOrders=true:=ρ
def aB.OA{P:aG}{V:gi}{a:Act}{w:aj}(F:aB P main D V){o:Oper}(f:O[i]? =some o)(e:Region.wanted o (yielded O a.tmps)=true)(g:b.kind≠.early)(h:∀d,∀K:Act->World->Prop,(∀c w',D (w.at d) w' (raw P a o (w.at d))/\V (G (b.at c (.inRegion O rest::k)) cs) w'->K c w')->uponK o a K ((execOp a.eval o).run P (w.at d))):
 V (G (b.at a (.inRegion O (i::rest)::k)) cs) w:=
 F.W6 f e g h
structure Kp(L:aN)(w w':aj)(C:List Addr:=[]):Prop where
 size:w.heap.size<=w'.heap.size
 cellC:∀(a:Addr)(v:ay),a.block∉L->a∉C->w.cell? a=some v->w'.cell? a=some v
 Q6:∀(a:Addr)(v:ay),a.block∉L->a∉C->w.cell? a=some v->w'.frozen? a=w.frozen? a
 blk:∀(k:Nat)(c:gd)(t:TypeId)(f:Nat×Nat),k∉L->(∀x∈C,x.block≠k)->w.heap[k]? =some (.cells c t f)->w'.heap[k]? =some (.cells c t f)
section
variable{L:aN}{w:aj}{a:Addr}{o:Obj}
def Kp.cell(h:Kp L w w')(a:Addr)(v:ay)(b:a.block∉L)(c:w.cell? a=some v):w'.cell? a=some v:=h.cellC a v b ψ c
def Kp.V7(h:Kp L w w')(a:Addr)(v:ay)(b:a.block∉L)(c:w.cell? a=some v):w'.frozen? a=w.frozen? a:=h.Q6 a v b ψ c
def Kp.refl(w:aj):Kp L w w C:=⟨az _,λ_ _ _ _ h=>h,λ_ _ _ _ _=>rfl,λ_ _ _ _ _ _ h=>h⟩
def Kp.pX(k:Kp L w w' C)(h:Kp L' w' Y C')(l:∀x∈L',x∈L\/w.heap.size<=x)(m:∀x∈C',x∈C\/x.block∈L\/w.heap.size<=x.block):Kp L w Y C:=by
 have j:∀(a:Addr)(v:ay),a.block∉L->a∉C->w.cell? a=some v->a.block∉L'/\a∉C':=λa v j d i=>⟨λz=>(l _ z).elim j λy=>absurd (au i) (wT.2 y),λz=>(m _ z).elim d λy=>y.elim j λy=>absurd (au i) (wT.2 y)⟩
 exact⟨aT k.size h.size,λa v d g i=>h.cellC a v (j a v d g i).1 (j a v d g i).2 (k.cellC a v d g i),λa v d g i=>(h.Q6 a v (j a v d g i).1 (j a v d g i).2 (k.cellC a v d g i)).trans (k.Q6 a v d g i),λb c t f g a d=>h.blk b c t f (λz=>(l _ z).elim g λy=>absurd (cU.1 d).1 (wT.2 y)) (λx h e=>(m x h).elim (λy=>a x y e) λy=>y.elim (λy=>g (e▸y)) λy=>absurd (cU.1 d).1 (wT.2 (e▸y))) (k.blk b c t f g a d)⟩
def Kp.RY(k:Kp L w w' C)(h:Kp L' w' Y)(a:∀x∈L',x∈L\/w.heap.size<=x):Kp L w Y C:=k.pX h a ψ
def Kp.old(h:Kp L w w' C)(a:∀x∈L,x∈L'\/w.heap.size<=x)(b:∀x∈C,x∈C'\/x.block∈L'\/w.heap.size<=x.block):Kp L' w w' C':=(Kp.refl w).pX h a b
def kS(b:a.block<w.heap.size):(w.alloc o).frozen? a=w.frozen? a:=World.frozen?_alloc_old w o a (iS b)
def Kp.alloc(e:w.alloc o=Y):Kp L w Y:=by
 subst e;exact⟨ψ,λa v _ _ b=>(Hx _ _ _ (au b)).trans b,λa v _ _ b=>kS (au b),λk c t f _ _ h=>(Below.heap_alloc _ _ _ (cU.1 h).1).trans h⟩
def Kp.H8(e:w.setCell p v=Y):Kp [] w Y [p]:=by
 subst e;exact⟨ψ,λa x _ b d=>(qa _ _ _ _ (λz=>b (by simp[z]))).trans d,λa x _ _ _=>YB _ _ _ _,λk c t f _ b h=>by simp only[World.setCell,sU,b p ψ,if_false];exact h⟩
def Kp.yT(k:Kp L w w' C)(e:w'.alloc o=Y):Kp L w Y C:=k.pX (Kp.alloc (L:=[]) e) ψ ψ
def Kp.EH(k:Kp L w w' C)(e:w'.setCell p v=Y)(a:p.block∈L\/p∈C\/w.heap.size<=p.block):Kp L w Y C:=
 k.pX (Kp.H8 e) ψ χ
def bN(h:w.cell? a=some v)(e:w.alloc o=Y):Y.cell? a=some v:=by subst e;exact(Hx _ _ _ (au h)).trans h
def dP(z:w.frozen? a=false)(h:w.cell? a=some v)(e:w.alloc o=Y):Y.frozen? a=false:=by subst e;exact(kS (au h)).trans z
def rC(e:w.alloc o=Y)(a:w.heap.size=n):Y.heap.size=n+1:=by subst e;simp_all
def aY{c:gd}{t:TypeId}(e:w.alloc (.cells c t)=Y)(a:w.heap.size=n)(b:c[i]? =some v):Y.cell? ⟨n,i,none⟩=some v:=by subst e;subst a;simp_all
def cy{c:gd}{t:TypeId}(e:w.alloc (.cells c t)=Y)(a:w.heap.size=n)(i:Nat):Y.frozen? ⟨n,i,none⟩=false:=by subst e;subst a;simp
def ny(e:w.alloc o=Y)(a:w.heap.size=n):Y.heap[n]? =some o:=by subst e;subst a;show(w.heap.push o)[w.heap.size]? =_;simp
def dQ(h:w.cell? a=some v)(e:w.setCell p v'=Y)(b:p≠a):Y.cell? a=some v:=by subst e;exact(qa _ _ _ _ b).trans h
def kP(h:w.cell? a=some v)(e:w.setCell a v'=Y):Y.cell? a=some v':=by subst e;exact D6 _ _ _ h
def eF(z:w.frozen? a=false)(e:w.setCell p v'=Y):Y.frozen? a=false:=by subst e;simp_all
def Kg(e:w.setCell p v'=Y):Y.heap.size=w.heap.size:=by subst e;simp
def lu(e:w.setCell p v'=Y):w.heap.size<=Y.heap.size/\Y.heap.size<=w.heap.size:=by have:=Kg e;omega
def gH(e:w.alloc o=Y)(a:w.heap.size=n):n<Y.heap.size/\Y.heap.size<=n+1:=by have:=rC e a;omega
end
def DX.Pg{Ok:dh}{es:dS}(d:Nat):∀(l:oJ)(w:aj),(∀x∈l,Ok x.1 true)->(∀e∈es,G4 Ok ((l.foldl (λw x=>w.setCell x.1 x.2) w).at d) e)->DX Ok (w.at d) ((l.foldl (λw x=>w.setCell x.1 x.2) w).at d) es
 |[],w,_,h=>DX.still d h
 |x::l,w,ok,h=>by
  have e:=DX.Pg d l (w.setCell x.1 x.2) (λy b=>ok y (aP _ b)) h;have b:DX Ok (w.at d) ((w.setCell x.1 x.2).at d) #[]:=DX.set d (ok x (bI ..)) ψ;exact⟨e.ev,aT b.size e.size,λc o f d=>e.obj c o (b.obj c o f d) d,λa f c=>by
   have g:=b.cell a f c;have g:=e.cell a f (ga c b.size);simp_all,λk a d=>(e.blk k (ga a b.size) d).trans (b.blk k a d),e.rest.1.trans b.rest.1,e.rest.2.1.trans b.rest.2.1,e.rest.2.2.trans b.rest.2.2⟩
section
variable{es:dS}{w:aj}
def DX.Ud(d:Nat)(b:Ok a1 true)(a:Ok a2 true)(h:∀e∈es,G4 Ok (((w.setCell a1 v1).setCell a2 v2).at d) e):DX Ok (w.at d) (((w.setCell a1 v1).setCell a2 v2).at d) es:=
 DX.Pg d [(a1,v1),(a2,v2)] w (by simp[b,a]) h
end
section
variable(P:aG)(w:aj)(es:dS)(a:Addr)(m:Mode)
def fD(b:eP)(n c:Nat):(store a (.slice b n c) m).events P w es=storedEv P w es a (.slice b n c) m:=events_store P w es a _ m rfl
def ig(b:eP):(store a (.pointer b) m).events P w es=storedEv P w es a (.pointer b) m:=events_store P w es a _ m rfl
def fE(t:TypeId)(v:ay):(store a (.iface t v) m).events P w es=storedEv P w es a (.iface t v) m:=events_store P w es a _ m rfl
def jc:(store a .nilIface m).events P w es=storedEv P w es a .nilIface m:=events_store P w es a _ m rfl
def gP(b:Bool):(store a (.bool b) m).events P w es=storedEv P w es a (.bool b) m:=events_store P w es a _ m rfl
end
def cw(v:ay):List Nat:=match v.ownBlock with|some g=>[g]|none=>[]
def bS{g:Nat}:g∈cw v↔v.ownBlock=some g:=by
 unfold cw;grind
def Kp.grown{w:aj}(h:w.grownBy w' v.ownBlock):Kp (cw v) w w':=by
 have e:∀(a:Addr)(x:ay),a.block∉cw v->w.cell? a=some x->w'.heap[a.block]? =w.heap[a.block]? :=λa x b d=>h.block _ (au d) λz=>b (bS.2 z.symm);exact⟨h.size,λa x b _ d=>(World.cell?_of_block (e a x b d)).trans d,λa x b _ d=>World.frozen?_of_block (e a x b d),λk c t f b _ a=>(h.block k (cU.1 a).1 λz=>b (bS.2 z.symm)).trans a⟩
def aB.append{P:aG}{V:gi}{a:Act}{w:aj}(F:aB P main (DX Ok) V){o:Oper}(ho:O[i]? =some o)(hw:Region.wanted o (yielded O a.tmps)=true)(hk:b.kind≠.early)(s x:Operand)(t e:TypeId)(Q:o.op=.call {callee:=.builtin .append,args:=#[s,x],argTypes:=#[t,t]})(inf:TypeInfo)(z:ay)(base size bytes:Nat)(ht:P.underlying t=some (.slice e))(hi:P.info? e=some inf)(hz:inf.zero=some z)(A:inf.size=size)(S:inf.bytes=bytes)(U:z.cells.size=size)(W:0<size){L f:iO}(hs:a.eval s=v)(hx:a.eval x=.slice (some ⟨nb,0,none⟩) 1 1)(C:w.ownsRow base e size v n L)(E:f.length=size)(E:∀j u,f[j]? =some u->w.cell? ⟨nb,j,none⟩=some u)(h1:∀u∈f,u.oneCell'=true)(T:n+1<=maxLen)(r:(n+1)*bytes<=140737488355328)(J:base<=w.heap.size)(Y:nb<w.heap.size)(l:∀(y:Addr)(wr:Bool),some y.block=v.ownBlock->Ok y wr)(M:∀y:Addr,y.block=nb->Ok y false)(h:∀v' w',w'.ownsRow base e size v' (n+1) (L++f)->w.grownBy w' v.ownBlock->(v'.ownBlock=v.ownBlock\/v'.ownBlock=some w.heap.size)->V (G (b.at (a.put o.dst v') (.inRegion O rest::k)) cs) w'):
 V (G (b.at a (.inRegion O (i::rest)::k)) cs) w:=by
 refine F.OA ho hw hk λd K hK=>?_;have B:(w.at d).ownsRow base e size v n L:=C;have p:∀j u,f[j]? =some u->(w.at d).cell? ((⟨nb,0,none⟩:Addr).add j)=some u:=λj u a=>by rw[ey,bK];exact E j u a
 let⟨v',w',hr,X,q,_,hb⟩:=run_append_own_at (P:=P) (w:=w.at d) base t o.type e inf z size bytes ht hi hz A S U W v n L B ⟨nb,0,none⟩ 1 1 f ω p h1 T r J;have N:∀g,v.ownBlock=some g->g<w.heap.size:=λg R=>by
  rcases C.2 with ⟨rfl,_⟩|⟨g',Z,cur,rfl,_,hh,_⟩
  .cases R
  .simp[Value.ownBlock]at R;grind
 refine uponK_append s x t Q hs hx hr (hK _ w' ⟨⟨λev g=>?_,q.size,λc ob D a=>?_,λy NC I=>?_,λi b a=>q.block i b (λz=>a ⟨i,0,none⟩ rfl (l _ _ z)),q.os,q.tape,q.output⟩,h v' w' X ⟨q.os,q.tape,q.output,q.size,q.block⟩ hb⟩)
 .have hm:=mem_listed g;rw[events_append_op s x t Q hs hx]at hm;rcases events_append_where (P:=P) (w.at d) base t o.type e inf z size bytes ht hi hz A S v n L B ⟨nb,0,none⟩ 1 1 f ω p h1 T r ev hm with ⟨y,b,⟨a,d⟩|a⟩|⟨m,b,a⟩
  .exact .inl ⟨y,b,rfl,by rw[a];exact M y d,by rw[d];exact ga Y q.size⟩
  .exact .inl ⟨y,b,rfl,l y _ a,ga (N _ a.symm) q.size⟩
  .exact .inr (by rw[b,show m=.noRoom from a];rfl)
 .have I:c<w.heap.size:=(cU.1 D).1;have H:some c≠v.ownBlock:=λz=>by
   rcases C.2 with ⟨rfl,_⟩|⟨g',Z,cur,rfl,_,hh,_⟩
   .cases z
   .simp[Value.ownBlock]at z;subst z;have:w.heap[c]? =some ob:=D;grind
  exact(q.block c I H).trans D
 .have H:some y.block≠v.ownBlock:=λz=>NC (l y true z);have:=q.block _ I H;exact⟨World.cell?_of_block this,World.frozen?_of_block this⟩
def dB(b:Bool)(x y:ay):Value:=match b with|true=>x|false=>y
def tick(b:qS)(i:Nat):Nat->Bool:=λj=>if j=i then true else b j
def all_cons{p:p8}{k:Nat}(h:p k)(a:∀i,k+1<=i->i<n->p i):∀i,k<=i->i<n->p i:=λi c b=>by
 rcases zR k i with z|z
 .exact a i z b
 .have:i=k:=Nat.le_antisymm z c;subst this;exact h
def all_nil{p:p8}:∀i,n<=i->i<n->p i:=λi b a=>absurd a (wT.2 b)
def Ab(O:g8)(Dp:List (List Nat)):Bool:=
 (List.range O.size).all λi=>match O[i]? with
   |some o=>o.after.toList.all (λe=>!Region.binds .any e||decide (e.on<i))&&(Dp.getD i []).all (λj=>o.after.toList.any λe=>decide (e.on=j)&&Region.binds .any e)
   |none=>false
def aB.K7{P:aG}{V:gi}{id:Nat}{a:Act}{w:aj}(F:aB P main D V)(C:P.follows .mixedOrders=true)(g:List (List Nat))(B:O.size=n)(H:Ab O g=true)(I:(Nat->Bool)->Act->World->Prop)(J:I (λ_=>false) a w)(c:∀i,0<=i->i<n->∀(b:qS)(a:Act)(w:aj),I b a w->(∀x,x<n->b x=true->∀j∈g.getD x [],b j=true)->b i=false->(∀j∈g.getD i [],b j=true)->∀rest,((∀x,x<n->x≠i->b x=true)->rest=[])->
 (∀u w',I (tick b i) u w'->V (G (fr.at u (.inRegion O rest::k)) cs) w')->V (G (fr.at a (.inRegion O (i::rest)::k)) cs) w)(r:∀b a w,I b a w->(∀i,i<n->b i=true)->V (G (fr.at a (.inRegion O []::k)) cs) w):
 V (G (fr.at a (.code (.region id O true)::k)) cs) w:=by
 subst B;have k:∀i o,O[i]? =some o->(∀e∈o.after,Region.binds .any e=true->e.on<i)/\∀j∈g.getD i [],∃e∈o.after,e.on=j/\Region.binds .any e=true:=by
  intro i o b;have t:i<O.size:=(cU.1 b).1;have:=eZ.1 H i (aZ.2 t);grind
 let m:Array Bool->Nat->Bool:=λl j=>l.getD j false;refine F.draw C (λl a w=>l.size=O.size/\I (m l) a w/\∀x,x<O.size->m l x=true->∀j∈g.getD x [],m l j=true) (λi o b=>(k i o b).1) (λl a w h=>h.1) ⟨ψ,?_,λx A h=>?_⟩ (λl a w i o f b e e rest v E=>?_) (λl a w f e=>?_)
 .have:m (Array.replicate O.size false)=λ_=>false:=by
   funext j;simp only[m,Array.getD];simp
  rw[this];exact J
 .have:m (Array.replicate O.size false) x=false:=by
   simp only[m,Array.getD];simp
  grind
 .have t:i<O.size:=(cU.1 b).1;have z:i<l.size:=ω
  have q:m (l.setIfInBounds i true)=tick (m l) i:=by
   funext j;simp only[m,tick,Array.getD,zb];by_cases d:j=i
   .subst d;simp[z]
   .by_cases b:j<l.size
    .simp[b,d,Array.getElem_setIfInBounds];omega
    grind
  have b:m l i=false:=by
   grind
  have s:∀j∈g.getD i [],m l j=true:=λj d=>by
   grind
  refine c i (gl _) t (m l) a w f.2.1 f.2.2 b s rest (λh=>v λj d y=>by
   grind) λu w' b=>E u w' ⟨by simp[f.1],by rw[q];exact b,?_⟩
  rw[q];intro x A h j d;by_cases p:x=i
  .subst p;by_cases y:j=x
   .grind
   .have:=s j d;simp[tick,this]
  .have b:m l x=true:=by simpa [tick,p]using h
   have:=f.2.2 x A b j d;simp[tick,this]
 .refine r (m l) a w f.2.1 λi t=>?_;grind
def tG(a:Act)(l:List (Nat×Value)):Act:=⟨l.foldl (λt x=>t.setIfInBounds x.1 x.2) a.tmps,a.defers⟩
def pu:(∀(a:Act)(l:List (Nat×Value)),tG a l=⟨l.foldl (λt x=>t.setIfInBounds x.1 x.2) a.tmps,a.defers⟩)/\
 (∀(f:Array Value->Nat×Value->Array Value)(t:gd),[].foldl f t=t)/\(∀(f:Array Value->Nat×Value->Array Value)(t:gd)(x:Nat×Value)(l:List (Nat×Value)),(x::l).foldl f t=l.foldl f (f t x))/\
 (∀(b:qS)(i j:Nat),tick b i j=if j=i then true else b j)/\(∀n:Nat,0+n=n)/\(∀x y:Value,dB true x y=x)/\(∀x y:Value,dB false x y=y)/\
 (∀(l:iO)(i:Nat)(v:ay),l.toArray.setIfInBounds i v=(l.set i v).toArray)/\(∀(x:ay)(l:iO)(i:Nat)(v:ay),(x::l).set (i+1) v=x::l.set i v)/\(∀(x:ay)(l:iO)(v:ay),(x::l).set 0 v=v::l)/\
 ((0=1)=False)/\((1=0)=False):=
 ⟨λ_ _=>rfl,λ_ _=>rfl,λ_ _ _ _=>rfl,λ_ _ _=>rfl,bK,λ_ _=>rfl,λ_ _=>rfl,λ_ _ _=>ψ,λ_ _ _ _=>rfl,λ_ _ _=>rfl,ψ,ψ⟩
def aB.RB{P:aG}{V:gi}{id:Nat}{a:Act}{w:aj}(F:aB P main D V)(s:P.follows .mixedOrders=true)(l:List (List Nat))(r:O.size=n)(y:Ab O l=true)(c:(Nat->Bool)->γ->List (Nat×Value))(J:(Nat->Bool)->γ->World->Prop)(q:γ)(B:tG a (c (λ_=>false) q)=a)(h:J (λ_=>false) q w)(d:∀i,0<=i->i<n->∀(b:qS)(g:γ)(w:aj),J b g w->(∀x,x<n->b x=true->∀j∈l.getD x [],b j=true)->b i=false->(∀j∈l.getD i [],b j=true)->∀rest,((∀x,x<n->x≠i->b x=true)->rest=[])->
 (∀g' w',J (tick b i) g' w'->V (G (fr.at (tG a (c (tick b i) g')) (.inRegion O rest::k)) cs) w')->V (G (fr.at (tG a (c b g)) (.inRegion O (i::rest)::k)) cs) w)(e:∀b g w,J b g w->(∀i,i<n->b i=true)->V (G (fr.at (tG a (c b g)) (.inRegion O []::k)) cs) w):
 V (G (fr.at a (.code (.region id O true)::k)) cs) w:=by
 refine F.K7 s l r y (λb j w=>∃g,j=tG a (c b g)/\J b g w) ⟨q,B.symm,h⟩ (λi A z b j w p o v u rest m t=>?_) (λb j w p f=>?_)
 .obtain⟨g,rfl,h⟩:=p;exact d i A z b g w h o v u rest m λg' w' a=>t _ _ ⟨g',rfl,a⟩
 .obtain⟨g,rfl,h⟩:=p;exact e b g w h f
def aB.yw{P:aG}{V:gi}{id:Nat}{a:Act}{w:aj}(F:aB P main D V)(m:P.follows .mixedOrders=true)(f:List (List Nat))(l:O.size=n)(p:Ab O f=true)(c:(Nat->Bool)->γ->List (Nat×Value))(J:(Nat->Bool)->γ->World->Prop)(h:γ)(q:tG a (c (λ_=>false) h)=a)(o:J (λ_=>false) h w)(d:∀i,0<=i->i<n->∀(b:qS)(g:γ)(w:aj),J b g w->(∀x j,(decide (x<n)&&(f.getD x []).contains j)=true->b x=true->b j=true)->b i=false->(∀j,(f.getD i []).contains j=true->b j=true)->∀rest,((∀x,x<n->x≠i->b x=true)->rest=[])->
 (∀g' w',J (tick b i) g' w'->V (G (fr.at (tG a (c (tick b i) g')) (.inRegion O rest::k)) cs) w')->V (G (fr.at (tG a (c b g)) (.inRegion O (i::rest)::k)) cs) w)(e:∀b g w,J b g w->(∀i,i<n->b i=true)->V (G (fr.at (tG a (c b g)) (.inRegion O []::k)) cs) w):
 V (G (fr.at a (.code (.region id O true)::k)) cs) w:=
 F.RB m f l p c J h q o (λi k h b g w f a c a=>d i k h b g w f (λx j b b=>by
  grind) c (λj b=>a j χ)) e
def dZ:prog.underlying 115=some (.slice 143):=ρ
def lO:∃inf z,prog.info? 143=some inf/\inf.zero=some z/\inf.size=2/\inf.bytes=16/\z.cells.size=2:=⟨_,_,rfl,rfl,rfl,rfl,rfl⟩
def mV(f:FuncId)(Z:gd):Deferred:={target:=.fn (.func f) Z,args:=#[]}
def DC(d:Deferred)(f:FuncId)(v:gd):Prop:=∃c,d.target=.fn (.func f) c/\d.args++c=v
def Hr{f:FuncId}:DC (mV f Z) f Z:=⟨Z,rfl,by simp[mV]⟩
section
variable{P:aG}{V:gi}{a:Act}{w:aj}{o:Oper}{ds:wN}
def vo(e:O[i]? =some o)(g:Region.wanted o (yielded O a.tmps)=true)(c:b.kind≠.early)(c:b.roundOf=none){r:Operand}(c:o.op=.defer {callee:=.value r,args:=#[],argTypes:=ats})(d:a.eval r=.func (.func f) #[] Z):
 stepG P main (G (b.at a (.inRegion O (i::rest)::k)) cs) w=.go (G (b.at (Act.put ⟨a.tmps,mV f Z::a.defers⟩ o.dst undef) (.inRegion O rest::k)) cs) w #[]:=by
 have j:(execOp a.eval o).run P w=.ok (.defer (mV f Z)) w:=by
  unfold execOp;simp[c,resolve,Deferred.ofValue,d,mV]
 have h:(execOp a.eval o).events P w #[]=#[]:=by
  unfold execOp;simp[c,resolve,Deferred.ofValue,d]
 have c:(b.at ⟨a.tmps,mV f Z::a.defers⟩ (.inRegion O (i::rest)::k)).finish undef=b.at (Act.put ⟨a.tmps,mV f Z::a.defers⟩ o.dst undef) (.inRegion O rest::k):=by rw[bQ,e];rfl
 have a:(b.kind==CallKind.early)=false:=ξ
 rw[stepG_oper e g,<-c];simp[stepG.apply,j,h,G,Frame.at,a,GStep.after,seen_none]
def aB.GD(F:aB P main D V)(j:O[i]? =some o)(e:Region.wanted o (yielded O a.tmps)=true)(l:b.kind≠.early)(c:b.roundOf=none){r:Operand}(d:o.op=.defer {callee:=.value r,args:=#[],argTypes:=ats})(g:a.eval r=.func (.func f) #[] Z)(h:V (G (b.at (Act.put ⟨a.tmps,mV f Z::a.defers⟩ o.dst undef) (.inRegion O rest::k)) cs) w):V (G (b.at a (.inRegion O (i::rest)::k)) cs) w:=
 F.ctl (λ_=>vo j e l c d g) h
def mM{c:Code}(l:a.defers=d::ds)(g:DC d f Z)(h:P.funcs[f]? =some fn)(e:(fn.name== "runtime.NumGoroutine")=false)(i:fn.body=some c):
 stepG P main (G {b.at a S with mode:=.returning} cs) w=
  .go (G ((baseD f).at {tmps:=Z++Array.replicate (fn.ntmps-Z.size) undef,defers:=[]} [.code c]) ({b.at ⟨a.tmps,ds⟩ S with mode:=.returning}::cs)) w #[]:=by
 have m:¬fn.name= "runtime.NumGoroutine" :=ξ
 let⟨a,k,j⟩:=g;let⟨_,a⟩:=d;simp only at k j;subst k;rw[<-enter_atD Z h i];simp[G,stepG,unwind,callDeferred,Frame.at,l,j,invoke,callFunc,h,m,i,GStep.after,seen_none]
def tj{c:Code}(g:a.defers=mV f Z::ds)(e:P.funcs[f]? =some fn)(d:(fn.name== "runtime.NumGoroutine")=false)(h:fn.body=some c):
 stepG P main (G {b.at a S with mode:=.returning} cs) w=
  .go (G ((baseD f).at {tmps:=Z++Array.replicate (fn.ntmps-Z.size) undef,defers:=[]} [.code c]) ({b.at ⟨a.tmps,ds⟩ S with mode:=.returning}::cs)) w #[]:=mM g Hr e d h
def aB.HK(F:aB P main D V){c:Code}(i:a.defers=d::ds)(e:DC d f Z)(g:P.funcs[f]? =some fn)(d:(fn.name== "runtime.NumGoroutine")=false)(j:fn.body=some c)(h:V (G ((baseD f).at {tmps:=Z++Array.replicate (fn.ntmps-Z.size) undef,defers:=[]} [.code c]) ({b.at ⟨a.tmps,ds⟩ S with mode:=.returning}::cs)) w):V (G {b.at a S with mode:=.returning} cs) w:=
 F.ctl (λ_=>mM i e g d j) h
def Qh(e:O[i]? =some o)(f:Region.wanted o (yielded O a.tmps)=true)(g:b.kind=.deferred)(d:b.roundOf=none)(d:o.op=.call {callee:=.builtin .recover,args:=#[],argTypes:=ats}){c:aC}(j:c.mode=.returning):
 stepG P main (G (b.at a (.inRegion O (i::rest)::k)) (c::cs)) w=.go (G (b.at (a.put o.dst .nilIface) (.inRegion O rest::k)) (c::cs)) w #[]:=by
 have l:(execOp a.eval o).run P w=.ok .recover w:=by
  unfold execOp;simp[d,resolve,invoke,builtin]
 have h:(execOp a.eval o).events P w #[]=#[]:=by
  unfold execOp;simp[d,resolve,invoke,builtin]
 have c:(b.at a (.inRegion O (i::rest)::k)).finish .nilIface=b.at (a.put o.dst .nilIface) (.inRegion O rest::k):=by rw[bQ,e];rfl
 rw[stepG_oper e f,<-c];simp[stepG.apply,l,h,G,Frame.at,g,GStep.after,seen_none,tryRecover,j]
def aB.zC(F:aB P main D V)(g:O[i]? =some o)(f:Region.wanted o (yielded O a.tmps)=true)(j:b.kind=.deferred)(d:b.roundOf=none)(e:o.op=.call {callee:=.builtin .recover,args:=#[],argTypes:=ats}){c:aC}(l:c.mode=.returning)(h:V (G (b.at (a.put o.dst .nilIface) (.inRegion O rest::k)) (c::cs)) w):V (G (b.at a (.inRegion O (i::rest)::k)) (c::cs)) w:=
 F.ctl (λ_=>Qh g f j d e l) h
def aB.leaveD(F:aB P main D V){c:aC}(e:b.kind=.deferred)(g:a.defers=[])(f:P.funcs[b.fn]? =some fn)(d:ResultsC P fn a.tmps v)(i:c.mode=.returning)(h:V (G c cs) w):V (G {b.at a S with mode:=.returning} (c::cs)) w:=
 F.ctl (λw=>stepG_leave_deferred e g f (d w).1 (d w).2 i) h
end
abbrev je(v:ay):List PanicEntry:=[{v,recovered:=false}]
abbrev pG(v:ay):List PanicEntry:=[{v,recovered:=true}]
section
variable{P:aG}{V:gi}{a:Act}{w:aj}{o:Oper}{ds:wN}
def xu(f:O[i]? =some o)(e:Region.wanted o (yielded O a.tmps)=true)(c:b.mode=.run){r:Operand}(c:o.op=.panic r){t:TypeId}{x:ay}(d:a.eval r=.iface t x):
 stepG P main (G (b.at a (.inRegion O (i::rest)::k)) cs) w=.go (G {b.at a (.inRegion O (i::rest)::k)with mode:=.panicking (je (.iface t x))} cs) w #[]:=by
 have g:(execOp a.eval o).run P w=.halt (.panic (.iface t x)) w:=by
  unfold execOp;simp[c,d,Instr.panic,goPanic]
 have b:(execOp a.eval o).events P w #[]=#[]:=by
  unfold execOp;simp[c,d,Instr.panic,goPanic]
 rw[stepG_oper f e];simp[stepG.apply,g,b,G,Frame.at,Frame.raise,GStep.after,seen_none]
def aB.panic(F:aB P main D V)(f:O[i]? =some o)(d:Region.wanted o (yielded O a.tmps)=true)(g:b.mode=.run){r:Operand}(c:o.op=.panic r){t:TypeId}{x:ay}(e:a.eval r=.iface t x)(h:V (G {b.at a (.inRegion O (i::rest)::k)with mode:=.panicking (je (.iface t x))} cs) w):V (G (b.at a (.inRegion O (i::rest)::k)) cs) w:=
 F.ctl (λ_=>xu f d g c e) h
def rD{c:aC}{ch:List PanicEntry}(e:a.defers=[])(d:P.funcs[b.fn]? =some fn):stepG P main (G {b.at a S with mode:=.panicking ch} (c::cs)) w=.go (G (c.raise ch) cs) w #[]:=by
 simp[G,stepG,unwind,Frame.at,e,Frame.catches,d]
def aB.lJ(F:aB P main D V){c:aC}{ch:List PanicEntry}(e:a.defers=[])(d:P.funcs[b.fn]? =some fn)(h:V (G (c.raise ch) cs) w):V (G {b.at a S with mode:=.panicking ch} (c::cs)) w:=
 F.ctl (λ_=>rD e d) h
def td{c:Code}{ch:List PanicEntry}(l:a.defers=d::ds)(g:DC d f Z)(h:P.funcs[f]? =some fn)(e:(fn.name== "runtime.NumGoroutine")=false)(i:fn.body=some c):
 stepG P main (G {b.at a S with mode:=.panicking ch} cs) w=
  .go (G ((baseD f).at {tmps:=Z++Array.replicate (fn.ntmps-Z.size) undef,defers:=[]} [.code c]) ({b.at ⟨a.tmps,ds⟩ S with mode:=.panicking ch}::cs)) w #[]:=by
 have m:¬fn.name= "runtime.NumGoroutine" :=ξ
 let⟨a,k,j⟩:=g;let⟨_,a⟩:=d;simp only at k j;subst k;rw[<-enter_atD Z h i];simp[G,stepG,unwind,callDeferred,Frame.at,l,j,invoke,callFunc,h,m,i,GStep.after,seen_none]
def aB.Zy(F:aB P main D V){c:Code}{ch:List PanicEntry}(i:a.defers=d::ds)(e:DC d f Z)(g:P.funcs[f]? =some fn)(d:(fn.name== "runtime.NumGoroutine")=false)(j:fn.body=some c)(h:V (G ((baseD f).at {tmps:=Z++Array.replicate (fn.ntmps-Z.size) undef,defers:=[]} [.code c]) ({b.at ⟨a.tmps,ds⟩ S with mode:=.panicking ch}::cs)) w):V (G {b.at a S with mode:=.panicking ch} cs) w:=
 F.ctl (λ_=>td i e g d j) h
def tu(e:O[i]? =some o)(f:Region.wanted o (yielded O a.tmps)=true)(g:b.kind=.deferred)(d:b.roundOf=none)(d:o.op=.call {callee:=.builtin .recover,args:=#[],argTypes:=ats}){c:aC}(j:c.mode=.panicking (je v)):
 stepG P main (G (b.at a (.inRegion O (i::rest)::k)) (c::cs)) w=.go (G (b.at (a.put o.dst v) (.inRegion O rest::k)) ({c with mode:=.panicking (pG v)}::cs)) w #[]:=by
 have l:(execOp a.eval o).run P w=.ok .recover w:=by
  unfold execOp;simp[d,resolve,invoke,builtin]
 have h:(execOp a.eval o).events P w #[]=#[]:=by
  unfold execOp;simp[d,resolve,invoke,builtin]
 have c:(b.at a (.inRegion O (i::rest)::k)).finish v=b.at (a.put o.dst v) (.inRegion O rest::k):=by rw[bQ,e];rfl
 rw[stepG_oper e f,<-c];simp[stepG.apply,l,h,G,Frame.at,g,GStep.after,seen_none,tryRecover,j]
def aB.recover(F:aB P main D V)(g:O[i]? =some o)(f:Region.wanted o (yielded O a.tmps)=true)(j:b.kind=.deferred)(d:b.roundOf=none)(e:o.op=.call {callee:=.builtin .recover,args:=#[],argTypes:=ats}){c:aC}(l:c.mode=.panicking (je v))(h:V (G (b.at (a.put o.dst v) (.inRegion O rest::k)) ({c with mode:=.panicking (pG v)}::cs)) w):V (G (b.at a (.inRegion O (i::rest)::k)) (c::cs)) w:=
 F.ctl (λ_=>tu g f j d e l) h
def vn{c:aC}{r:ay}(e:b.kind=.deferred)(h:a.defers=[])(f:P.funcs[b.fn]? =some fn)(d:∀w,(results fn a.tmps).run P w=.ok r w)(g:∀w,(results fn a.tmps).events P w #[]=#[])(i:c.mode=.panicking (pG v)):
 stepG P main (G {b.at a S with mode:=.returning} (c::cs)) w=.go (G {c with mode:=.returning} cs) w #[]:=by
 simp[G,stepG,unwind,doReturn,Frame.at,h,f,d w,g w,e,i,GStep.after,seen_none]
def aB.MQ(F:aB P main D V){c:aC}{r:ay}(e:b.kind=.deferred)(g:a.defers=[])(f:P.funcs[b.fn]? =some fn)(d:ResultsC P fn a.tmps r)(i:c.mode=.panicking (pG v))(h:V (G {c with mode:=.returning} cs) w):V (G {b.at a S with mode:=.returning} (c::cs)) w:=
 F.ctl (λ_=>vn e g f (λw=>(d w).1) (λw=>(d w).2) i) h
end
def Goal(P:aG)(Post:qz)(m:Machine)(T:Trace):Prop:=
 ∃N last o w' t',runNT P (N+1) m T=(.ended o w',t')/\runN P N m=.next last/\step P last=.ended o w'/\Conc.Good P Post last o w' t'
def Goal.back{P:aG}{N:Nat}{m a:Machine}{T b:Trace}(h:runNT P N m T=(.next a,b))(g:Goal P Post a b):Goal P Post m T:=by
 let⟨M,last,o,w',b,i,f,e,d⟩:=g;have c:runN P N m=.next a:=by rw[<-runNT_fst P N m T,h]
 exact⟨N+M,last,o,w',b,by rw[Nat.add_assoc,runNT_add,h];exact i,by rw[runN_add,c];exact f,e,d⟩
section
variable{P:aG}{K:cK}{w:aj}{a g:aV}
def At(P:aG)(Post:qz)(K:cK)(Shun Still:dm)(Mem:p8)(U:Nat->Option Seat)(h n:Nat)(g:aV)(w:aj):Prop:=
 ∀(d:Nat)(I:jH)(T:Trace)(q:bU)(sl:qT),I.size=n->I[h]? =some g->R2 P K Shun Still w.heap.size Mem U h T I (w.at d) q->Goal P Post (crowd I (w.at d) sl) T
def GW(c:∀w d,K w->K (w.at d))(p:∀w w' es,D w w' es->DR K Shun Still h w w' es)(i:∀w d,D w (w.at d) #[])(f:∀w w' es a,D w w' es->(∀e∈a,e∈es)->D w w' a)(b:Mem h):aB P (h==0) D (At P Post K Shun Still Mem U h n):=by
 have a:∀g w d,At P Post K Shun Still Mem U h n g w->At P Post K Shun Still Mem U h n g (w.at d):=λg w d x j=>x j;refine⟨a,i,f,λg w l e=>?_⟩;intro d I T q k m o C;have W:Walk P (h==0) D (At P Post K Shun Still Mem U h n) g w:=(xh i f _).step g w l λd=>(e d).mono λ_ _ x=>.stop λj=>a _ _ _ x;let⟨N,e,_,w',a,s,g,r,n,l,j,h,t⟩:=hold c p (.inl b) ((xh i f _).at' _ _ d W) I T q k o C;exact Goal.back r (j w'.drawn e s g a (n.trans m) l h)
def Zc{b:dm}{s:Seat}(c:∀l,Still l->b l){g:aV}(x:Sits P main K Still B s n g):Sits P main K b B s n g:=by
 have ev:∀e,EvC Still B e->EvC b B e:=λe ⟨a,h,f,d⟩=>⟨a,h,c _ f,d⟩
 have at':∀g a,AtIn P main K Still B s g a->AtIn P main K b B s g a:=λg a ⟨j,i,h,g,d,es,c,b⟩=>⟨j,i,h,g,d,es,λe d=>ev e (c e d),b⟩
 rcases x with ⟨k,w,e,g⟩|⟨e,b,a,f,c⟩
 .exact .inl ⟨k,w,e,lR (λ_ _ _ ⟨d1,d2⟩=>⟨d1,λe d=>ev e (d2 e d)⟩) (λ_ _ ⟨a,y⟩=>⟨a,at' _ _ y⟩) g⟩
 .exact .inr ⟨e,b,a,f,at' _ _ c⟩
def Sf(B:Nat)(l:Loc):Prop:=∃a:Addr,l=.cell a/\B<=a.block
def uu{t:Trace}{x:Touch}(h:∀op∈t,op.act.low B)(f:touchAt t i=some x)(i:Sf B x.loc):False:=by
 let⟨op,c,a⟩:=touch_of f;have d:=h op (DZ c);let⟨_,b,c⟩:=i;let⟨g,fn,c,act⟩:=op;cases act with
 |access e=>
  let⟨loc,wr,c⟩:=e;simp only[MemAct.touch?]at a;simp only[MemAct.low]at d;have c:x.loc=loc:=by
   grind
  rw[c]at b;subst b;simp only[Loc.low]at d;omega
 |mark m=>
  cases m<;>simp only[MemAct.touch?,reduceCtorEq,Option.some.injEq]at a
  all_goals
   subst a;simp only[MemAct.low]at d;simp only[Loc.cell.injEq]at b;subst b;omega
 |_=>simp[MemAct.touch?]at a
end
section
variable{P:aG}{K:cK}{w:aj}{a g:aV}
def R2.grow{c a:dm}(C:R2 P K Shun Still B Mem U h T I w q)(k:∀l,Still l->a l)(u:∀l,a l->Still l\/Sf B l)(t:∀l,Shun l->c l)(r:∀l,c l->Shun l\/Sf B l):R2 P K c a B Mem U h T I w q:=by
 have f:=C.past.seen;refine⟨λi g a j=>?_,C.chans,C.wf,C.live,C.inj,C.above,C.mem,C.nomem,C.lo,⟨C.past.clean,λi x d m=>?_,λi x d o p g j=>?_,C.past.hears,f⟩,C.keep⟩
 .have:=C.idle i g a j;cases e:U i with
  |none=>rw[e]at this;exact this
  |some s=>rw[e]at this;exact Zc k this
 .refine(C.past.known i x d m).imp (fun⟨c,a,e⟩=>⟨c,a.imp id fun⟨b,n,m,l,h⟩=>⟨b,n,m,t _ l,h⟩,λb h b=>?_⟩) fun⟨c,a,e⟩=>⟨c,k _ a,e⟩
  rcases r _ b with z|z
  .simp_all
  .exact(uu f h z).elim
 .rcases u _ p with z|z
  .exact C.past.wrote i x d o z g j
  .exact(uu f d z).elim
def Ci(C:yG P K Shun B Mem T I w q)(l:Deaf T 0=0):Past Shun B T:=by
 have k:∀i x,touchAt T i=some x->x.loc.isMemory=true->Acc Shun 0 T i:=λi x a d=>(C.past.known i x a d).elim id λz=>z.2.1.elim;refine⟨C.past.clean,λi x a d=>?_,λi g m g n=>?_,l,C.past.seen⟩
 .refine(k i x a d).2.1.imp id fun⟨b,f,g,l,_⟩=>?_;simp_all
 .let⟨x,a,d,l⟩:=n;rcases(k i x a d).2.1 with ⟨j,z,h,c,e⟩|⟨b,f,g,_,d⟩
  .rcases e with rfl|e
   .rw[g?_of h,c]at m;simp_all
   .exact⟨j,by rw[g?_of h,c],e⟩
  .have:b=x:=by rw[show touchAt T i=some x from a]at f;simp_all
   simp_all
def vp(C:yG P K Shun B Mem T I w q):Leavers P T I q:=⟨λi g a a=>(show 0<i/\QuitsD P (q i) (Deaf T i) g from C.idle i g (λz=>ω) a).2,C.above⟩
def At.ends{es:dS}(h:a.status=.running)(c:Mem 0)(b:∀d,stepG P true a (w.at d)=.ended (.done v) (w.at d) es)(f:∀e∈es,EvL Shun w.heap.size e)(i:∀d,Post v (w.at d)):At P Post K Shun (λ_=>False) Mem (λ_=>none) 0 n a w:=by
 intro d I T q a a a C;exact beside_ends (D:=λ_ _ es=>es=#[]) (Shun:=Shun) (B:=w.heap.size) (n:=0) (q:=q) (λ_ _ es d=>ξ) a (vp C) (Ci C (C.past.hears 0 c)) (λY ⟨g,e⟩=>by subst e;exact⟨h,v,es,b g,f,i g⟩)
def Zf(k:K w)(h:∀x,Mem x->x=0)(l:At P Post K Shun (λ_=>False) Mem (λ_=>none) 0 1 a w):Goal P Post (solo a w) #[]:=by
 have e:solo a w=crowd #[a] w none:=rfl;rw[e];refine l w.drawn #[a] #[] (λ_=>0) none rfl rfl ⟨λi g f a=>?_,λi s c _ e=>(by cases e),λi s e=>(by cases e),λ_ _ z=>z.elim,λi a s a c e=>(by cases e),λj a=>?_,λi s e=>(by cases e),λi f=>.inr (h i f),λi s _ e=>(by cases e),⟨λsaid ⟨i,j,x⟩=>?_,λi x b=>?_,λi x b=>?_,λg _=>rfl,λop d=>by simp at d⟩,k⟩
 .simp_all
 .rfl
 .let⟨_,⟨x,y,b,_⟩,_⟩:=x;simp[Trace.act?]at b
 .simp[touchAt,Trace.act?]at b
 simp
end
section
variable{P:aG}{K:cK}{w:aj}{a g:aV}
def At.keep(f:∀d,K' (w.at d))(c:At P Post K' Shun (λ_=>False) Mem (λ_=>none) 0 n a w):At P Post K Shun (λ_=>False) Mem (λ_=>none) 0 n a w:=
 λd I T q b a e C=>c d I T q b a e (uP C (f d))
def iR{w:aj}{a:Addr}(h:c≠a.block)(Z:Nat)(buf:gd)(cl:Bool)(x y:Nat)(b:Bool):(w.setChan c Z buf cl x y b).cell? a=w.cell? a/\(w.setChan c Z buf cl x y b).frozen? a=w.frozen? a:=by
 have e:=heap_setChan_ne w Z buf cl x y b h;constructor
 .unfold World.cell?;rw[e]
 .unfold World.frozen?;rw[e]
def Gy(f:∀a,Still (.cell a)->¬Ok a true)(f:∀a wr,Shun (.cell a)->¬Ok a wr)(f:∀w w' es,DX Ok w w' es->K w->K w')(w w':aj)(es:dS)(D:DX Ok w w' es):DR K Shun Still h w w' es:=by
 refine⟨f _ _ _ D,λc Z k f=>by rw[f];exact D.obj c _ f (λ_ _ _ z=>by cases z),D.size,λe c=>?_⟩;rcases D.ev e c with ⟨a,g,_,c,i⟩|rfl
 .let⟨loc,wr,d⟩:=e;simp only at g;subst g;refine⟨⟨λx b=>?_,i⟩,ψ,ψ⟩;have c:(⟨.cell a,wr,if d then .atomic else .plain⟩:Touch)=x:=by
   cases d<;>simpa [MemAct.ofEvent,MemAct.touch?]using b
  grind
 .refine⟨⟨λx b=>?_,?_⟩,by simp[noRoomEvent],by simp[noRoomEvent]⟩
  .simp[noRoomEvent,MemAct.ofEvent,MemAct.touch?]at b
  .simp[noRoomEvent,MemAct.ofEvent,MemAct.low]
end
structure QF(P:aG)(main:Bool)(K:cK)(F:Event->Prop)(V:kr):Prop where
 step:∀g g',g.status=.running->(∀w,K w->∃es,stepG P main g w=.go g' w es/\∀e∈es,F e)->V g'->V g
section
variable{P:aG}{K:cK}{V:kr}{a:Act}{o:Oper}
def QF.ctl(f:QF P main K F V){a:aC}{b:cO}(h:∀w,stepG P main (G fr cs) w=.go (G a b) w #[])(c:V (G a b)):V (G fr cs):=
 f.step _ _ rfl (λw _=>⟨#[],h w,λe d=>by simp at d⟩) c
def QF.op(m:QF P main K F V)(j:O[i]? =some o)(g:Region.wanted o (yielded O a.tmps)=true)(n:b.kind≠.early)(p:∀w,K w->∀e∈(execOp a.eval o).events P w #[],F e)(h:∀w,K w->uponK o a (λf w'=>w'=w/\f=A) ((execOp a.eval o).run P w))(l:V (G (b.at A (.inRegion O rest::k)) cs)):V (G (b.at a (.inRegion O (i::rest)::k)) cs):=by
 refine m.step _ _ rfl (λw d=>⟨listed P b.fn a o w,?_,λe m=>p w d e (Ly m)⟩) l;have:=goes_oper_k (P:=P) (main:=main) (k:=k) (cs:=cs) (rest:=rest) (K:=λg' w' es=>g'=G (b.at A (.inRegion O rest::k)) cs/\w'=w/\es=listed P b.fn a o w) j g n (λK' c=>uponK_mono (λf w' x=>by obtain⟨rfl,rfl⟩:=x;exact c _ _ ⟨rfl,rfl,rfl⟩) (h w d));revert this;cases stepG P main (G (b.at a (.inRegion O (i::rest)::k)) cs) w<;>intro this
 case go g' w' es=>simp_all
 all_goals exact this.elim
def QF.AZ(m:QF P main K F V)(f:O[i]? =some o)(d:Region.wanted o (yielded O a.tmps)=true)(j:b.kind≠.early)(l:∀w,K w->(execOp a.eval o).events P w #[]=#[])(h:∀w,K w->uponK o a (λg w'=>w'=w/\g=A) ((execOp a.eval o).run P w))(g:V (G (b.at A (.inRegion O rest::k)) cs)):V (G (b.at a (.inRegion O (i::rest)::k)) cs):=
 m.op f d j (λw a e c=>by rw[l w a]at c;simp at c) h g
def QF.unwanted(e:QF P main K F V)(d:O[i]? =some o)(c:Region.wanted o (yielded O a.tmps)=false)(h:V (G (b.at (a.put o.dst undef) (.inRegion O rest::k)) cs)):V (G (b.at a (.inRegion O (i::rest)::k)) cs):=
 e.ctl (λ_=>stepG_unwanted d c) h
def QF.oq(j:QF P main K F V)(d:O[i]? =some o)(c:Region.wanted o (yielded O a.tmps)=true)(f:late b=true)(g:∀w,K w->(execOp a.eval o).events P w #[]=#[])(h:∀w,K w->uponK o a (λe w'=>w'=w/\e=A) ((execOp a.eval o).run P w))(e:V (G (b.at A (.inRegion O rest::k)) cs)):V (G (b.at a (.inRegion O (i::rest)::k)) cs):=j.AZ d c (iP f) g h e
def QF.re(c:QF P main K F V)(h:V (G (b.at a (k)) cs)):V (G (b.at a (.inRegion O []::k)) cs):=c.ctl (λ_=>stepG_region_end) h
def QF.sq(c:QF P main K F V){x y:Code}(h:V (G (b.at a (.code x::.code y::k)) cs)):V (G (b.at a (.code (.seq x y)::k)) cs):=c.ctl (λ_=>stepG_seq) h
def QF.rr(c:QF P main K F V){id:Nat}{l:List Oper}(h:V (G (b.at a (.inRegion l.toArray (rg l 0)::k)) cs)):V (G (b.at a (.code (.region id l.toArray false)::k)) cs):=c.ctl (λ_=>stepG_region) (by rw[xG];exact h)
def QF.sr(c:QF P main K F V){id:Nat}{l:List Oper}{y:Code}(h:V (G (b.at a (.inRegion l.toArray (rg l 0)::.code y::k)) cs)):V (G (b.at a (.code (.seq (.region id l.toArray false) y)::k)) cs):=c.sq (c.rr h)
def QF.es(c:QF P main K F V){x y:Code}(h:V (G (b.at a (.code x::.code y::k)) cs)):V (G (b.at a (.inRegion O []::.code (.seq x y)::k)) cs):=c.re (c.sq h)
def QF.er(c:QF P main K F V){id:Nat}{l:List Oper}(h:V (G (b.at a (.inRegion l.toArray (rg l 0)::k)) cs)):V (G (b.at a (.inRegion O []::.code (.region id l.toArray false)::k)) cs):=c.re (c.rr h)
def QF.V8(c:QF P main K F V){id:Nat}{l:List Oper}{y:Code}(h:V (G (b.at a (.inRegion l.toArray (rg l 0)::.code y::k)) cs)):V (G (b.at a (.inRegion O []::.code (.seq (.region id l.toArray false) y)::k)) cs):=c.re (c.sr h)
def QF.aJ(l:QF P main K F V)(e:V (G (b.at A (.inRegion O rest::k)) cs))(d:O[i]? =some o:=by exact rfl)(c:Region.wanted o (yielded O a.tmps)=true:=by exact rfl)(f:late b=true:=by exact rfl)(g:∀w,K w->(execOp a.eval o).events P w #[]=#[]:=by simp[go_sem])(h:∀w,K w->uponK o a (λj w'=>w'=w/\j=A) ((execOp a.eval o).run P w):=by intro w c;go_simp;(try walk_nrm);first|exact⟨rfl,rfl⟩|exact rfl):V (G (b.at a (.inRegion O (i::rest)::k)) cs):=l.oq d c f g h e
def QF.dK(f:QF P main K F V)(h:V (G (b.at A (.inRegion O rest::k)) cs))(d:O[i]? =some o:=by exact rfl)(c:Region.wanted o (yielded O a.tmps)=false:=by exact rfl)(e:a.put o.dst undef=A:=by walk_nrm;exact rfl):V (G (b.at a (.inRegion O (i::rest)::k)) cs):=f.unwanted d c (e▸h)
def QF.zA(d:QF P main K F V){id:Nat}{l:List Oper}(h:V (G (b.at a (.inRegion l.toArray r::k)) cs))(c:rg l 0=r:=by simp only[rg,Nat.reduceAdd];exact rfl):V (G (b.at a (.code (.region id l.toArray false)::k)) cs):=d.rr (c▸h)
def QF.cF(d:QF P main K F V){id:Nat}{l:List Oper}{y:Code}(h:V (G (b.at a (.inRegion l.toArray r::.code y::k)) cs))(c:rg l 0=r:=by simp only[rg,Nat.reduceAdd];exact rfl):V (G (b.at a (.code (.seq (.region id l.toArray false) y)::k)) cs):=d.sr (c▸h)
def QF.CZ(d:QF P main K F V){id:Nat}{l:List Oper}(h:V (G (b.at a (.inRegion l.toArray r::k)) cs))(c:rg l 0=r:=by simp only[rg,Nat.reduceAdd];exact rfl):V (G (b.at a (.inRegion O []::.code (.region id l.toArray false)::k)) cs):=d.er (c▸h)
def QF.dA(d:QF P main K F V){id:Nat}{l:List Oper}{y:Code}(h:V (G (b.at a (.inRegion l.toArray r::.code y::k)) cs))(c:rg l 0=r:=by simp only[rg,Nat.reduceAdd];exact rfl):V (G (b.at a (.inRegion O []::.code (.seq (.region id l.toArray false) y)::k)) cs):=d.V8 (c▸h)
def QF.cf(d:QF P main K F V){c:Operand}{x y:Code}(e:a.eval c=.bool false)(h:V (G (b.at a (.code y::k)) cs)):V (G (b.at a (.code (.cond c x y)::k)) cs):=d.ctl (λ_=>stepG_cond (t:=false) e) h
def QF.ct(d:QF P main K F V){c:Operand}{x y:Code}(e:a.eval c=.bool true)(h:V (G (b.at a (.code x::k)) cs)):V (G (b.at a (.code (.cond c x y)::k)) cs):=d.ctl (λ_=>stepG_cond (t:=true) e) h
def QF.sk(c:QF P main K F V)(h:V (G (b.at a (k)) cs)):V (G (b.at a (.code .skip::k)) cs):=c.ctl (λ_=>stepG_skip) h
def QF.bl(d:QF P main K F V){id:Nat}{c:Code}(h:V (G (b.at a (.code c::.inBlock id::k)) cs)):V (G (b.at a (.code (.block id c)::k)) cs):=d.ctl (λ_=>stepG_block) h
def QF.ib(c:QF P main K F V){id:Nat}(h:V (G (b.at a (k)) cs)):V (G (b.at a (.inBlock id::k)) cs):=c.ctl (λ_=>stepG_inBlock) h
def QF.enter(l:QF P main K F V){f:FuncId}{args:gd}(e:O[i]? =some o)(c:Region.wanted o (yielded O a.tmps)=true)(g:b.kind≠.early)(d:∀w,(execOp a.eval o).run P w=.ok (.enter f args) w)(j:∀w,(execOp a.eval o).events P w #[]=#[])(h:V (G (Frame.enter P f args .normal) (b.at a (.inRegion O (i::rest)::k)::cs))):V (G (b.at a (.inRegion O (i::rest)::k)) cs):=
 l.ctl (λw=>by rw[stepG_enter e c g (d w),listed_nil (j w)]) h
def QF.g9(i:QF P main K F V){c:aC}(e:b.kind=.normal)(g:a.defers=[])(f:P.funcs[b.fn]? =some fn)(d:ResultsC P fn a.tmps v)(h:V (G (c.finish v) cs)):V (G {b.at a S with mode:=.returning} (c::cs)):=
 i.ctl (λw=>by rw[stepG_leave e g f (d _).1 (d _).2]) h
def QF.uO(n:QF P main K F V){o:Oper}{f:FuncId}{args:Array Operand}{A:gd}(e:P.funcs[f]? =some fn)(h:V (G (Frame.enter P f A .normal) (b.at a (.inRegion O (i::rest)::k)::cs)))(j:O[i]? =some o:=by exact rfl)(g:Region.wanted o (yielded O a.tmps)=true:=by exact rfl)(l:late b=true:=by exact rfl)(c:o.op=.call {callee:=.value (.func f),args,argTypes:=ats}:=by exact rfl)(d:(fn.name== "runtime.NumGoroutine")=false:=by exact rfl)(f:fn.body.isNone=false:=by exact rfl)(m:args.map a.eval=A:=by walk_nrm;exact rfl):V (G (b.at a (.inRegion O (i::rest)::k)) cs):=
 n.enter j g (iP l) (λ_=>m▸run_call_body c e d f) (λ_=>events_call_body c e d f _) h
def QF.tC(i:QF P main K F V){t:Tmp}{c:aC}(f:P.funcs[b.fn]? =some fn)(h:V (G (c.finish (a.tmps.getD t undef)) cs))(e:b.kind=.normal:=by exact rfl)(g:a.defers=[]:=by exact rfl)(d:fn.results=#[.tmp t]:=by exact rfl):V (G (b.at a (.inRegion O []::.code .ret::k)) (c::cs)):=i.re (i.ctl (λ_=>stepG_ret') (i.g9 e g f (resultsC_tmp d _) h))
def QF.Du(i:QF P main K F V){c:aC}(f:P.funcs[b.fn]? =some fn)(h:V (G (c.finish (.tuple #[])) cs))(e:b.kind=.normal:=by exact rfl)(g:a.defers=[]:=by exact rfl)(d:fn.results=#[]:=by exact rfl):V (G (b.at a [.inRegion O []]) (c::cs)):=i.re (i.ctl (λ_=>stepG_end) (i.g9 e g f (resultsC_none d _) h))
end
section
variable{P:aG}{K:cK}{R:qt}
def nX(d:Nat):QF P false (λ_=>True) (λ_=>False) (λg=>∃n,QuitsD P n d g):=
 ⟨λg g' b h ⟨n,c⟩=>⟨n+1,.inr ⟨b,g',#[],λe a=>by simp at a,λw=>by let⟨es,d,b⟩:=h w trivial;rw[d,TU.2 λe a=>b e a],c⟩⟩⟩
def qE(main:Bool)(s:Seat)(w:aj):QF P main K (EvC Still B) (λg=>∃n,Goes P main (RK K) (DS Still B) (λg _=>∃a,AtIn P main K Still B s g a) n g w):=
 ⟨λg g' a h ⟨n,b⟩=>⟨n+1,.inr ⟨a,λY a=>by let⟨es,d,c⟩:=h Y a;rw[d];exact⟨⟨rfl,c⟩,Goes.rely (λ_ _ _ _ x=>x) b a⟩⟩⟩⟩
end
def KL(l:oJ)(cc:aN)(w:aj):Prop:=(∀p∈l,w.cell? p.1=some p.2)/\∀c∈cc,∃k,w.heap[c]? =some (.chan 0 #[] false k k false)
def wD(l:oJ)(x:Loc):Prop:=∃p∈l,x=.cell p.1
section
variable{l:oJ}{w:aj}{es:dS}
def KA(b:∀p∈l,¬Ok p.1 true):∀w w' es,DX Ok w w' es->KL l cc w->KL l cc w':=λw w' es D h=>
 ⟨λp a=>by rw[(D.cell p.1 (b p a) (au (h.1 p a))).1];exact h.1 p a,λc b=>by let⟨k,a⟩:=h.2 c b;exact⟨k,D.obj c _ a (λ_ _ _ z=>by cases z)⟩⟩
def IL{k:Nat}(a:∀p∈l,c≠p.1.block)(g:c∈cc)(h:KL l cc w):KL l cc (w.setChan c 0 #[] false k k false):=by
 refine⟨λp d=>by rw[(iR (a p d) ..).1];exact h.1 p d,λf b=>?_⟩;by_cases e:c=f
 .subst e;let⟨d,a⟩:=h.2 c g;exact⟨k,heap_setChan_self w a _ _ _ _ _ _⟩
 .let⟨d,a⟩:=h.2 f b;exact⟨d,by rw[heap_setChan_ne w _ _ _ _ _ _ e];exact a⟩
def FI{b:oJ}{a:aN}(e:∀p∈b,p∈l)(d:∀c∈a,c∈cc)(h:KL l cc w):KL b a w:=⟨λp a=>h.1 p (e p a),λc a=>h.2 c (d c a)⟩
def vT{a:Addr}(c:w.cell? a=some v)(h:KL l cc w):KL ((a,v)::l) cc w:=⟨λp b=>by rcases ak.1 b with rfl|b;exact c;exact h.1 p b,h.2⟩
def vm{x:Loc}(h:wD l x):x.isMemory=true:=by obtain⟨p,_,rfl⟩:=h;rfl
end
section
variable{P:aG}{V:gi}{K:cK}
abbrev CF(P:aG)(main:Bool)(Φ:kr):Prop:=QF P main (λ_=>True) (λ_=>False) Φ
def pE(F:aB P main D V)(w:aj):CF P main (λg=>V g w):=
 ⟨λg g' a h b=>F.step g w a λd=>by
  have e:∀w,stepG P main g w=.go g' w #[]:=λw=>by
   let⟨es,a,c⟩:=h w trivial;rw[a,TU.2 λe a=>c e a]
  exact⟨_,_,_,e _,F.idle _ _,F.at' _ _ _ b,λ_ _ _ _=>e _⟩⟩
def aaf(c:QF P main K F Φ):CF P main Φ:=⟨λg g' a h b=>c.step g g' a (λw _=>by let⟨es,_,a⟩:=h w trivial;simp_all) b⟩
end
section
variable{P:aG}{K:cK}{w:aj}{a g:aV}
def At.assume(a:∀w d,K w->K (w.at d))(H:K w->At P Post K Shun Still Mem U h n g w):At P Post K Shun Still Mem U h n g w:=
 λd I T q b c e C=>H (show K w from a (w.at d) w.drawn C.keep) d I T q b c e C
abbrev nM(P:aG)(Post:qz)(K:cK)(Shun:dm)(n:Nat):Goroutine->World->Prop:=At P Post K Shun (λ_=>False) (λg=>g=0) (λ_=>none) 0 n
def At.Rv{es:dS}(g:a.status=.running)(c:∀d,stepG P true a (w.at d)=.ended (.done v) (w.at d) es)(f:∀e∈es,EvL Shun w.heap.size e)(e:∀d,K (w.at d)->Post v (w.at d))(b:∀w d,K w->K (w.at d)):nM P Post K Shun n a w:=
 At.assume b λa=>At.ends g rfl c f λd=>e d (b _ _ a)
end
def jq(l:aN)(x:Loc):Prop:=∃A∈l,x=.cell ⟨A,5,none⟩\/x=.cell ⟨A,6,none⟩
def Ey{l:aN}{A:Nat}{x:Loc}(h:jq l x):jq (A::l) x:=by let⟨B,a,e⟩:=h;exact⟨B,aP _ a,e⟩
def H6{l:aN}{A:Nat}{x:Loc}(h:jq (A::l) x):jq l x\/Sf A x:=by
 let⟨B,a,e⟩:=h;rcases ak.1 a with rfl|a
 .exact .inr (e.elim (λe=>⟨_,e,az _⟩) λe=>⟨_,e,az _⟩)
 .exact .inl ⟨B,a,e⟩
def cP(N0:Nat)(l:aN)(st:oJ)(a:Addr)(wr:Bool):Prop:=¬jq l (.cell a)/\(wr=true->N0<=a.block/\¬wD st (.cell a))
def Old(wI w:aj):Prop:=w.os=wI.os/\w.tape=wI.tape/\w.output=wI.output/\wI.heap.size<=w.heap.size/\∀k,k<wI.heap.size->w.heap[k]? =wI.heap[k]?
theorem Old.below{w:aj}(h:Old wI w):Below wI.heap.size wI w:=⟨h.1,h.2.1,h.2.2.1,h.2.2.2.1,h.2.2.2.2⟩
theorem Old.of{w:aj}(h:Below wI.heap.size wI w):Old wI w:=⟨h.os,h.tape,h.output,h.size,h.block⟩
theorem Old.cell{wI w:aj}(h:Old wI w)(a:Addr)(v:ay)(b:wI.cell? a=some v):w.cell? a=some v:=(h.below.cell (au b)).trans b
section
variable{P:aG}{w:aj}{l:aN}{es:dS}
theorem gN:∀w d,Old wI w->Old wI (w.at d):=λ_ _ h=>h
theorem Za(b:∀a,Ok a true->wI.heap.size<=a.block):∀w w' es,DX Ok w w' es->Old wI w->Old wI w':=λw w' es D h=>
 ⟨D.rest.1.trans h.1,D.rest.2.1.trans h.2.1,D.rest.2.2.trans h.2.2.1,aT h.2.2.2.1 D.size,λk b=>(D.blk k (ga b h.2.2.2.1) (λa a z=>χ)).trans (h.2.2.2.2 k b)⟩
theorem A5{a:Addr}(b:wI.heap.size<=a.block)(h:Old wI w):Old wI (w.setCell a v):=Old.of (Below.setCell h.below b v)
theorem Fh{Z:Nat}{buf:gd}{y:Nat}{a:Bool}(b:wI.heap.size<=c)(h:Old wI w):Old wI (w.setChan c Z buf cl x y a):=
 ⟨h.1,h.2.1,h.2.2.1,by simp only[World.setChan,zb];exact h.2.2.2.1,λk a=>by
  rw[<-h.2.2.2.2 k a];simp only[World.setChan];grind⟩
theorem nA(n:Nat):aB P true (DX (cP wI.heap.size l [])) (nM P Post (Old wI) (jq l) n):=
 GW (h:=0) gN (Gy (λb z=>z.elim) (λb wr z o=>o.1 z) (Za λa o=>(o.2 rfl).1)) DX.idle yE rfl
end
structure P3(Shun:dm)(St:Nat->Loc->Prop)(J:p8)(B h:Nat)(t:Trace):Prop where
 clean:∀said,¬Race said t
 known:∀i a,touchAt t i=some a->a.loc.isMemory=true->Acc Shun h t i\/(a.write=false/\∃g,t.g? i=some g/\J g/\St g a.loc)
 wrote:∀i a,touchAt t i=some a->a.write=true->∀g,J g->St g a.loc->Knows t g i
 hears:∀g,J g->Deaf t g=0
 seen:∀op∈t,op.act.low B
def nG(St:Nat->Loc->Prop)(J:p8)(l:Loc):Prop:=∃g,J g/\St g l
section
variable{g:Nat}{t:Trace}
theorem P3.mono(H:P3 Shun St J B h t)(b:B<=B'):P3 Shun St J B' h t:=⟨H.clean,H.known,H.wrote,H.hears,λop a=>MemAct.low_mono b (H.seen op a)⟩
def nT{a b:Touch}(c:touchAt t i=some a)(c:touchAt t i=some b):b=a:=ξ
def fM{fn:FuncId}{a:String}{es:dS}:∀op∈MemOp.ofEvents g fn a es,op.g=g:=λop a=>by obtain⟨e,_,rfl⟩:=Go.Conc.mem_ofEvents a;rfl
theorem zH(H:P3 Shun St J B h t){fn:FuncId}{k:String}{es:dS}(r:∀e∈es,wE Shun (nG St J) B h e)(C:¬J h):P3 Shun St J B h (t++MemOp.ofEvents h fn k es):=by
 have u:∀op∈MemOp.ofEvents h fn k es,op.g=h:=fM;have m:∀op∈MemOp.ofEvents h fn k es,∀b,op.act.touch? =some b->(nG St J b.loc->b.write=false)/\(Shun b.loc->b.kind≠.plain/\(b.kind=.said->h=0)):=λop c b y=>by
  obtain⟨e,w,rfl⟩:=Go.Conc.mem_ofEvents c;exact(r e w).1 b y
 refine⟨λsaid=>noRace_append (H.clean said) u λi a o op c b y k=>?_,λi a o h=>?_,λi a o s g j v=>?_,λg j=>?_,λop c=>?_⟩
 .let⟨E,D,B,G⟩:=k;rcases H.known i a o D with ⟨_,q,_⟩|⟨s,g,_,j,v⟩
  .grind
  .rcases B with x|x
   .simp_all
   .have:=(m op c b y).1 ⟨g,j,E▸v⟩;simp_all
 .let⟨x,n,f⟩:=touch_of o;rcases getElem?_append_cases n with ⟨k,l⟩|⟨_,d⟩
  .rcases H.known i a (by rw[touchAt_of l];exact f) h with q|⟨p,g,j,b⟩
   .exact .inl (q.app _)
   .exact .inr ⟨p,g,by rw[g?_old k];exact j,b⟩
  .have q:=knows_own n;rw[u x d]at q;refine .inl ⟨lt_size_of_getElem? n,.inl q,λF b A=>?_⟩;obtain rfl:=nT o b;let⟨b,h⟩:=(m x d F f).2 A;exact⟨b,λb=>by rw[g?_of n,u x d,h b]⟩
 .let⟨x,n,f⟩:=touch_of o;rcases getElem?_append_cases n with ⟨_,l⟩|⟨_,d⟩
  .exact(H.wrote i a (by rw[touchAt_of l];exact f) s g j v).app _
  .rw[(m x d a f).1 ⟨g,j,v⟩]at s;cases s
 .rw[Deaf_other t (λz=>C (by rw[z];exact j)) _ u];exact H.hears g j
 .rcases nQ.1 c with c|c
  .exact H.seen op c
  .obtain⟨e,w,rfl⟩:=Go.Conc.mem_ofEvents c;exact(r e w).2
theorem qF(H:P3 Shun St J B h t)(k:∀op∈u,op.g=g)(l:∀op∈u,∀b,op.act.touch? =some b->b.write=false/\J g/\St g b.loc)(r:J g->Deaf (t++u) g=Deaf t g)(f:∀op∈u,op.act.low B):P3 Shun St J B h (t++u):=by
 refine⟨λsaid=>noRace_append (H.clean said) k λi a h op d b q j=>?_,λi a h m=>?_,λi a h n g' c s=>?_,λg' c=>?_,seen_app H.seen f⟩
 .let⟨_,o,f⟩:=l op d b q;rcases j.2.2.1 with x|x
  .exact H.wrote i a h x g o (j.1▸f)
  simp_all
 .let⟨x,j,b⟩:=touch_of h;rcases getElem?_append_cases j with ⟨q,f⟩|⟨_,d⟩
  .rcases H.known i a (by rw[touchAt_of f];exact b) m with o|⟨p,g',c,m⟩
   .exact .inl (o.app _)
   .exact .inr ⟨p,g',by rw[g?_old q];exact c,m⟩
  .exact .inr ⟨(l x d a b).1,g,by rw[g?_of j,k x d],(l x d a b).2⟩
 .let⟨x,j,b⟩:=touch_of h;rcases getElem?_append_cases j with ⟨_,f⟩|⟨_,d⟩
  .exact(H.wrote i a (by rw[touchAt_of f];exact b) n g' c s).app u
  grind
 .by_cases e:g=g'
  .subst e;rw[r c];exact H.hears g c
  .rw[Deaf_other t e _ k];exact H.hears g' c
theorem E8(H:P3 Shun St J B h t)(q:∀g l,J g->St g l->¬Shun l){fn:FuncId}{pos:String}{es:dS}(o:∀e∈es,(∀x,(MemAct.ofEvent e).touch? =some x->x.kind=.atomic/\Shun x.loc)/\(MemAct.ofEvent e).low B)(v:¬J c)(u:uc (Deaf t c) es):
 P3 Shun St J B h (t++MemOp.ofEvents c fn pos es):=by
 have s:PastG (nG St J) (λ_=>False) J B (Acc Shun h t) t:=⟨H.clean,λi a j m=>(H.known i a j m).imp id fun⟨p,g,d,n,k⟩=>⟨p,⟨g,n,k⟩,g,d,n⟩,λ_ _ _ _ _ _ z=>z.elim,λ_ z=>z.elim,H.seen⟩;have f:=zF (c:=c) (fn:=fn) (pos:=pos) s (λl ⟨g,d,k⟩=>q g l d k) o (λz=>z) u;have r:∀op∈MemOp.ofEvents c fn pos es,op.g=c:=fM;have h:∀op∈MemOp.ofEvents c fn pos es,∀b,op.act.touch? =some b->b.kind=.atomic/\Shun b.loc:=λop h b b=>by
  obtain⟨e,b,rfl⟩:=Go.Conc.mem_ofEvents h;grind
 refine⟨f.clean,λi a j m=>?_,λi a j o g d u=>?_,λg d=>?_,f.seen⟩
 .let⟨x,l,b⟩:=touch_of j;rcases getElem?_append_cases l with ⟨s,e⟩|⟨_,h⟩
  .rcases H.known i a (by rw[touchAt_of e];exact b) m with q|⟨p,g,d,k⟩
   .exact .inl (q.app _)
   .exact .inr ⟨p,g,by rw[g?_old s];exact d,k⟩
  .refine(f.known i a j m).imp id fun⟨_,_,g,d,n⟩=>?_;rw[g?_of l,r x h]at d;simp_all
 .let⟨x,l,b⟩:=touch_of j;rcases getElem?_append_cases l with ⟨_,e⟩|⟨_,h⟩
  .exact(H.wrote i a (by rw[touchAt_of e];exact b) o g d u).app _
  grind
 .rw[Deaf_other t (show c≠g from λz=>v (by rw[z];exact d)) _ r];exact H.hears g d
theorem AY(H:P3 Shun St J B h t)(s:∀g l,J g->St g l->¬Shun l)(F:∀g,J g->g≠j->pH g/\∀l,St g l->tW g l)(Q:∀g,pH g->(J g/\g≠j/\∀l,tW g l->St g l)\/(g=h/\∀l,tW g l->l.isMemory=true/\¬Shun l))(M:∀op∈u,op.act.touch? =none)(N:∀op∈u,op.act.low B)(P:∀g,pH g->Deaf (t++u) g=0){p q:Nat}{x y:MemOp}(L:t.size<=p)(I:(t++u)[p]? =some x)(v:x.g=h)(x:(t++u)[q]? =some y)(s:y.g=j)(l:HappensBefore (t++u) p q):
 P3 Shun tW pH B j (t++u):=by
 have pass:∀i,Knows t h i->Knows (t++u) j i:=λi d=>⟨q,y,x,s,.inr ((d.hb_new L I v).trans l)⟩
 refine⟨λsaid=>noRace_appendMute (H.clean said) M,λi a D h=>?_,λi a D K g C E=>?_,P,seen_app H.seen N⟩
 .let⟨z,n,f⟩:=touch_of D;rcases getElem?_append_cases n with ⟨O,c⟩|⟨_,r⟩
  .rcases H.known i a (by rw[touchAt_of c];exact f) h with d|⟨G,g,C,o,A⟩
   .exact .inl (d.to (pass i))
   .by_cases e:g=j
    .subst e;have d:=knows_own n;rw[show z.g=g from by have:=g?_of c;simp_all]at d;refine .inl ⟨lt_size_of_getElem? n,.inl d,λh m w=>?_⟩;grind
    .exact .inr ⟨G,g,by rw[g?_old O];exact C,(F g o e).1,(F g o e).2 _ A⟩
  simp_all
 .let⟨z,n,f⟩:=touch_of D;rcases getElem?_append_cases n with ⟨_,c⟩|⟨_,r⟩
  .have m:touchAt t i=some a:=by rw[touchAt_of c];exact f
   rcases Q g C with ⟨o,_,k⟩|⟨rfl,k⟩
   .exact(H.wrote i a m K g o (k _ E)).app u
   .let⟨c,e⟩:=k _ E;rcases H.known i a m c with ⟨_,d|⟨b,a,_,w,_⟩,_⟩|⟨a,_⟩
    .exact d.app u
    .simp_all
    simp_all
  simp_all
theorem E9(H:P3 Shun St J B h t)(f:∀g l,J g->St g l->¬Shun l)(u:∀g,J g->g≠j->pH g/\∀l,St g l->tW g l)(o:∀g,pH g->(J g/\g≠j/\∀l,tW g l->St g l)\/(g=h/\∀l,tW g l->l.isMemory=true/\¬Shun l))(n:Deaf t h=0)(q:J j)(d:FuncId)(ph:String)(b:FuncId)(a:String)(k:Nat)(s:c<B):
 P3 Shun tW pH B j (t++met h j d ph b a c k 0):=by
 have l:(t++met h j d ph b a c k 0)[t.size]? =some {g:=h,fn:=d,pos:=ph,act:=.send c k}:=by simp[met]
 have i:(t++met h j d ph b a c k 0)[t.size+3]? =some {g:=j,fn:=b,pos:=a,act:=.recvDone c k}:=by simp[met]
 have m:=met_quiet h j d ph b a c k 0;have v:(t++met h j d ph b a c k 0).deaf h t.size=0:=by rw[deaf_old (az _)];exact n
 have d3:(t++met h j d ph b a c k 0).deaf j (t.size+3)=0:=by rw[deaf_quiet (m j) 3 (by simp[met])];exact H.hears j q
 refine AY H f u o (met_mute h j d ph b a c k 0) (λop e=>?_) (λg r=>(Deaf_quiet (m g)).trans ?_) (az _) l rfl i rfl
  (Relation.TransGen.single (.inr ⟨.handOver (act?_of l) (act?_of i),⟨h,g?_of l,v⟩,⟨j,g?_of i,d3⟩⟩))
 .simp only[met,rq,ak,bH,or_false]at e;rcases e with rfl|rfl|rfl|rfl<;>exact s
 .rcases o g r with ⟨p,_⟩|⟨rfl,_⟩
  .exact H.hears g p
  .exact n
def Y8(e:FuncId)(ph:String)(f:FuncId)(b:String)(g:Nat):∀op∈(#[{g:=h,fn:=e,pos:=ph,act:=.go c},{g:=c,fn:=f,pos:=b,act:=.start}]:Trace),∀d,deafStep g d op=d:=by
 intro op a d;simp only[rq,ak,bH,or_false]at a;rcases a with rfl|rfl<;>rfl
theorem PA(H:P3 Shun St J B h t)(k:∀g l,J g->St g l->¬Shun l)(q:∀g,J g->pH g/\∀l,St g l->tW g l)(o:∀g,pH g->(J g/\g≠c/\∀l,tW g l->St g l)\/(g=h/\∀l,tW g l->l.isMemory=true/\¬Shun l))(n:Deaf t h=0)(j:Deaf t c=0)(d:FuncId)(ph:String)(e:FuncId)(b:String):
 P3 Shun tW pH B c (t++#[{g:=h,fn:=d,pos:=ph,act:=.go c},{g:=c,fn:=e,pos:=b,act:=.start}]):=by
 have l:(t++#[{g:=h,fn:=d,pos:=ph,act:=.go c},{g:=c,fn:=e,pos:=b,act:=.start}])[t.size]? =some {g:=h,fn:=d,pos:=ph,act:=.go c}:=ψ
 have f:(t++#[{g:=h,fn:=d,pos:=ph,act:=.go c},{g:=c,fn:=e,pos:=b,act:=.start}])[t.size+1]? =some {g:=c,fn:=e,pos:=b,act:=.start}:=ψ
 have m:=Y8 (h:=h) (c:=c) d ph e b
 refine AY H k (λg i _=>q g i) o (λop a=>?_) (λop a=>?_) (λg i=>(Deaf_quiet (m g)).trans ?_) (az _) l rfl f rfl
  (Relation.TransGen.single (.inr ⟨.spawn (act?_of l) (act?_of f) (g?_of f),⟨h,g?_of l,by rw[deaf_old (az _)];exact n⟩,⟨c,g?_of f,by rw[deaf_quiet (m c) 1 ψ];exact j⟩⟩))
 .simp only[rq,ak,bH,or_false]at a;rcases a with rfl|rfl<;>rfl
 .simp only[rq,ak,bH,or_false]at a;rcases a with rfl|rfl<;>trivial
 .rcases o g i with ⟨p,_⟩|⟨rfl,_⟩
  .exact H.hears g p
  .exact n
end
def gv(m x:Nat):Int:=((m*4294967296+x:Nat):Int)
section
variable(P:aG)(K:cK)(R:qt)
def O2(M:Nat->Goroutine->Prop)(Q:kr)(t:Nat)(g:aV):Prop:=
 (g.status=.running/\∃g',(∀w,K w->stepG P false g w=.go g' w #[])/\M t g')\/
 (t=0/\g.status=.running/\∃g',(∀w,K w->stepG P false g w=.go g' w #[uD (.releaseMerge R.st)])/\M 1 g')\/
 (t=1/\g.status=.running/\∃g',(∀w,K w->stepG P false g w=.go g' w #[uD .disable])/\M 2 g')\/
 (t=2/\g.status=.running/\
   (∀m x:Nat,m<9999->x<2->(x=0\/0<m)->∃g',(∀w,K w->ji .u64 R.st w (gv (m+1) x)->stepG P false g w=.go g' (w.setCell R.st (.int .u64 (gv m x))) #[tF R.st,Dt R.st])/\Q g')/\
   ∃g',(∀w,K w->ji .u64 R.st w (gv 1 1)->stepG P false g w=.go g' (w.setCell R.st (.int .u64 (gv 0 1))) #[tF R.st,Dt R.st])/\M 3 g')\/
 (t=3/\g.status=.running/\∃g',(∀w,K w->ji .u64 R.st w (gv 0 1)->stepG P false g w=.go g' w #[tF R.st])/\M 4 g')\/
 (t=4/\g.status=.running/\∃g',(∀w,K w->ji .u64 R.st w (gv 0 1)->stepG P false g w=.go g' (w.setCell R.st (.int .u64 (gv 0 0))) #[Dt R.st])/\M 5 g')\/
 (t=5/\g.status=.running/\mayWake P g=true/\∃g',g'.status=.running/\(∀w,K w->ji .u32 R.se w 0->stepG P false g w=.go g' (w.setCell R.se (.int .u32 1)) (semEvents R.se))/\Q g')
def DP:Nat->Nat->Goroutine->Prop
 |0,_,_=>False
 |n+1,t,g=>O2 P K R (DP n) (QuitsD P n 1) t g
end
section
variable{P:aG}{K:cK}{R:qt}{M:Nat->Goroutine->Prop}{Q:kr}{t:Nat}{g:aV}
def O2.mono(i:∀w,K' w->K w)(h:∀t g,M t g->M' t g)(x:O2 P K R M Q t g):O2 P K' R M' Q t g:=by
 rcases x with ⟨a,g',b,c⟩|⟨a,b,g',c,d⟩|⟨a,b,g',c,d⟩|⟨a,b,e,g',c,d⟩|⟨a,b,g',c,d⟩|⟨a,b,g',c,d⟩|⟨a,b,c,g',d,e,f⟩
 .exact .inl ⟨a,g',λw y=>b w (i w y),h _ _ c⟩
 .exact .inr (.inl ⟨a,b,g',λw y=>c w (i w y),h _ _ d⟩)
 .exact .inr (.inr (.inl ⟨a,b,g',λw y=>c w (i w y),h _ _ d⟩))
 .exact .inr (.inr (.inr (.inl ⟨a,b,λm x g g g=>χ,g',λw y=>c w (i w y),h _ _ d⟩)))
 .exact .inr (.inr (.inr (.inr (.inl ⟨a,b,g',λw y=>c w (i w y),h _ _ d⟩))))
 .exact .inr (.inr (.inr (.inr (.inr (.inl ⟨a,b,g',λw y=>c w (i w y),h _ _ d⟩)))))
 .exact .inr (.inr (.inr (.inr (.inr (.inr ⟨a,b,c,g',d,λw y=>e w (i w y),f⟩)))))
def DP.mono(a:∀w,K' w->K w):∀(n t:Nat)(g:aV),DP P K R n t g->DP P K' R n t g
 |0,_,_,h=>h
 |n+1,_,_,h=>O2.mono a (λt g=>DP.mono a n t g) h
def DP.inv(h:DP P K R n t g):∃m,n=m+1/\O2 P K R (DP P K R m) (QuitsD P m 1) t g:=by
 cases n with
 |zero=>exact h.elim
 |succ m=>exact⟨m,rfl,h⟩
def DP.running(h:DP P K R n t g):g.status=.running:=by
 let⟨_,_,h⟩:=h.inv;rcases h with ⟨h,_⟩|⟨_,h,_⟩|⟨_,h,_⟩|⟨_,h,_⟩|⟨_,h,_⟩|⟨_,h,_⟩|⟨_,h,_⟩<;>exact h
end
structure C3(P:aG)(K:cK)(Shun:dm)(St:Nat->Loc->Prop)(B:Nat)(U:Nat->Option Seat)(R:qt)(h:Nat)(ds:aN)(H:bU)(T:Trace)(I:jH)(w:aj)(q:bU):Prop where
 idle:∀i g,i≠h->i∉ds->I[i]? =some g->Idle P K (St i) B T i (q i) g (U i)
 dep:∀i,i∈ds->i≠h/\0<i/\U i=none/\∃g,I[i]? =some g/\DP P K R (q i) (H i) g/\Deaf T i=dC (H i)
 nd:ds.Nodup
 chans:∀i s c,U i=some s->s.has c->∃Z k,w.heap[c]? =some (.chan Z #[] false k k false)
 wf:∀i s,U i=some s->s.Wf
 inj:∀i i' s s' c,U i=some s->U i'=some s'->s.has c->s'.has c->i=i'
 above:∀j,I.size<=j->Deaf T j=0
 low:∀i s c,U i=some s->s.has c->c<B
 zL:U h=none
 ss:∀i l,(U i).isSome->St i l->¬Shun l
 past:P3 Shun St (λg=>(U g).isSome) B h T
 keep:K w
section
variable{P:aG}{K:cK}{R:qt}{ds:aN}{w:aj}
def AtIn.less{s:Seat}{g a:aV}(c:∀w,K' w->K w)(x:AtIn P main K Still B s g a):AtIn P main K' Still B s g a:=by
 let⟨h,g,f,e,d,es,b,a⟩:=x;exact⟨h,g,f,e,d,es,b,λw b=>a w (c w b)⟩
def uH{main:Bool}{D:yW}{S c:gi}(a:∀w,K' w->K w)(b:∀g w,S g w->c g w):
 ∀{n:Nat}{g:aV}{w:aj},Goes P main (RK K) D S n g w->Goes P main (RK K') D c n g w
 |0,_,_,h=>λY r=>b _ _ (h Y (a _ r))
 |n+1,_,_,h=>h.elim (λx=>.inl λY r=>b _ _ (x Y (a _ r))) fun⟨c,x⟩=>.inr ⟨c,λY r=>by
  have:=x Y (a _ r);revert this;cases stepG P main _ Y<;>simp only[GStep.goes,imp_self];exact fun⟨d,y⟩=>⟨d,uH a b y⟩⟩
def Sits.less{main:Bool}{Still:dm}{s:Seat}{n:Nat}{g:aV}(d:∀w,K' w->K w)(x:Sits P main K Still B s n g):Sits P main K' Still B s n g:=by
 rcases x with ⟨k,w,e,f⟩|⟨e,b,a,g,c⟩
 .exact .inl ⟨k,w,e,uH d (λ_ _ ⟨a,y⟩=>⟨a,AtIn.less d y⟩) f⟩
 .exact .inr ⟨e,b,a,g,AtIn.less d c⟩
theorem C3.less(C:C3 P K Shun St B U R h ds H T I w q)(b:∀w,K' w->K w)(c:K' w):C3 P K' Shun St B U R h ds H T I w q:=by
 refine⟨λi g a f d=>?_,λi a=>?_,C.nd,C.chans,C.wf,C.inj,C.above,C.low,C.zL,C.ss,C.past,c⟩
 .have:=C.idle i g a f d;cases e:U i with
  |none=>rw[e]at this;exact this
  |some s=>rw[e]at this;exact Sits.less b this
 .let⟨j,h,f,g,e,d,c⟩:=C.dep i a;exact⟨j,h,f,g,e,DP.mono b _ _ _ d,c⟩
theorem C3.raise(C:C3 P K Shun St B U R h ds H T I w q)(a:B<=B'):C3 P K Shun St B' U R h ds H T I w q:=by
 refine⟨λi g b f d=>?_,C.dep,C.nd,C.chans,C.wf,C.inj,C.above,λi s c e h=>ga (C.low i s c e h) a,C.zL,C.ss,C.past.mono a,C.keep⟩;have:=C.idle i g b f d;cases e:U i with
 |none=>rw[e]at this;exact this
 |some s=>rw[e]at this;exact Sits.raise a this
theorem C3.in(C:C3 P K Shun St B U R h ds H T I w q)(b:K w')(a:∀i s c,U i=some s->s.has c->w'.heap[c]? =w.heap[c]?):C3 P K Shun St B U R h ds H T I w' q:=
 ⟨C.idle,C.dep,C.nd,λi s c e a=>by let⟨Z,k,d⟩:=C.chans i s c e a;grind,C.wf,C.inj,C.above,C.low,C.zL,C.ss,C.past,b⟩
theorem C3.fixed(C:C3 P K Shun St B U R h ds H T I w q)(f:x≠h)(b:I[x]? =some y):y.again w=y:=by
 by_cases d:x∈ds
 .let⟨_,_,_,_,g,i,_⟩:=C.dep x d;rw[g]at b;obtain rfl:=Option.some.inj b;exact again_running _ (.inl i.running)
 have a:=C.idle x y f d b;cases e:U x with
 |none=>rw[e]at a;exact again_running _ a.2.status
 |some s=>rw[e]at a;exact Go.Conc.Sits.again C.keep a (C.wf x s e) λc d=>by let⟨Z,k,f⟩:=C.chans x s c e d;simp_all
theorem C3.noSend(C:C3 P K Shun St B U R h ds H T I w q)(i:x≠h)(b:I[x]? =some y)(c:Nat):offersAt y c true=[]:=by
 by_cases f:x∈ds
 .let⟨_,_,_,_,g,j,_⟩:=C.dep x f;rw[g]at b;obtain rfl:=Option.some.inj b;exact offersAt_of_not_blocked (by rw[j.running];simp) c true
 have a:=C.idle x y i f b;cases e:U x with
 |none=>
  rw[e]at a;exact offersAt_of_not_blocked (λd=>by rcases a.2.status with z|z<;>rw[z]at d<;>cases d) c true
 |some s=>
  rw[e]at a;rcases id a with ⟨k,f,f,_⟩|⟨_,_,f,rfl,_⟩
  .have:=(Go.Conc.Sits.status C.keep a).elim (·.1) (λz=>ω);exact offersAt_of_not_blocked (λd=>ξ) c true
  .exact offersAt_parked_sends (λcc c=>by obtain⟨f,f,rfl⟩:=(C.wf x s e).recvs cc c;rfl) _
theorem C3.MH(C:C3 P K Shun St B U R h ds H T I w q)(l:x≠h)(d:I[x]? =some y)(m:∀s,U x=some s->¬s.has c):offersAt y c false=[]:=by
 by_cases i:x∈ds
 .let⟨_,_,_,_,g,n,_⟩:=C.dep x i;rw[g]at d;obtain rfl:=Option.some.inj d;exact offersAt_of_not_blocked (by rw[n.running];simp) c false
 have a:=C.idle x y l i d;cases e:U x with
 |none=>
  rw[e]at a;exact offersAt_of_not_blocked (λf=>by rcases a.2.status with z|z<;>rw[z]at f<;>cases f) c false
 |some s=>
  rw[e]at a;rcases id a with ⟨k,g,g,_⟩|⟨_,_,g,rfl,_⟩
  .have:=(Go.Conc.Sits.status C.keep a).elim (·.1) (λz=>ω);exact offersAt_of_not_blocked (λf=>ξ) c false
  .refine offersAt_parked_off (λcc b j=>?_) _;obtain⟨c,c,rfl⟩:=(C.wf x s e).recvs cc b;simp only[rcase,Value.chan.injEq,Option.some.injEq]at j;subst j;exact m s e (Seat.has_of_mem b)
theorem C3.awake(C:C3 P K Shun St B U R h ds H T I w q){a:aV}(j:I[h]? =some a)(j:a.status=.running\/a.status=.blocked)(g:aV)(a:g∈I):Go.Conc.awake g:=by
 let⟨i,b⟩:=Array.mem_iff_getElem?.1 a;refine awake_of ?_;by_cases e:i=h
 .grind
 by_cases d:i∈ds
 .let⟨_,_,_,g',a,f,_⟩:=C.dep i d;rw[a]at b;obtain rfl:=Option.some.inj b;exact .inl f.running
 have c:=C.idle i g e d b;revert c;cases U i with
 |none=>exact λz=>z.2.status.imp_right .inr
 |some s=>exact λz=>(Go.Conc.Sits.status C.keep z).imp And.left λy=>.inl y.1
theorem C3.lay(C:C3 P K Shun St B U R h ds H T I w q){l:Nat}{O:Array MemOp}{b:jH}(p:i≠h)(o:i∉ds)(p:i<I.size)(p:b.size=I.size)(f:∀x,x≠i->b[x]? =I[x]?)(c:b[i]? =some g')(a:∀op∈O,op.g=i)(d:Idle P K (St i) B (T++O) i l g' (U i))(p:P3 Shun St (λg=>(U g).isSome) B h (T++O)):C3 P K Shun St B U R h ds H (T++O) b w (upd q i l):=by
 refine⟨λx y n r m=>?_,λx n=>?_,C.nd,C.chans,C.wf,C.inj,λj b=>?_,C.low,C.zL,C.ss,p,C.keep⟩
 .by_cases e:x=i
  .subst e;rw[c]at m;obtain rfl:=Option.some.inj m;rw[upd_same];exact d
  .rw[f x e]at m;rw[upd_ne q l e];have k:=C.idle x y n r m;cases es:U x with
   |none=>rw[es]at k;exact⟨k.1,by rw[Deaf_other T (λz=>e z.symm) O a];exact k.2⟩
   |some s=>rw[es]at k;exact k
 .have e:x≠i:=λz=>o (z▸n);let⟨h,f,d,g,_,c,b⟩:=C.dep x n;exact⟨h,f,d,g,ξ,by rw[upd_ne q l e];exact c,by rw[Deaf_other T (λz=>e z.symm) O a];exact b⟩
 .rw[Deaf_other T (g':=i) ω O a];exact C.above j ω
def gW{k:Nat}(b:i<n)(a:q i=k+1){a:Nat}(c:a<=k):sumTo n (upd q i a)<sumTo n q:=by
 have c:sumTo n (upd q i a)+(k+1)=sumTo n q+a:=by
  have:=sumTo_upd q a id b;simp_all
 omega
theorem C3.L8(C:C3 P K Shun St B U R h ds H T I w q){g:aV}{sl:qT}(L:I[i]? =some g)(t:i≠h)(u:i∉ds)(r:g.status=.running)(A:∀A,I[h]? =some A->A.again w=A)(hO:∀s a,U i=some s->AtIn P (i==0) K (St i) B s g a->∀A c,I[h]? =some A->s.has c->offersAt A c true=[]):
 ∃(A:jH)(O:Array MemOp)(S:bU),runT P (crowd I w sl) i=(.next (crowd A w sl),O)/\(∀op∈O,op.g=i)/\A.size=I.size/\(∀x,x≠i->A[x]? =I[x]?)/\(∀x,x≠i->S x=q x)/\(∀s,U i=some s->S i=0->∃a,AtIn P (i==0) K (St i) B s g a)/\
   C3 P K Shun St B U R h ds H (T++O) A w S/\sumTo I.size S<sumTo I.size q:=by
 have d:i<I.size:=(cU.1 L).1;have A:∀(A:aV)(x:Nat)(y:aV),I[x]? =some y->woken P g A w y=y:=λA x y Y=>woken_of_again (by
  by_cases n:x=h
  .simp_all
  .exact C.fixed n Y)
 have f:∀(g':aV)(x:Nat),x≠i->((I.map (woken P g g' w)).setIfInBounds i g')[x]? =I[x]? :=by
  grind
 have p:∀(g':aV),((I.map (woken P g g' w)).setIfInBounds i g')[i]? =some g':=λg'=>Cb ξ;have W:=C.idle i g t u L;cases e:U i with
 |none=>
  rw[e]at W;let⟨J,V⟩:=W;have hi0:(i==0)=false:=θ
  cases j:q i with
  |zero=>rw[j]at V;rw[V.1]at r;cases r
  |succ k=>
   rw[j]at V;rcases V with ⟨A,_⟩|⟨_,g',es,hm,o,Na⟩
   .simp_all
   refine⟨_,_,upd q i k,runT_crowd_go (sl:=sl) L (by rw[hi0];exact o w),fM,ψ,f _,λx n=>upd_ne q k n,λs D _=>(by cases D),?_,gW d j (az _)⟩;refine C.lay t u d ψ (f _) (p _) fM (by rw[e];exact⟨J,by rw[Deaf_own];exact Na⟩) ?_;exact qF C.past fM (λop l b N=>by obtain⟨e,he,rfl⟩:=Go.Conc.mem_ofEvents l;rw[touch_mute (hm e he)]at N;cases N) (λD=>ξ) (λop l=>by obtain⟨e,he,rfl⟩:=Go.Conc.mem_ofEvents l;exact low_mute (hm e he) B)
 |some s=>
  rw[e]at W;obtain⟨k,A,j,hg⟩:∃k A,q i=k+1/\Goes P (i==0) (RK K) (DS (St i) B) (λg _=>∃a,AtIn P (i==0) K (St i) B s g a) k g A:=by
   rcases W with x|⟨_,_,a,rfl,_⟩
   .exact x
   .cases r
  have E:(∃a,AtIn P (i==0) K (St i) B s g a)\/∃G g' es,k=G+1/\stepG P (i==0) g w=.go g' w es/\(∀e∈es,EvC (St i) B e)/\Goes P (i==0) (RK K) (DS (St i) B) (λg _=>∃a,AtIn P (i==0) K (St i) B s g a) G g' w:=by
   cases k with
   |zero=>exact .inl (hg w C.keep)
   |succ G=>
    rcases hg with k|⟨_,A⟩
    .exact .inl (k w C.keep)
    .have D:=A w C.keep;cases v:stepG P (i==0) g w with
     |go g' w' es=>
      rw[v,goes_go]at D;obtain⟨⟨rfl,m⟩,Q⟩:=D;grind
     |_=>rw[v]at D;exact D.elim
  have A:(U i).isSome:=by rw[e];rfl
  have rd:∀{fn:FuncId}{k:String}{es:dS},(∀e∈es,EvC (St i) B e)->P3 Shun St (λg=>(U g).isSome) B h (T++MemOp.ofEvents i fn k es):=fun{fn k es} m=>by
   let⟨B,J,K,P⟩:=evC_ops (i:=i) (fn:=fn) (pos:=k) m;exact qF C.past B (λop l b N=>⟨(J op l b N).1,A,(J op l b N).2⟩) (λ_=>P T) K
  rcases E with ⟨a,F⟩|⟨G,g',es,rfl,v,m,Q⟩
  .have b:=hO s a e F;let⟨_,_,_,_,_,es,m,o⟩:=id F;have hw:∀cc∈s.cases,NoWays w (I.setIfInBounds i ph) cc:=by
    intro cc M;obtain⟨c,z,rfl⟩:=(C.wf i s e).recvs cc M;have b:=Seat.has_of_mem M;let⟨Z,_,k⟩:=C.chans i s c e b;refine ways_recv_none k (partners_nil λx y Y=>?_);rcases getElem?_stand I i x y Y with ⟨_,rfl⟩|⟨n,X⟩
    .rfl
    .by_cases b:x=h
     .simp_all
     .exact C.noSend b X _
   refine⟨_,_,upd q i 0,crowd_waits (sl:=sl) L (o w C.keep) hw,fM,ψ,λx n=>ku (λz=>n z.symm),λx n=>upd_ne q 0 n,λb c _=>χ,?_,gW d j (gl _)⟩;exact C.lay t u d ψ (λx n=>ku (λz=>n z.symm)) (Cb d) fM (by rw[e];exact .inr ⟨rfl,g,a,rfl,F⟩) (rd m)
  .refine⟨_,_,upd q i (G+1),runT_crowd_go (sl:=sl) L v,fM,ψ,f _,λx n=>upd_ne q _ n,λb _ h0=>(by rw[upd_same]at h0;omega),?_,gW d j (az _)⟩;exact C.lay t u d ψ (f _) (p _) fM (by rw[e];exact .inl ⟨G,w,rfl,Q⟩) (rd m)
theorem C3.own(C:C3 P K Shun St B U R h ds H T I w q){a a':aV}{es:dS}(r:I[h]? =some a)(o:K w')(l:∀i s c,U i=some s->s.has c->w'.heap[c]? =w.heap[c]?)(k:∀e∈es,wE Shun (nG St (λg=>(U g).isSome)) B h e):
 C3 P K Shun St B U R h ds H (T++MemOp.ofEvents h a.frame.fn a.frame.place es) ((I.map (woken P a a' w')).setIfInBounds h a') w' q/\((I.map (woken P a a' w')).setIfInBounds h a')[h]? =some a':=by
 have c:h<I.size:=(cU.1 r).1;have C':=C.in o l;have d:∀x,x≠h->((I.map (woken P a a' w')).setIfInBounds h a')[x]? =I[x]? :=by
  intro x b;rw[ku (λe=>b e.symm),sO];cases e:I[x]? with
  |none=>rfl
  |some y=>simp[woken_of_again (P:=P) (x:=a) (x':=a') (C'.fixed b e)]
 have p:∀x,x≠h->Deaf (T++MemOp.ofEvents h a.frame.fn a.frame.place es) x=Deaf T x:=λx b=>Deaf_other T (λz=>b z.symm) _ fM;refine⟨⟨λx y b a m=>?_,λx b=>?_,C.nd,C'.chans,C.wf,C.inj,λj n=>?_,C.low,C.zL,C.ss,zH C.past k (by rw[C.zL];simp),o⟩,Cb ξ⟩
 .rw[d x b]at m;have f:=C.idle x y b a m;cases e:U x with
  |none=>rw[e]at f;exact⟨f.1,by rw[p x b];exact f.2⟩
  |some s=>rw[e]at f;exact f
 .let⟨_,_,_,g,_,_,a⟩:=C.dep x b;simp_all
 .simp only[zb,Aq]at n;rw[p j ω];exact C.above j n
end
def set_set(w:aj)(z:Addr)(u v:ay):(w.setCell z u).setCell z v=w.setCell z v:=by
 refine fK (λr=>?_) rfl rfl rfl rfl;simp only[heap_set];by_cases h:z.block=r<;>simp only[h,if_true,if_false];cases w.heap[r]? with
 |none=>rfl
 |some o=>
  cases o with
  |cells c e f=>
   simp only[fI,mB];simp_all
  |_=>rfl
def GN{w:aj}(b:ir w z.block){Z:Nat}{buf:gd}{y:Nat}{a:Bool}(h:w.heap[c]? =some (.chan Z buf cl x y a)):(w.setCell z v).heap[c]? =w.heap[c]? :=by
 rw[(nZ z v b h (λ_ _ _ e=>by cases e)).2,h]
def vB(w:aj)(a:z.block≠c)(v:ay)(Z:Nat)(buf:gd)(cl:Bool)(x y:Nat)(b:Bool):(w.setCell z v).setChan c Z buf cl x y b=(w.setChan c Z buf cl x y b).setCell z v:=by
 refine fK (λr=>?_) rfl rfl rfl rfl;rw[heap_set];by_cases e:c=r
 .subst e;rw[af a];simp only[World.setChan,ze,if_true];simp
 .rw[heap_setChan_ne _ _ _ _ _ _ _ e,heap_set,heap_setChan_ne _ _ _ _ _ _ _ e]
section
variable{P:aG}{K:cK}{R:qt}{ds:aN}{w:aj}
theorem C3.BB(C:C3 P K Shun St B U R h ds H T I w q){g:aV}{es:dS}(v:qT)(S:i∈ds)(r:I[i]? =some g)(b:stepG P false g w=.go g' w' es)(F:K w')(E:∀i s c,U i=some s->s.has c->w'.heap[c]? =w.heap[c]?)(c:∀e∈es,(∀x,(MemAct.ofEvent e).touch? =some x->x.kind=.atomic/\Shun x.loc)/\(MemAct.ofEvent e).low B)(X:uc (Deaf T i) es):
 ∃b,runT P (crowd I w v) i=(.next (crowd b w' v),MemOp.ofEvents i g.frame.fn g.frame.place es)/\b.size=I.size/\(∀x,x≠i->x≠h->b[x]? =I[x]?)/\(∀y,I[h]? =some y->b[h]? =some (woken P g g' w' y))/\b[i]? =some g'/\
  (∀d o,DP P K R d o g'->deafBehind (Deaf T i) es=dC o->C3 P K Shun St B U R h ds (upd H i o) (T++MemOp.ofEvents i g.frame.fn g.frame.place es) b w' (upd q i d))/\
  (∀d,QuitsD P d (deafBehind (Deaf T i) es) g'->C3 P K Shun St B U R h (ds.erase i) H (T++MemOp.ofEvents i g.frame.fn g.frame.place es) b w' (upd q i d)):=by
 have b:i<I.size:=(cU.1 r).1;let⟨d1,d2,d3,_⟩:=C.dep i S;have b:(i==0)=false:=θ
 have C':=C.in F E;have G:∀x,x≠i->Deaf (T++MemOp.ofEvents i g.frame.fn g.frame.place es) x=Deaf T x:=λx f=>Deaf_other T (λz=>f z.symm) _ fM;have O:=E8 (c:=i) (fn:=g.frame.fn) (pos:=g.frame.place) C.past (λg l w b=>C.ss g l w b) c ξ X;have k:∀x,x≠i->x≠h->((I.map (woken P g g' w')).setIfInBounds i g')[x]? =I[x]? :=by
  intro x f A;rw[ku (λe=>f e.symm),sO];cases e:I[x]? with
  |none=>rfl
  |some y=>simp[woken_of_again (P:=P) (x:=g) (x':=g') (C'.fixed A e)]
 have a:((I.map (woken P g g' w')).setIfInBounds i g')[i]? =some g':=Cb ξ;have u:∀j,((I.map (woken P g g' w')).setIfInBounds i g').size<=j->Deaf (T++MemOp.ofEvents i g.frame.fn g.frame.place es) j=0:=λj Q=>by
  simp only[zb,Aq]at Q;rw[G j ω];exact C.above j Q
 have n:∀(d x:Nat)(y:aV),x≠h->x∉ds->((I.map (woken P g g' w')).setIfInBounds i g')[x]? =some y->Idle P K (St x) B (T++MemOp.ofEvents i g.frame.fn g.frame.place es) x (upd q i d x) y (U x):=by
  intro d x y f t p;have m:x≠i:=λz=>t (z▸S);rw[k x m f]at p;rw[upd_ne q d m];have:=C.idle x y f t p;cases e:U x with
  |none=>rw[e]at this;exact⟨this.1,by rw[G x m];exact this.2⟩
  |some s=>rw[e]at this;exact this
 refine⟨_,runT_crowd_go (sl:=v) r χ,ψ,k,λy p=>?_,a,λd o t D=>?_,λd W=>?_⟩
 .simp_all
 .refine⟨n d,λx f=>?_,C.nd,C'.chans,C.wf,C.inj,u,C.low,C.zL,C.ss,O,F⟩;by_cases e:x=i
  .subst e;exact⟨d1,d2,d3,g',a,by rw[upd_same,upd_same];exact t,by rw[Deaf_own,upd_same];exact D⟩
  .let⟨N,M,L,y,Y,J,V⟩:=C.dep x f;exact⟨N,M,L,y,ξ,by rw[upd_ne q d e,upd_ne H o e];exact J,by rw[G x e,upd_ne H o e];exact V⟩
 .refine⟨λx y f t p=>?_,λx f=>?_,C.nd.erase i,C'.chans,C.wf,C.inj,u,C.low,C.zL,C.ss,O,F⟩
  .by_cases e:x=i
   .subst e;rw[a]at p;obtain rfl:=Option.some.inj p;rw[d3,upd_same];exact⟨d2,by rw[Deaf_own];exact W⟩
   simp_all
  .have e:x≠i:=λz=>by subst z;exact(C.nd.mem_erase_iff.1 f).1 rfl
   let⟨N,M,L,y,Y,J,V⟩:=C.dep x (Hy f);exact⟨N,M,L,y,ξ,by rw[upd_ne q d e];exact J,ξ⟩
end
structure GK(K:cK)(Shun:dm)(R:qt):Prop where
 at':∀w d,K w->K (w.at d)
 st:∀w v,K (w.setCell R.st v)↔K w
 row:∀w,K w->ir w R.st.block/\(∃v,w.cell? R.st=some v)/\w.frozen? R.st=false
 sh:Shun (.cell R.st)
def Wv(R:qt)(w:aj)(m:Nat):World:=w.setCell R.st (.int .u64 (gv m 0))
section
variable{P:aG}{K Q:cK}{R:qt}{L:Nat}{ds:aN}{w:aj}{a g:aV}
def HC(m:Nat):(Wv R w m).heap.size=w.heap.size:=by simp[Wv,World.setCell]
def zg(G:GK K Shun R)(c:K w)(m:Nat):ji .u64 R.st (Wv R w m) (gv m 0):=by
 let⟨⟨v,a⟩,b⟩:=(G.row w c).2;exact⟨D6 _ _ _ a,by rw[Wv,YB];exact b⟩
def jA(G:GK K Shun R){m:Nat}:K (Wv R w m)↔K w:=G.st w _
def eG(G:GK K Shun R)(b:K w)(m:Nat){Z k:Nat}(a:w.heap[c]? =some (.chan Z #[] false k k false)):(Wv R w m).heap[c]? =w.heap[c]? :=GN (G.row w b).1 a
def nR(G:GK K Shun R)(d:K w)(m:Nat){Z k:Nat}(a:(Wv R w m).heap[c]? =some (.chan Z #[] false k k false)):w.heap[c]? =some (.chan Z #[] false k k false):=by
 unfold Wv at a;rw[heap_set]at a;let⟨cs,el,f,b⟩:=(G.row w d).1;by_cases e:R.st.block=c
 .rw[sJ e,<-e,b]at a;simp[mB]at a
 simp_all
theorem C3.by(G:GK K Shun R)(Y:R.st.block<B)(hm:L+ds.length<=9999)(E:∀i,i∈ds->H i<=2)(C:C3 P K Shun St B U R h ds H T I (Wv R w (L+ds.length)) q){i:Nat}{sl:qT}(N:I[i]? =some g)(W:i≠h)(F:g.status=.running)(hA:∀v m,I[h]? =some v->v.again (Wv R w m)=v)(hO:∀s f,U i=some s->AtIn P (i==0) K (St i) B s g f->∀v c,I[h]? =some v->s.has c->offersAt v c true=[]):
 ∃a O p b l,runT P (crowd I (Wv R w (L+ds.length)) sl) i=(.next (crowd a (Wv R w (L+b.length)) sl),O)/\(∀op∈O,op.g=i)/\a.size=I.size/\a[h]? =I[h]? /\(∀x,x≠i->p x=q x)/\(∀s,U i=some s->p i=0->∃f,AtIn P (i==0) K (St i) B s g f)/\
  C3 P K Shun St B U R h b l (T++O) a (Wv R w (L+b.length)) p/\(∀i,i∈b->l i<=2)/\b.length<=ds.length/\sumTo I.size p<sumTo I.size q:=by
 have o:K w:=(jA G).1 C.keep;by_cases n:i∈ds
 .let⟨d1,d2,d3,g',d4,d5,D⟩:=C.dep i n;rw[N]at d4;obtain rfl:=Option.some.inj d4;have M:i<I.size:=(cU.1 N).1;let⟨k,J,hD⟩:=d5.inv;have wk:∀(j:aV)(m:Nat)(a:jH),(∀y,I[h]? =some y->a[h]? =some (woken P g j (Wv R w m) y))->a.size=I.size->a[h]? =I[h]? :=λj m a hy M1=>by
   cases e:I[h]? with
   |none=>simp_all
   |some y=>rw[hy y e,woken_of_again (hA y m e)]
  have still:∀(j:aV)(es:dS)(z:Nat),stepG P false g (Wv R w (L+ds.length))=.go j (Wv R w (L+ds.length)) es->(∀e∈es,(∀x,(MemAct.ofEvent e).touch? =some x->x.kind=.atomic/\Shun x.loc)/\(MemAct.ofEvent e).low B)->uc (Deaf T i) es->DP P K R k z j->deafBehind (Deaf T i) es=dC z->z<=2->
   ∃a O p b l,runT P (crowd I (Wv R w (L+ds.length)) sl) i=(.next (crowd a (Wv R w (L+b.length)) sl),O)/\(∀op∈O,op.g=i)/\a.size=I.size/\a[h]? =I[h]? /\(∀x,x≠i->p x=q x)/\(∀s,U i=some s->p i=0->∃f,AtIn P (i==0) K (St i) B s g f)/\
   C3 P K Shun St B U R h b l (T++O) a (Wv R w (L+b.length)) p/\(∀i,i∈b->l i<=2)/\b.length<=ds.length/\sumTo I.size p<sumTo I.size q:=by
   intro j es z d f b hd X t;let⟨a,S,A,e3,Q,e5,e6,_⟩:=C.BB sl n N d C.keep (λ_ _ _ _ _=>rfl) f b;refine⟨a,_,upd q i k,ds,upd H i z,S,fM,A,wk j _ a Q A,λx r=>upd_ne q k r,λs hs=>ξ,e6 k z hd X,λx r=>?_,az _,gW M J (az _)⟩;by_cases e:x=i
   .subst e;rw[upd_same];exact t
   .rw[upd_ne H z e];simp_all
  have f:=E i n;rcases hD with ⟨_,j,d,b⟩|⟨t,_,j,d,b⟩|⟨t,_,j,d,b⟩|⟨t,_,e,_⟩|⟨t,_⟩|⟨t,_⟩|⟨t,_⟩
  .exact still j _ _ (d _ C.keep) sw (iQ sw) b (by rw[D];rfl) f
  .exact still j _ 1 (d _ C.keep) (c8 (jS rfl Y)) (iQ (c8 rfl)) b (by rw[D,t];rfl) ω
  .exact still j _ 2 (d _ C.keep) (c8 (jS rfl trivial)) (iQ (c8 rfl)) b (by rw[D,t];rfl) ω
  .obtain⟨m,V⟩:∃m,L+ds.length=m+1:=⟨L+ds.length-1,χ⟩
   let⟨j,d,hq⟩:=e m 0 ω ω (.inl rfl);have b:L+(ds.erase i).length=m:=χ
   have u:=d _ C.keep (by rw[V];exact zg G o _);rw[show(Wv R w (L+ds.length)).setCell R.st (.int .u64 (gv m 0))=Wv R w m from set_set _ _ _ _]at u;rw[t]at D;let⟨a,S,A,e3,Q,e5,_,d⟩:=C.BB sl n N u ((jA G).2 o) (λx s c r f=>by
    let⟨Z,_,e⟩:=C.chans x s c r f;have c:=nR G o _ e;rw[eG G o _ c,eG G o _ c]) (pg (cL G.sh Y) (cL G.sh Y)) (mR (by rw[D];decide) ψ)
   refine⟨a,_,upd q i k,ds.erase i,H,by rw[b];exact S,fM,A,wk j _ a Q A,λx r=>upd_ne q k r,λs hs=>ξ,by rw[b];exact d k (by rw[D];exact hq),λx r=>E x (Hy r),List.length_erase_le,gW M J (az _)⟩
  .omega
  .omega
  .omega
 .let⟨_,O,p,S,A,e3,Q,e5,e6,d,a⟩:=C.L8 (sl:=sl) N W n F (λv r=>hA v _ r) hO;grind
theorem mF(G:GK K Shun R)(hB:R.st.block<B)(o8:nb<=9999)(W:a.status=.running):∀(M:Nat)(I:jH)(T:Trace)(q:bU)(u:qT)(b:Nat)(ds:aN)(H:bU),sumTo I.size q=M->I[h]? =some a->L+ds.length<=nb->(∀i,i∈ds->H i<=2)->C3 P K Shun St B U R h ds H T I (Wv R (w.at b) (L+ds.length)) q->
 ∃N j n d f o J Q k r,runNT P N (crowd I (Wv R (w.at b) (L+ds.length)) u) T=(.next (crowd j (Wv R (w.at n) (L+k.length)) f),J)/\stepT P (crowd j (Wv R (w.at n) (L+k.length)) f)=runT P (crowd j (Wv R (w.at d) (L+k.length)) o) h/\j.size=I.size/\j[h]? =some a/\L+k.length<=nb/\(∀i,i∈k->r i<=2)/\
  C3 P K Shun St B U R h k r J j (Wv R (w.at d) (L+k.length)) Q/\Deaf J h=Deaf T h:=by
 intro M;induction M using Nat.strongRecOn with
 |_ M Z=>
  intro I T q u b ds H M A hL y C;let⟨i,_,d,o,hi,hg,g⟩:=crowd_pick (P:=P) (w:=Wv R (w.at b) (L+ds.length)) (sl:=u) (C.awake A (.inl W)) ⟨h,a,A,W⟩;have l:stepT P (crowd I (Wv R (w.at b) (L+ds.length)) u)=runT P (crowd I (Wv R (w.at d) (L+ds.length)) o) i:=g;have Y:C3 P K Shun St B U R h ds H T I (Wv R (w.at d) (L+ds.length)) q:=C.in (G.at' _ d C.keep) (λ_ _ _ _ _=>rfl);by_cases e:i=h
  .subst e;exact⟨0,I,b,d,u,o,T,q,ds,H,rfl,l,rfl,A,hL,y,Y,rfl⟩
  .let⟨j,O,Q,k,r,X,z,V,_,_,_,C',x,_,a⟩:=Y.by (sl:=o) G hB ω y hi e hg (λgx m p=>by rw[A]at p;obtain rfl:=Option.some.inj p;exact again_running _ (.inl W))
    (λs a _ _ gx c p _=>by rw[A]at p;obtain rfl:=Option.some.inj p;exact offersAt_of_not_blocked χ _ _)
   let⟨N,D,n,E,f,t,J,S,F,v,h1,h2,h3,h4,h5,h6,h7,h8⟩:=Z (sumTo j.size Q) χ j _ Q o d k r rfl χ ω x C';exact⟨N+1,D,n,E,f,t,J,S,F,v,by simp only[runNT,l,X];exact h1,h2,by rw[h3,V],h4,h5,h6,h7,by rw[h8];exact Deaf_other T e _ z⟩
def fP(P:aG)(Post:qz)(K Q:cK)(Shun:dm)(St:Nat->Loc->Prop)(U:Nat->Option Seat)(R:qt)(L nb h n dl:Nat)(g:aV)(w:aj):Prop:=
 ∀(d:Nat)(I:jH)(T:Trace)(q:bU)(sl:qT)(ds:aN)(H:bU),I.size=n->I[h]? =some g->L+ds.length<=nb->(∀i,i∈ds->H i<=2)->Q w->Deaf T h=dl->
   C3 P K Shun St w.heap.size U R h ds H T I (Wv R (w.at d) (L+ds.length)) q->Goal P Post (crowd I (Wv R (w.at d) (L+ds.length)) sl) T
theorem fP.go(G:GK K Shun R)(o:nb<=9999)(t:a.status=.running)(x:∀w d,Q w->Q (w.at d))(b:∀d,K (w.at d)->Q (w.at d)->∃g' w' es,(∀m,stepG P (h==0) a (Wv R (w.at d) m)=.go g' (Wv R w' m) es)/\K w'/\Q w'/\(∀(c Z k:Nat),w.heap[c]? =some (Obj.chan Z #[] false k k false)->w'.heap[c]? =w.heap[c]?)/\w.heap.size<=w'.heap.size/\
 (∀e∈es,wE Shun (nG St (λg=>(U g).isSome)) w'.heap.size h e)/\fP P Post K Q Shun St U R L nb h n (deafBehind dl es) g' w'):fP P Post K Q Shun St U R L nb h n dl a w:=by
 intro a I T q h ds H e m n g u v C;have y:R.st.block<w.heap.size:=(G.row _ ((jA G).1 C.keep)).1.lt;let⟨N,_,_,d,_,f,_,_,j,l,E,D,e,r,B,A,p,z⟩:=mF G y o t _ I T q h a ds H rfl m n g C;have a:K (w.at d):=(jA G).1 p.keep;let⟨g',w',es,t,g,q,o,h,n,m⟩:=b d a (x _ _ u);let⟨C',e⟩:=(p.raise h).own (a':=g') (w':=Wv R w' (L+j.length)) r ((jA G).2 g) (λi s c b h=>by
  let⟨Z,k,d⟩:=p.chans i s c b h;have h:=nR G a _ d;have d:w.heap[c]? =some (.chan Z #[] false k k false):=h;have b:=o c Z k d;rw[eG G a _ h,eG G g _ (b.trans d)];exact b) n
 refine Goal.back (lE E (D.trans (runT_crowd_go (sl:=f) r (t _)))) ?_;exact m w'.drawn _ _ _ f j l ξ e B A q (by rw[Deaf_own,z,v]) C'
theorem JJ(G:GK K Shun R)(f:nb<=9999)(i:∀w d,Q w->Q (w.at d))(o:∀w w' es,D w w' es->DR K Shun (nG St (λg=>(U g).isSome)) h w w' es/\(Q w->Q w'))(l:∀w d,D w (w.at d) #[])(j:∀w w' es a,D w w' es->(∀e∈a,e∈es)->D w w' a)(b:JW D R.st):
 aB P (h==0) D (fP P Post K Q Shun St U R L nb h n dl):=by
 refine⟨λg w d x u I T q a ds H t s p n h=>x u I T q a ds H t s p n (i (w.at d) w.drawn h),l,j,λg w g a=>?_⟩;refine fP.go G f g i λd f g=>?_;let⟨g',w',es,f1,f2,f3,f4⟩:=a d;let⟨r,a⟩:=o _ _ _ f2;refine⟨g',w',es,λm=>f4 _ _ b (G.row _ f).1,r.keep f,a g,λc Z k a=>r.chan c Z k a,r.size,λe a=>(r.ev e a).1,?_⟩;rw[deafBehind_still (λe a=>(r.ev e a).2)];exact f3
end
end Go.Proofs.YtobagnjnbmgidabGreatDoor
