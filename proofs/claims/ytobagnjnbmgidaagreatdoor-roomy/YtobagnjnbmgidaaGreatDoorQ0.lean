import Derived.Test.YtobagnjnbmgidaaGreatDoorZ1
import Derived.Conc.Listed
import Derived.Test.YtobagnjnbmgidaaGreatDoorChecked
import Derived.Conc.TokenWords
import Derived.Laws.AppendOwn
import Derived.Maps.AppendAt
import Derived.Lib.Overlaps
import Derived.Lib.AppendZerosOnto
import Derived.Conc.LeavingOf
import Derived.RunNT
set_option linter.all false
set_option maxHeartbeats 0
set_option maxRecDepth 100000
namespace Go.Proofs.YtobagnjnbmgidaaGreatDoor
open Go.Conc Go.RowKit Tryz
open Go.ConcN (sumTo upd sumTo_upd upd_ne upd_same)
variable{z:Addr}{ats:Array TypeId}{cl:Bool}{d:Deferred}{E N ca cb dc la lb off sc sl x:Nat}{α γ:Type}{fr:aC}{y:aV}{r:aN}{R Z:gd}{vs xs:iO}
variable{Ok Wy:dh}{main:Bool}{L' rest cc:aN}{C C':List Addr}{w' I abh wI:aj}{p a1 a2 a3 a4 a5:Addr}{v v' v1 v2 v3 v4 v5:ay}{n i B h dl B' j c nb:Nat}{D:yW}{b:aC}{k F:eC}{cs:cO}{O:g8}{f:FuncId}{fn:Func}{U:gd}{Post:qz}{Shun Still:dm}{Mem H pH:p8}{Y:Nat->Option Seat}{T u:Trace}{S:jH}{q sg:bU}{Ev:Event->Prop}{A:Act}{Anchor Φ Q':kr}{st:oJ}{St tW:Nat->Loc->Prop}{K':cK}{M':Nat->Goroutine->Prop}{g':aV}
def Yk(e:Event):Prop:=∀(quiet:FuncId->Bool)(q:Bool)(kept:dS),(seenStep quiet (q,kept) e).2=kept
def Yk.loc{e:Event}(h:Yk e)(z:Addr):e.loc≠.cell z:=λa=>by
 have:=h (λ_=>false) false #[];simp[seenStep,a]at this
def Cr(quiet:FuncId->Bool)(q:Bool)(kept:dS)(a e:Event)(h:e∈(seenStep quiet (q,kept) a).2):e∈kept\/(e=a/\¬Yk a):=by
 by_cases b:(seenStep quiet (q,kept) a).2=kept
 .rw[b]at h;exact .inl h
 have c:¬Yk a:=λz=>b (z quiet q kept);simp only[seenStep]at h;split at h
 .exact .inl h
 .split at h
  .exact .inl h
  .rcases Array.mem_push.1 h with h|h
   .exact .inl h
   .exact .inr ⟨h,c⟩
def zu(quiet:FuncId->Bool):∀(l:TR)(x:Bool×Array Event)(e:Event),e∈(l.foldl (seenStep quiet) x).2->e∈x.2\/¬Yk e:=by
 intro l;induction l with
 |nil=>exact λ_ _ h=>.inl h
 |cons a l b=>
  intro x e h;rcases b _ _ h with h|h
  .rcases Cr quiet x.1 x.2 a e h with h|⟨rfl,h⟩
   .exact .inl h
   .exact .inr h
  .exact .inr h
def zm{P:aG}{fn:FuncId}{a:Act}{o:Oper}{w:aj}{e:Event}(h:e∈listed P fn a o w):e∈(execOp a.eval o).events P w #[]/\¬Yk e:=by
 refine⟨Ly h,?_⟩;unfold listed at h;rw[seen_def]at h;rcases zu _ _ (_,#[]) e h with h|h
 .simp at h
 .exact h
def Dc(f:FuncId):Yk ⟨.mark (.extern f),false,true⟩:=λ_ _ _=>rfl
def aB.W5{P:aG}{V:gi}{a:Act}{w:aj}(F:aB P main D V){o:Oper}(p:O[i]? =some o)(n:Region.wanted o (yielded O a.tmps)=true)(q:b.kind≠.early)(h:∀d,∀K:Act->World->Prop,(∀m w' (S:dS),(∀e∈raw P a o (w.at d),e∈S\/Yk e)->D (w.at d) (w'.at d) S/\V (G (b.at m (.inRegion O rest::k)) cs) w'->K m (w'.at d))->uponK o a K ((execOp a.eval o).run P (w.at d))):
 V (G (b.at a (.inRegion O (i::rest)::k)) cs) w:=
 F.step _ _ rfl λd=>by
  have f:=h d (λm W=>∃S:Array Event,(∀e∈raw P a o (w.at d),e∈S\/Yk e)/\D (w.at d) W S/\V (G (b.at m (.inRegion O rest::k)) cs) W) λm w' S h x=>⟨S,h,x.1,F.at' _ _ _ x.2⟩
  have g:∀S:Array Event,(∀e∈raw P a o (w.at d),e∈S\/Yk e)->∀e∈listed P b.fn a o (w.at d),e∈S:=λS i e j=>by
   let⟨h,b⟩:=zm j;exact(i e h).resolve_right b
  cases c:(execOp a.eval o).run P (w.at d)with
  |halt _ _=>rw[c]at f;exact f.elim
  |ok x a=>
   rw[c]at f;cases x
   case value v=>
    let⟨S,b,a,d⟩:=f;refine⟨_,_,_,stepG_value p n q c,F.less _ _ _ _ a (g S b),d,λz v h i=>?_⟩;let⟨k,l⟩:=rP v c (λe j=>(b e j).elim (h _ _ _ a e) λy=>y.loc z) i;rw[stepG_value p n q k];unfold listed;unfold raw at l;rw[l]
   case skip=>
    let⟨S,b,a,d⟩:=f;refine⟨_,_,_,stepG_none p n q c,F.less _ _ _ _ a (g S b),d,λz v h i=>?_⟩;let⟨k,l⟩:=rP v c (λe j=>(b e j).elim (h _ _ _ a e) λy=>y.loc z) i;rw[stepG_none p n q k];unfold listed;unfold raw at l;rw[l]
   all_goals exact f.elim
abbrev Env:=List (Nat×Value)
def look:Env->Nat->Option Value
 |[],_=>none
 |(k,v)::E,n=>bif k==n then some v else look E n
def ev(E:Env):Operand->Value
 |.tmp t=>(look E t).getD undef
 |.const v=>v
 |.global g=>.pointer (some ⟨g,0,none⟩)
 |.func f=>.func (.func f) #[] #[]
def kn(E:Env):Operand->Bool
 |.tmp t=>(look E t).isSome
 |_=>true
abbrev Ix:=Nat×Nat
structure aH where
 ad:Ix->Addr
 vs:List Value
 vl:Nat->Nat->Value
 n:Nat
 k:Nat
 wr:Bool
 row:Option (Nat×TypeId×Nat)
abbrev aW:=List aH
def aH.has(r:aH)(j:Ix):Prop:=j.1<r.n/\j.2<r.k
def nth:List aH->Nat->Option aH
 |[],_=>none
 |r::_,0=>some r
 |_::l,n+1=>nth l n
def cG:List aH->Nat->aH->List aH
 |[],_,_=>[]
 |_::l,0,r=>r::l
 |x::l,n+1,r=>x::cG l n r
def plain:Value->Bool
 |.agg _=>false
 |.tuple _=>false
 |_=>true
def ez(f:Nat->Nat->Value)(j l:Nat)(x:ay):Nat->Nat->Value:=λa b=>bif b==l&&a==j then x else f a b
def aH.get(r:aH)(j:Ix):Value:=match r.vs with
 |[]=>r.vl j.1 j.2
 |v::vs=>(v::vs).getD j.2 undef
def aH.set(r:aH)(j:Ix)(x:ay):aH:=match r.vs with
 |[]=>⟨r.ad,[],ez r.vl j.1 j.2 x,r.n,r.k,r.wr,r.row⟩
 |v::vs=>⟨r.ad,(v::vs).set j.2 x,r.vl,r.n,r.k,r.wr,r.row⟩
def aH.may(r:aH)(j:Ix):Bool:=match r.vs with
 |[]=>true
 |v::vs=>Nat.blt j.2 (v::vs).length&&r.n==1
def aH.zp(r:aH)(j:Ix)(x:ay):(r.set j x).ad=r.ad:=by unfold aH.set;grind
def aH.Ph(r:aH)(j:Ix)(x:ay):(r.set j x).n=r.n:=by unfold aH.set;grind
def aH.Pj(r:aH)(j:Ix)(x:ay):(r.set j x).k=r.k:=by unfold aH.set;grind
def aH.Ez(r:aH)(j:Ix)(x:ay):(r.set j x).wr=r.wr:=by unfold aH.set;grind
def aH.H7(r:aH)(j:Ix)(x:ay):(r.set j x).row=r.row:=by unfold aH.set;grind
def aH.vA(r:aH)(j:Ix)(x:ay)(k:Ix):(r.set j x).has k↔r.has k:=by unfold aH.has;rw[aH.Ph,aH.Pj]
def aH.Jf(r:aH)(j k:Ix)(x:ay)(f:r.may j=true)(m:r.has j)(l:r.has k):(r.set j x).get k=if k=j then x else r.get k:=by
 let⟨i,a⟩:=j;let⟨h,e⟩:=k;let⟨q,vs,g,n,c,wr,d⟩:=r;cases vs with
 |nil=>
  simp only[aH.set,aH.get,ez];grind
 |cons v vs=>
  simp only[aH.may,bZ]at f;let⟨_,j⟩:=f;have j:a<(v::vs).length:=ξ
  have j:n=1:=ξ
  have p:i=0:=by have:=m.1;simp_all
  have o:h=0:=by have:=l.1;simp_all
  subst p;subst o;have b:∃u us,(v::vs).set a x=u::us:=by cases a<;>exact⟨_,_,rfl⟩
  let⟨u,us,h⟩:=b;have b:(aH.set ⟨q,v::vs,g,n,c,wr,d⟩ (0,a) x).get (0,e)=((v::vs).set a x).getD e undef:=by
   simp only[aH.set,aH.get,h]
  rw[b];by_cases b:e=a
  .grind
  .rw[af (by simp[b])];simp only[aH.get,ni,List.getElem?_set_ne (λz=>b z.symm)]
abbrev Hint:=Nat×Ix×Bool
structure lW where
 hs:List Hint
 M:List aH
 c:Nat
 eqs:List (Addr×Addr)
 cW:List (Nat×Nat)
def lW.yK(m:lW)(hs:List Hint)(M:aW)(a b:Addr)(l:Bool)(j n:Nat):lW:=⟨hs,M,m.c,(a,b)::m.eqs,bif l then m.cW else(j,n)::m.cW⟩
def Yr(b:Nat)(t:TypeId)(cs:gd):aH:=⟨λj=>⟨b,j.2,none⟩,cs.toList,λ_ _=>undef,1,cs.size,true,match cs.toList with|[]=>none|_::_=>some (b,t,cs.size)⟩
def dw{α:Type}(P:aG)(B:Nat):Sem α->lW->Option (α×lW)
 |.pure a,s=>some (a,s)
 |.load _ a k,s=>match s.hs with
  |(i,j,l)::hs=>match nth s.M i with
   |some r=>bif Nat.blt j.2 r.k&&(!l||Nat.blt j.1 r.n)then dw P B (k (r.get j)) (s.yK hs s.M a (r.ad j) l j.1 r.n)else none
   |none=>none
  |[]=>none
 |.store _ a v k,s=>match s.hs with
  |(i,j,l)::hs=>match nth s.M i with
   |some r=>bif r.wr&&plain v&&r.may j&&(Nat.blt j.2 r.k&&(!l||Nat.blt j.1 r.n))then dw P B k (s.yK hs (cG s.M i (r.set j v)) a (r.ad j) l j.1 r.n)else none
   |none=>none
  |[]=>none
 |.new o k,s=>match o with
  |.cells cs t (0,0)=>dw P B (k (B+s.c)) {s with M:=Yr (B+s.c) t cs::s.M,c:=s.c+1}
  |_=>none
 |.program k,s=>dw P B (k P) s
 |.mark (.extern _) k,s=>dw P B k s
 |_,_=>none
def cV{α:Type}(P:aG):Sem α->Option α
 |.pure a=>some a
 |.program k=>cV P (k P)
 |_=>none
def pI(w:aj)(g:Nat)(e:TypeId)(n:Nat):Prop:=∃Z,w.heap[g]? =some (.cells Z e (0,0))/\Z.size=n
def pI.set{w:aj}{g:Nat}{e:TypeId}(h:pI w g e n)(a:Addr)(v:ay):pI (w.setCell a v) g e n:=by
 let⟨Z,a,b⟩:=h;unfold pI;simp only[World.setCell,sU,a];grind
def pI.alloc{w:aj}{g n:Nat}{e:TypeId}(h:pI w g e n)(o:Obj):pI (w.alloc o) g e n:=by
 let⟨Z,a,b⟩:=h;exact⟨Z,by rw[Below.heap_alloc _ _ _ ((cU.1 a).1)];exact a,b⟩
structure Sat(Ok:dh)(w:aj)(M:aW):Prop where
 val:∀i r,nth M i=some r->∀j,r.has j->w.cell? (r.ad j)=some (r.get j)
 ok:∀i r,nth M i=some r->∀j,r.has j->Ok (r.ad j) false/\(r.wr=true->Ok (r.ad j) true/\w.frozen? (r.ad j)=false)
 sep:∀i r i' r',nth M i=some r->nth M i'=some r'->r.wr=true->∀j j',r.has j->r'.has j'->r.ad j=r'.ad j'->i=i'/\j=j'
 row:∀i r,nth M i=some r->∀g e n,r.row=some (g,e,n)->r.has (0,0)/\(r.ad (0,0)).block=g/\pI w g e n
def Wr(M:aW)(a:Addr):Prop:=∃i r j,nth M i=some r/\r.wr=true/\r.has j/\r.ad j=a
structure Fr(W:Addr->Prop)(w w':aj):Prop where
 size:w.heap.size<=w'.heap.size
 cell:∀a:Addr,a.block<w.heap.size->¬W a->w'.cell? a=w.cell? a/\w'.frozen? a=w.frozen? a
 blk:∀k:Nat,k<w.heap.size->(∀a:Addr,a.block=k->¬W a)->w'.heap[k]? =w.heap[k]?
 obj:∀(c:Nat)(o:Obj),w.heap[c]? =some o->(∀cs t f,o≠Obj.cells cs t f)->w'.heap[c]? =some o
 row:∀g e n,pI w g e n->pI w' g e n
def Fr.refl(W:Addr->Prop)(w:aj):Fr W w w:=⟨az _,λ_ _ _=>τ,λ_ _ _=>rfl,λ_ _ h _=>h,λ_ _ _ h=>h⟩
def Fr.trans{W i:Addr->Prop}{w f b:aj}(h:Fr W w f)(d:Fr i f b)(j:∀a,i a->W a\/w.heap.size<=a.block):Fr W w b:=by
 refine⟨aT h.size d.size,λa f b=>?_,λk i b=>?_,λc o l b=>d.obj c o (h.obj c o l b) b,λg e n z=>d.row g e n (h.row g e n z)⟩
 .have c:=h.cell a f b;have c:=d.cell a (ga f h.size) (λx=>(j a x).elim b ω);simp_all
 .rw[<-h.blk k i b];exact d.blk k (ga i h.size) (λa f x=>(j a x).elim (b a f) ω)
def DX.trans{Ok:dh}{w f d:aj}{i g:dS}(h:DX Ok w f i)(b:DX Ok f d g):DX Ok w d (i++g):=by
 refine⟨λe g=>?_,aT h.size b.size,λc o f d=>b.obj c o (h.obj c o f d) d,λa d f=>?_,λk c d=>?_,?_⟩
 .rcases nQ.1 g with x|x
  .rcases h.ev e x with ⟨a,i,g,l,j⟩|y
   .exact .inl ⟨a,i,g,l,ga j b.size⟩
   .exact .inr y
  .exact b.ev e x
 .have i:=h.cell a d f;have g:=b.cell a d (ga f h.size);simp_all
 .rw[<-h.blk k c d];exact b.blk k (ga c h.size) d
 .exact⟨b.rest.1.trans h.rest.1,b.rest.2.1.trans h.rest.2.1,b.rest.2.2.trans h.rest.2.2⟩
def dX:∀(M:aW)(i:Nat)(r:aH)(k:Nat),nth (cG M i r) k=if k=i then(nth M i).map (λ_=>r)else nth M k
 |[],i,r,k=>by simp[cG,nth]
 |x::l,0,r,k=>by cases k<;>simp[cG,nth]
 |x::l,i+1,r,k=>by
  cases k with
  |zero=>rfl
  |succ k=>simp[cG,nth,dX l i r k]
def iB{M:aW}{R s:aH}{k:Nat}(h:nth (R::M) k=some s):(∃a,k=a+1/\nth M a=some s)\/(k=0/\s=R):=by
 cases k with
 |zero=>simp[nth]at h;simp_all
 |succ k=>exact .inl ⟨k,rfl,h⟩
def qH:∀(M:aW)(k:Nat)(r:aH),nth M k=some r->k<M.length
 |[],k,r=>by simp[nth]
 |x::l,0,r=>ψ
 |x::l,k+1,r=>λh=>by have:=qH l k r h;simp;omega
section
variable{w:aj}{M:aW}
def Sat.lt(h:Sat Ok w M){r:aH}(b:nth M i=some r){j:Ix}(a:r.has j):(r.ad j).block<w.heap.size:=au (h.val i r b j a)
def Sat.set(h:Sat Ok w M){i:Nat}{r:aH}(q:nth M i=some r)(J:r.wr=true){j:Ix}(z:r.has j)(P:r.may j=true)(v:ay):
 Sat Ok (w.setCell (r.ad j) v) (cG M i (r.set j v)):=by
 have key:∀k s,nth (cG M i (r.set j v)) k=some s->∃a,nth M k=some a/\s.ad=a.ad/\(∀l,s.has l->a.has l)/\s.wr=a.wr/\(k=i->s=r.set j v/\a=r)/\(k≠i->s=a):=by
  intro k s c;rw[dX]at c;split at c
  .rename_i e;subst e;rw[q]at c;simp at c;subst c;exact⟨r,q,aH.zp ..,λl h=>(aH.vA ..).1 h,aH.Ez ..,λ_=>τ,λx=>absurd rfl x⟩
  simp_all
 have Q:=h.val i r q j z;refine⟨λk s c l d=>?_,λk s c l d=>?_,λk s I N c E O l H d D K=>?_,λk s c g e n F=>?_⟩
 .let⟨a,f,t,m,A,y,u⟩:=key k s c;by_cases b:k=i
  .let⟨f1,f2⟩:=y b;subst b;subst f2;rw[t,f1,aH.Jf _ _ _ _ P z (m l d)];by_cases p:l=j
   .subst p;rw[World.cell?_setCell_same' _ _ _ (by rw[Q];rfl)];simp
   .have o:a.ad j≠a.ad l:=λe=>p (h.sep k a k a q q J j l z (m l d) e).2.symm;rw[qa _ _ _ _ o,af p];exact h.val k a q l (m l d)
  .obtain rfl:=u b;have o:r.ad j≠s.ad l:=λe=>b (h.sep i r k s q f J j l z d e).1.symm;rw[qa _ _ _ _ o];exact h.val k s f l d
 .let⟨a,f,t,m,A,y,u⟩:=key k s c;rw[t,A,YB];exact h.ok k a f l (m l d)
 .let⟨a,f,t,m,A,y,u⟩:=key k s c;let⟨L,R,f1,f2,f3,f4,f5⟩:=key I N E;rw[t,f1]at K;exact h.sep k a I L f R ξ l H (m l d) (f2 H D) K
 .let⟨a,f,t,m,A,y,u⟩:=key k s c;by_cases b:k=i
  .let⟨f1,f2⟩:=y b;subst b;subst f2;subst f1;rw[aH.H7]at F;let⟨C,G,B⟩:=h.row k a f g e n F;exact⟨(aH.vA ..).2 C,ξ,B.set _ _⟩
  .obtain rfl:=u b;let⟨C,G,B⟩:=h.row k s f g e n F;exact⟨C,G,B.set _ _⟩
def Sat.new(h:Sat Ok w M)(cs:gd)(t:TypeId)(o:∀(a:Addr)(wr:Bool),w.heap.size<=a.block->Ok a wr):Sat Ok (w.alloc (.cells cs t (0,0))) (Yr w.heap.size t cs::M):=by
 refine⟨λk s i l b=>?_,λk s i l b=>?_,λk s J E i p r l y b d q=>?_,λk s i g e n m=>?_⟩
 .rcases iB i with ⟨f,_,c⟩|⟨_,rfl⟩
  .rw[Hx _ _ _ (h.lt c b)];exact h.val f s c l b
  .have d:l.2<cs.size:=b.2;show(w.alloc (.cells cs t (0,0))).cell? ⟨w.heap.size,l.2,none⟩=some (aH.get (Yr w.heap.size t cs) l);have m:aH.get (Yr w.heap.size t cs) l=cs.toList.getD l.2 undef:=by
    cases u:cs.toList with
    |nil=>simp_all
    |cons v vs=>simp only[Yr,aH.get,u]
   simp_all
 .rcases iB i with ⟨f,_,c⟩|⟨_,rfl⟩
  .have F:(w.alloc (.cells cs t (0,0))).frozen? (s.ad l)=w.frozen? (s.ad l):=World.frozen?_alloc_past _ _ _ (h.lt c b);rw[F];exact h.ok f s c l b
  .refine⟨o _ _ (az _),λ_=>⟨o _ _ (az _),?_⟩⟩;show(w.alloc (.cells cs t (0,0))).frozen? ⟨w.heap.size,l.2,none⟩=false;simp
 .rcases iB i with ⟨f,L,c⟩|⟨I,rfl⟩
  .rcases iB p with ⟨z,H,j⟩|⟨A,rfl⟩
   .have:=h.sep f s z E c j r l y b d q;simp_all
   .have:=h.lt c b;rw[q]at this;exact absurd this (Ap _)
  .rcases iB p with ⟨z,H,j⟩|⟨A,rfl⟩
   .have:=h.lt j d;rw[<-q]at this;exact absurd this (Ap _)
   .refine⟨I.trans A.symm,?_⟩;have K:l.2=y.2:=cT Addr.off q;have G:=b.1;have x:=d.1;simp only[Yr]at G x;grind
 .rcases iB i with ⟨f,_,c⟩|⟨_,rfl⟩
  .let⟨D,C,B⟩:=h.row f s c g e n m;exact⟨D,C,B.alloc _⟩
  .simp only[Yr]at m;split at m
   .cases m
   .rename_i v vs u;cases m;have:cs.toList.length=vs.length+1:=by rw[u];rfl
    rw[za]at this;refine⟨⟨aD,by simp only[Yr];omega⟩,rfl,cs,?_,rfl⟩;show(w.heap.push (.cells cs t (0,0)))[w.heap.size]? =_;simp
end
def zx{P:aG}{m:Mode}{a:Addr}{k:Sem α}{w:aj}{es:dS}{x:ay}(b:plain v=true)(d:w.cell? a=some x)(c:w.frozen? a=false):
 (Sem.store m a v k).runT P w es=k.runT P (w.setCell a v) (es.push ⟨.cell a,true,m==.atomic⟩):=by
 cases v<;>first|(simp[plain]at b;done)|simp[Sem.runT,d,c]
def aE{β:Type}{c:Bool}{x:Option β}{y:β}(h:(bif c then x else none)=some y):c=true/\x=some y:=by
 grind
def gI{P:aG}:∀(s:Sem α)(m c:lW)(x:α),dw P B s m=some (x,c)->(∀p∈m.eqs,p∈c.eqs)/\(∀p∈m.cW,p∈c.cW):=by
 have e:∀(m:lW)(e:List Hint)(M:aW)(a b:Addr)(l:Bool)(j n:Nat),(∀p∈m.eqs,p∈(m.yK e M a b l j n).eqs)/\(∀p∈m.cW,p∈(m.yK e M a b l j n).cW):=λm e M a b l j n=>
  ⟨λp f=>aP _ f,λp f=>by cases l<;>simp[lW.yK,f]⟩
 intro s;induction s with
 |pure a=>intro m c x h;simp[dw]at h;simp_all
 |load md a k d=>
  intro m c x h;simp only[dw]at h;grind
 |store md a v k d=>
  intro m c x h;simp only[dw]at h;grind
 |new o k d=>
  intro m c x h;simp only[dw]at h;split at h
  .have a:=d _ _ _ _ h;exact a
  .cases h
 |program k d=>intro m c x h;exact d _ _ _ _ h
 |mark mk k d=>
  intro m c x h;cases mk<;>simp only[dw]at h<;>first|exact d _ _ _ h|cases h
 |_=>intros;simp_all [dw]
structure Inv(Ok:dh)(B:Nat)(w:aj)(m:lW):Prop where
 sat:Sat Ok w m.M
 sz:w.heap.size=B+m.c
def Wr.put{M:aW}{r:aH}{l:Ix}(g:nth M i=some r){a:Addr}(h:Wr (cG M i (r.set l v)) a):Wr M a:=by
 let⟨k,s,j,b,f,d,c⟩:=h;rw[dX]at b;split at b
 .rename_i e;subst e;rw[g]at b;simp at b;subst b;rw[aH.Ez]at f;rw[aH.vA]at d;rw[aH.zp]at c;exact⟨k,r,j,g,f,d,c⟩
 .exact⟨k,s,j,b,f,d,c⟩
def Wr.cons{M:aW}{b:Nat}{t:TypeId}{cs:gd}{a:Addr}(h:Wr (Yr b t cs::M) a):Wr M a\/b<=a.block:=by
 let⟨k,s,j,a,f,e,c⟩:=h;rcases iB a with ⟨d,_,g⟩|⟨_,rfl⟩
 .exact .inl ⟨d,s,j,g,f,e,c⟩
 .subst c;exact .inr (az _)
def xM{x:Event}{es S:dS}(h:∀e∈es,e∈S\/Yk e):∀e∈#[x]++es,e∈#[x]++S\/Yk e:=λe a=>by
 grind
def AH{P:aG}(hB:∀(a:Addr)(wr:Bool),B<=a.block->Ok a wr):∀(s:Sem α)(m F:lW)(x:α),dw P B s m=some (x,F)->
 (∀p∈F.eqs,p.1=p.2)->(∀p∈F.cW,p.1<p.2)->∀(w:aj)(es:dS),Inv Ok B w m->
 ∃w' c S,Inv Ok B w' F/\(∀d,s.runT P (w.at d) es=(.ok x (w'.at d),es++c))/\((∀e∈c,e∈S\/Yk e)/\∀d,DX Ok (w.at d) (w'.at d) S)/\Fr (Wr m.M) w w'/\(∀a,Wr F.M a->Wr m.M a\/w.heap.size<=a.block):=by
 intro s;induction s with
 |pure a=>
  intro m F x h D q w es u;simp[dw]at h;obtain⟨rfl,rfl⟩:=h;exact⟨w,#[],#[],u,λd=>φ,⟨ψ,λd=>DX.still d ψ⟩,Fr.refl _ _,λ_ h=>.inl h⟩
 |load md a k H=>
  intro m F x h D q w es u;simp only[dw]at h;split at h
  .rename_i i j l hs W;split at h
   .rename_i r L;let⟨I,h⟩:=aE h;have C:=gI _ _ _ _ h;have Z:a=r.ad j:=D (a,r.ad j) (C.1 (a,r.ad j) (by simp[lW.yK]));simp only[bZ]at I;have N:r.has j:=by
     refine⟨?_,by simpa using I.1⟩;cases l with
     |true=>simpa using I.2
     |false=>exact q (j.1,r.n) (C.2 (j.1,r.n) (by simp[lW.yK]))
    subst Z;have O:=u.sat.val i r L j N;let⟨w',c,S,A,y,E,K,J⟩:=H _ _ _ _ h D q w (es.push ⟨.cell (r.ad j),false,md==.atomic⟩) ⟨u.sat,u.sz⟩;refine⟨w',#[⟨.cell (r.ad j),false,md==.atomic⟩]++c,#[⟨.cell (r.ad j),false,md==.atomic⟩]++S,A,λd=>?_,⟨xM E.1,λd=>DX.trans (DX.still d (λe C=>?_)) (E.2 d)⟩,K,J⟩
    .have U:(w.at d).cell? (r.ad j)=some (r.get j):=O;simp only[Sem.runT,U];rw[y d];simp
    .simp at C;subst C;exact Rt O (u.sat.ok i r L j N).1
   .cases h
  .cases h
 |store md a v k H=>
  intro m F x h D q w es u;simp only[dw]at h;split at h
  .rename_i i j l hs W;split at h
   .rename_i r L;let⟨I,h⟩:=aE h;have C:=gI _ _ _ _ h;have Z:a=r.ad j:=D (a,r.ad j) (C.1 (a,r.ad j) (by simp[lW.yK]));simp only[bZ]at I;let⟨⟨⟨T,hp⟩,Q⟩,I⟩:=I;have N:r.has j:=by
     refine⟨?_,by simpa using I.1⟩;cases l with
     |true=>simpa using I.2
     |false=>exact q (j.1,r.n) (C.2 (j.1,r.n) (by simp[lW.yK]))
    subst Z;have O:=u.sat.val i r L j N;have V:=(u.sat.ok i r L j N).2 T;have M:(w.setCell (r.ad j) v).heap.size=w.heap.size:=ψ
    let⟨w',c,S,A,y,E,K,J⟩:=H _ _ _ h D q (w.setCell (r.ad j) v) (es.push ⟨.cell (r.ad j),true,md==.atomic⟩) ⟨u.sat.set L T N Q v,M.trans u.sz⟩;have R:∀b,Wr (cG m.M i (r.set j v)) b->Wr m.M b:=λb q=>q.put L;have X:Fr (Wr m.M) w (w.setCell (r.ad j) v):=by
     have G:=DX.set (Ok:=λa wr=>wr=true->Wr m.M a) (w:=w) (es:=#[]) (v:=v) 0 (a:=r.ad j) (λ_=>⟨i,r,j,L,T,N,rfl⟩) ψ;exact⟨G.size,λb A y=>G.cell b (λz=>y (z rfl)) A,λk A y=>G.blk k A (λb e z=>y b e (z rfl)),G.obj,λg e n z=>z.set _ _⟩
    refine⟨w',#[⟨.cell (r.ad j),true,md==.atomic⟩]++c,#[⟨.cell (r.ad j),true,md==.atomic⟩]++S,A,λd=>?_,⟨xM E.1,λd=>DX.trans (DX.set d V.1 (λe C=>?_)) (E.2 d)⟩,X.trans K (λb q=>.inl (R b q)),λb q=>(J b q).imp (R b) (λz=>ω)⟩
    .rw[zx (P:=P) (w:=w.at d) hp (show(w.at d).cell? (r.ad j)=some (r.get j)from O) V.2];show Sem.runT P k ((w.setCell (r.ad j) v).at d) _=_;rw[y d];simp
    .simp at C;subst C;exact Rt (w:=w.setCell (r.ad j) v) (World.cell?_setCell_same' _ _ _ (by rw[O];rfl)) V.1
   .cases h
  .cases h
 |new o k H=>
  intro m F x h D q w es u;simp only[dw]at h;split at h
  .rename_i cs t;have Y:∀(a:Addr)(wr:Bool),w.heap.size<=a.block->Ok a wr:=λa wr z=>hB a wr (by rw[u.sz]at z;omega);have hS:=u.sat.new cs t Y;rw[u.sz]at hS;have M:(w.alloc (.cells cs t (0,0))).heap.size=w.heap.size+1:=Array.size_push _;let⟨w',c,S,A,y,E,K,J⟩:=H _ _ _ _ h D q (w.alloc (.cells cs t (0,0))) es ⟨hS,by rw[M,u.sz,Nat.add_assoc]⟩;have G:=DX.alloc (Ok:=Ok) (w:=w) (es:=#[]);have X:Fr (Wr m.M) w (w.alloc (.cells cs t (0,0))):=by
    have G:=DX.alloc (Ok:=λa wr=>wr=true->Wr m.M a) (w:=w) (es:=#[]) 0 (.cells cs t (0,0)) ψ;exact⟨G.size,λb A y=>G.cell b (λz=>y (z rfl)) A,λk A y=>G.blk k A (λb e z=>y b e (z rfl)),G.obj,λg e n z=>z.alloc _⟩
   have R:∀b,Wr (Yr (B+m.c) t cs::m.M) b->Wr m.M b\/w.heap.size<=b.block:=λb q=>(Wr.cons q).imp id (λz=>by rw[u.sz];exact z);refine⟨w',c,S,A,λd=>?_,⟨E.1,λd=>?_⟩,X.trans K R,λb q=>(J b q).elim (R b) (λz=>.inr ω)⟩
   .have hz:(w.at d).heap.size=B+m.c:=u.sz;simp only[Sem.runT,hz];exact y d
   .have:=DX.trans (G d (.cells cs t (0,0)) ψ) (E.2 d);grind
  .cases h
 |program k H=>
  intro m F x h D q w es u;let⟨w',c,S,A,y,E,K,J⟩:=H _ _ _ _ h D q w es u;exact⟨w',c,S,A,λd=>by simp only[Sem.runT];exact y d,E,K,J⟩
 |mark mk k H=>
  intro m F x h D q w es u;cases mk<;>try(simp only[dw]at h;cases h;done)
  rename_i f;simp only[dw]at h;let⟨w',c,S,A,y,E,K,J⟩:=H _ _ _ h D q w (es.push ⟨.mark (.extern f),false,true⟩) u;refine⟨w',#[⟨.mark (.extern f),false,true⟩]++c,S,A,λd=>?_,⟨λe C=>?_,E.2⟩,K,J⟩
  .simp only[Sem.runT];rw[y d];simp
  .rcases nQ.1 C with z|z
   .simp at z;rw[z];exact .inr (Dc f)
   grind
 |_=>intros;simp_all [dw]
def fV{P:aG}:∀(s:Sem α)(x:α),cV P s=some x->∀(w:aj)(es:dS),s.runT P w es=(.ok x w,es):=by
 intro s;induction s with
 |pure a=>intro x h w es;simp[cV]at h;simp_all
 |program k b=>intro x h w es;simp only[Sem.runT];exact b _ _ h w es
 |_=>intros;simp_all [cV]
def mixed:prog.follows .mixedOrders=true:=ρ
def aB.OA{P:aG}{V:gi}{a:Act}{w:aj}(F:aB P main D V){o:Oper}(f:O[i]? =some o)(e:Region.wanted o (yielded O a.tmps)=true)(g:b.kind≠.early)(h:∀d,∀K:Act->World->Prop,(∀c w',D (w.at d) w' (raw P a o (w.at d))/\V (G (b.at c (.inRegion O rest::k)) cs) w'->K c w')->uponK o a K ((execOp a.eval o).run P (w.at d))):
 V (G (b.at a (.inRegion O (i::rest)::k)) cs) w:=
 F.W6 f e g h
structure Kp(L:aN)(w w':aj)(C:List Addr:=[]):Prop where
 size:w.heap.size<=w'.heap.size
 cellC:∀(a:Addr)(v:ay),a.block∉L->a∉C->w.cell? a=some v->w'.cell? a=some v
 Q6:∀(a:Addr)(v:ay),a.block∉L->a∉C->w.cell? a=some v->w'.frozen? a=w.frozen? a
 blk:∀(k:Nat)(c:gd)(t:TypeId)(f:Nat×Nat),k∉L->(∀x∈C,x.block≠k)->w.heap[k]? =some (.cells c t f)->w'.heap[k]? =some (.cells c t f)
section
variable{L:aN}{w:aj}{a:Addr}{o:Obj}
def Kp.cell(h:Kp L w w')(a:Addr)(v:ay)(b:a.block∉L)(c:w.cell? a=some v):w'.cell? a=some v:=h.cellC a v b ψ c
def Kp.V7(h:Kp L w w')(a:Addr)(v:ay)(b:a.block∉L)(c:w.cell? a=some v):w'.frozen? a=w.frozen? a:=h.Q6 a v b ψ c
def Kp.refl(w:aj):Kp L w w C:=⟨az _,λ_ _ _ _ h=>h,λ_ _ _ _ _=>rfl,λ_ _ _ _ _ _ h=>h⟩
def Kp.pX(k:Kp L w w' C)(h:Kp L' w' I C')(l:∀x∈L',x∈L\/w.heap.size<=x)(m:∀x∈C',x∈C\/x.block∈L\/w.heap.size<=x.block):Kp L w I C:=by
 have j:∀(a:Addr)(v:ay),a.block∉L->a∉C->w.cell? a=some v->a.block∉L'/\a∉C':=λa v j d i=>⟨λz=>(l _ z).elim j λy=>absurd (au i) (wT.2 y),λz=>(m _ z).elim d λy=>y.elim j λy=>absurd (au i) (wT.2 y)⟩
 exact⟨aT k.size h.size,λa v d g i=>h.cellC a v (j a v d g i).1 (j a v d g i).2 (k.cellC a v d g i),λa v d g i=>(h.Q6 a v (j a v d g i).1 (j a v d g i).2 (k.cellC a v d g i)).trans (k.Q6 a v d g i),λb c t f g a d=>h.blk b c t f (λz=>(l _ z).elim g λy=>absurd (cU.1 d).1 (wT.2 y)) (λx h e=>(m x h).elim (λy=>a x y e) λy=>y.elim (λy=>g (e▸y)) λy=>absurd (cU.1 d).1 (wT.2 (e▸y))) (k.blk b c t f g a d)⟩
def Kp.RY(k:Kp L w w' C)(h:Kp L' w' I)(a:∀x∈L',x∈L\/w.heap.size<=x):Kp L w I C:=k.pX h a ψ
def Kp.old(h:Kp L w w' C)(a:∀x∈L,x∈L'\/w.heap.size<=x)(b:∀x∈C,x∈C'\/x.block∈L'\/w.heap.size<=x.block):Kp L' w w' C':=(Kp.refl w).pX h a b
def kS(b:a.block<w.heap.size):(w.alloc o).frozen? a=w.frozen? a:=World.frozen?_alloc_old w o a (iS b)
def Kp.alloc(e:w.alloc o=I):Kp L w I:=by
 subst e;exact⟨ψ,λa v _ _ b=>(Hx _ _ _ (au b)).trans b,λa v _ _ b=>kS (au b),λk c t f _ _ h=>(Below.heap_alloc _ _ _ (cU.1 h).1).trans h⟩
def Kp.H8(e:w.setCell p v=I):Kp [] w I [p]:=by
 subst e;exact⟨ψ,λa x _ b d=>(qa _ _ _ _ (λz=>b (by simp[z]))).trans d,λa x _ _ _=>YB _ _ _ _,λk c t f _ b h=>by simp only[World.setCell,sU,b p ψ,if_false];exact h⟩
def Kp.yT(k:Kp L w w' C)(e:w'.alloc o=I):Kp L w I C:=k.pX (Kp.alloc (L:=[]) e) ψ ψ
def Kp.EH(k:Kp L w w' C)(e:w'.setCell p v=I)(a:p.block∈L\/p∈C\/w.heap.size<=p.block):Kp L w I C:=
 k.pX (Kp.H8 e) ψ χ
def bN(h:w.cell? a=some v)(e:w.alloc o=I):I.cell? a=some v:=by subst e;exact(Hx _ _ _ (au h)).trans h
def dP(z:w.frozen? a=false)(h:w.cell? a=some v)(e:w.alloc o=I):I.frozen? a=false:=by subst e;exact(kS (au h)).trans z
def rC(e:w.alloc o=I)(a:w.heap.size=n):I.heap.size=n+1:=by subst e;simp_all
def aY{c:gd}{t:TypeId}(e:w.alloc (.cells c t)=I)(a:w.heap.size=n)(b:c[i]? =some v):I.cell? ⟨n,i,none⟩=some v:=by subst e;subst a;simp_all
def cy{c:gd}{t:TypeId}(e:w.alloc (.cells c t)=I)(a:w.heap.size=n)(i:Nat):I.frozen? ⟨n,i,none⟩=false:=by subst e;subst a;simp
def ny(e:w.alloc o=I)(a:w.heap.size=n):I.heap[n]? =some o:=by subst e;subst a;show(w.heap.push o)[w.heap.size]? =_;simp
def dQ(h:w.cell? a=some v)(e:w.setCell p v'=I)(b:p≠a):I.cell? a=some v:=by subst e;exact(qa _ _ _ _ b).trans h
def kP(h:w.cell? a=some v)(e:w.setCell a v'=I):I.cell? a=some v':=by subst e;exact D6 _ _ _ h
def eF(z:w.frozen? a=false)(e:w.setCell p v'=I):I.frozen? a=false:=by subst e;simp_all
def Kg(e:w.setCell p v'=I):I.heap.size=w.heap.size:=by subst e;simp
def lu(e:w.setCell p v'=I):w.heap.size<=I.heap.size/\I.heap.size<=w.heap.size:=by have:=Kg e;omega
def gH(e:w.alloc o=I)(a:w.heap.size=n):n<I.heap.size/\I.heap.size<=n+1:=by have:=rC e a;omega
end
def DX.Pg{Ok:dh}{es:dS}(d:Nat):∀(l:oJ)(w:aj),(∀x∈l,Ok x.1 true)->(∀e∈es,G4 Ok ((l.foldl (λw x=>w.setCell x.1 x.2) w).at d) e)->DX Ok (w.at d) ((l.foldl (λw x=>w.setCell x.1 x.2) w).at d) es
 |[],w,_,h=>DX.still d h
 |x::l,w,ok,h=>by
  have e:=DX.Pg d l (w.setCell x.1 x.2) (λy b=>ok y (aP _ b)) h;have b:DX Ok (w.at d) ((w.setCell x.1 x.2).at d) #[]:=DX.set d (ok x (bI ..)) ψ;exact⟨e.ev,aT b.size e.size,λc o f d=>e.obj c o (b.obj c o f d) d,λa f c=>by
   have g:=b.cell a f c;have g:=e.cell a f (ga c b.size);simp_all,λk a d=>(e.blk k (ga a b.size) d).trans (b.blk k a d),e.rest.1.trans b.rest.1,e.rest.2.1.trans b.rest.2.1,e.rest.2.2.trans b.rest.2.2⟩
section
variable{es:dS}{w:aj}
def DX.Ud(d:Nat)(b:Ok a1 true)(a:Ok a2 true)(h:∀e∈es,G4 Ok (((w.setCell a1 v1).setCell a2 v2).at d) e):DX Ok (w.at d) (((w.setCell a1 v1).setCell a2 v2).at d) es:=
 DX.Pg d [(a1,v1),(a2,v2)] w (by simp[b,a]) h
end
section
variable(P:aG)(w:aj)(es:dS)(a:Addr)(m:Mode)
def fD(b:eP)(n c:Nat):(store a (.slice b n c) m).events P w es=storedEv P w es a (.slice b n c) m:=events_store P w es a _ m rfl
def ig(b:eP):(store a (.pointer b) m).events P w es=storedEv P w es a (.pointer b) m:=events_store P w es a _ m rfl
def fE(t:TypeId)(v:ay):(store a (.iface t v) m).events P w es=storedEv P w es a (.iface t v) m:=events_store P w es a _ m rfl
def jc:(store a .nilIface m).events P w es=storedEv P w es a .nilIface m:=events_store P w es a _ m rfl
def gP(b:Bool):(store a (.bool b) m).events P w es=storedEv P w es a (.bool b) m:=events_store P w es a _ m rfl
end
def cw(v:ay):List Nat:=match v.ownBlock with|some g=>[g]|none=>[]
def bS{g:Nat}:g∈cw v↔v.ownBlock=some g:=by
 unfold cw;grind
def Kp.grown{w:aj}(h:w.grownBy w' v.ownBlock):Kp (cw v) w w':=by
 have e:∀(a:Addr)(x:ay),a.block∉cw v->w.cell? a=some x->w'.heap[a.block]? =w.heap[a.block]? :=λa x b d=>h.block _ (au d) λz=>b (bS.2 z.symm);exact⟨h.size,λa x b _ d=>(World.cell?_of_block (e a x b d)).trans d,λa x b _ d=>World.frozen?_of_block (e a x b d),λk c t f b _ a=>(h.block k (cU.1 a).1 λz=>b (bS.2 z.symm)).trans a⟩
def aB.append{P:aG}{V:gi}{a:Act}{w:aj}(F:aB P main (DX Ok) V){o:Oper}(ho:O[i]? =some o)(hw:Region.wanted o (yielded O a.tmps)=true)(hk:b.kind≠.early)(s x:Operand)(t e:TypeId)(N:o.op=.call {callee:=.builtin .append,args:=#[s,x],argTypes:=#[t,t]})(inf:TypeInfo)(z:ay)(base size bytes:Nat)(ht:P.underlying t=some (.slice e))(hi:P.info? e=some inf)(hz:inf.zero=some z)(A:inf.size=size)(R:inf.bytes=bytes)(T:z.cells.size=size)(W:0<size){f:iO}(hs:a.eval s=v)(hx:a.eval x=.slice (some ⟨nb,0,none⟩) 1 1)(C:w.ownsRow base e size v n xs)(E:f.length=size)(E:∀j u,f[j]? =some u->w.cell? ⟨nb,j,none⟩=some u)(h1:∀u∈f,u.oneCell'=true)(S:n+1<=maxLen)(r:(n+1)*bytes<=140737488355328)(J:base<=w.heap.size)(Y:nb<w.heap.size)(l:∀(y:Addr)(wr:Bool),some y.block=v.ownBlock->Ok y wr)(L:∀y:Addr,y.block=nb->Ok y false)(h:∀v' w',w'.ownsRow base e size v' (n+1) (xs++f)->w.grownBy w' v.ownBlock->(v'.ownBlock=v.ownBlock\/v'.ownBlock=some w.heap.size)->V (G (b.at (a.put o.dst v') (.inRegion O rest::k)) cs) w'):
 V (G (b.at a (.inRegion O (i::rest)::k)) cs) w:=by
 refine F.OA ho hw hk λd K hK=>?_;have B:(w.at d).ownsRow base e size v n xs:=C;have p:∀j u,f[j]? =some u->(w.at d).cell? ((⟨nb,0,none⟩:Addr).add j)=some u:=λj u a=>by rw[ey,bK];exact E j u a
 let⟨v',w',hr,X,q,_,hb⟩:=run_append_own_at (P:=P) (w:=w.at d) base t o.type e inf z size bytes ht hi hz A R T W v n xs B ⟨nb,0,none⟩ 1 1 f ω p h1 S r J;have M:∀g,v.ownBlock=some g->g<w.heap.size:=λg Q=>by
  rcases C.2 with ⟨rfl,_⟩|⟨g',U,Z,rfl,_,hh,_⟩
  .cases Q
  .simp[Value.ownBlock]at Q;grind
 refine uponK_append s x t N hs hx hr (hK _ w' ⟨⟨λev g=>?_,q.size,λc ob D a=>?_,λy NC I=>?_,λi b a=>q.block i b (λz=>a ⟨i,0,none⟩ rfl (l _ _ z)),q.os,q.tape,q.output⟩,h v' w' X ⟨q.os,q.tape,q.output,q.size,q.block⟩ hb⟩)
 .have hm:=mem_listed g;rw[events_append_op s x t N hs hx]at hm;rcases events_append_where (P:=P) (w.at d) base t o.type e inf z size bytes ht hi hz A R v n xs B ⟨nb,0,none⟩ 1 1 f ω p h1 S r ev hm with ⟨y,b,⟨a,d⟩|a⟩|⟨m,b,a⟩
  .exact .inl ⟨y,b,rfl,by rw[a];exact L y d,by rw[d];exact ga Y q.size⟩
  .exact .inl ⟨y,b,rfl,l y _ a,ga (M _ a.symm) q.size⟩
  .exact .inr (by rw[b,show m=.noRoom from a];rfl)
 .have I:c<w.heap.size:=(cU.1 D).1;have H:some c≠v.ownBlock:=λz=>by
   rcases C.2 with ⟨rfl,_⟩|⟨g',U,Z,rfl,_,hh,_⟩
   .cases z
   .simp[Value.ownBlock]at z;subst z;have:w.heap[c]? =some ob:=D;grind
  exact(q.block c I H).trans D
 .have H:some y.block≠v.ownBlock:=λz=>NC (l y true z);have:=q.block _ I H;exact⟨World.cell?_of_block this,World.frozen?_of_block this⟩
def dB(b:Bool)(x y:ay):Value:=match b with|true=>x|false=>y
def tick(b:qS)(i:Nat):Nat->Bool:=λj=>if j=i then true else b j
def all_cons{p:p8}{k:Nat}(h:p k)(a:∀i,k+1<=i->i<n->p i):∀i,k<=i->i<n->p i:=λi c b=>by
 rcases zR k i with z|z
 .exact a i z b
 .have:i=k:=Nat.le_antisymm z c;subst this;exact h
def all_nil{p:p8}:∀i,n<=i->i<n->p i:=λi b a=>absurd a (wT.2 b)
def Ab(O:g8)(Dp:List (List Nat)):Bool:=
 (List.range O.size).all λi=>match O[i]? with
   |some o=>o.after.toList.all (λe=>!Region.binds .any e||decide (e.on<i))&&(Dp.getD i []).all (λj=>o.after.toList.any λe=>decide (e.on=j)&&Region.binds .any e)
   |none=>false
def aB.K7{P:aG}{V:gi}{id:Nat}{a:Act}{w:aj}(F:aB P main D V)(C:P.follows .mixedOrders=true)(g:List (List Nat))(B:O.size=n)(H:Ab O g=true)(I:(Nat->Bool)->Act->World->Prop)(J:I (λ_=>false) a w)(c:∀i,0<=i->i<n->∀(b:qS)(a:Act)(w:aj),I b a w->(∀x,x<n->b x=true->∀j∈g.getD x [],b j=true)->b i=false->(∀j∈g.getD i [],b j=true)->∀rest,((∀x,x<n->x≠i->b x=true)->rest=[])->
 (∀u w',I (tick b i) u w'->V (G (fr.at u (.inRegion O rest::k)) cs) w')->V (G (fr.at a (.inRegion O (i::rest)::k)) cs) w)(r:∀b a w,I b a w->(∀i,i<n->b i=true)->V (G (fr.at a (.inRegion O []::k)) cs) w):
 V (G (fr.at a (.code (.region id O true)::k)) cs) w:=by
 subst B;have k:∀i o,O[i]? =some o->(∀e∈o.after,Region.binds .any e=true->e.on<i)/\∀j∈g.getD i [],∃e∈o.after,e.on=j/\Region.binds .any e=true:=by
  intro i o b;have t:i<O.size:=(cU.1 b).1;have:=eZ.1 H i (aZ.2 t);grind
 let m:Array Bool->Nat->Bool:=λl j=>l.getD j false;refine F.draw C (λl a w=>l.size=O.size/\I (m l) a w/\∀x,x<O.size->m l x=true->∀j∈g.getD x [],m l j=true) (λi o b=>(k i o b).1) (λl a w h=>h.1) ⟨ψ,?_,λx A h=>?_⟩ (λl a w i o f b e e rest v E=>?_) (λl a w f e=>?_)
 .have:m (Array.replicate O.size false)=λ_=>false:=by
   funext j;simp only[m,Array.getD];simp
  rw[this];exact J
 .have:m (Array.replicate O.size false) x=false:=by
   simp only[m,Array.getD];simp
  grind
 .have t:i<O.size:=(cU.1 b).1;have z:i<l.size:=ω
  have q:m (l.setIfInBounds i true)=tick (m l) i:=by
   funext j;simp only[m,tick,Array.getD,zb];by_cases d:j=i
   .subst d;simp[z]
   .by_cases b:j<l.size
    .simp[b,d,Array.getElem_setIfInBounds];omega
    grind
  have b:m l i=false:=by
   grind
  have s:∀j∈g.getD i [],m l j=true:=λj d=>by
   grind
  refine c i (gl _) t (m l) a w f.2.1 f.2.2 b s rest (λh=>v λj d y=>by
   grind) λu w' b=>E u w' ⟨by simp[f.1],by rw[q];exact b,?_⟩
  rw[q];intro x A h j d;by_cases p:x=i
  .subst p;by_cases y:j=x
   .grind
   .have:=s j d;simp[tick,this]
  .have b:m l x=true:=by simpa [tick,p]using h
   have:=f.2.2 x A b j d;simp[tick,this]
 .refine r (m l) a w f.2.1 λi t=>?_;grind
def tG(a:Act)(l:List (Nat×Value)):Act:=⟨l.foldl (λt x=>t.setIfInBounds x.1 x.2) a.tmps,a.defers⟩
def pu:(∀(a:Act)(l:List (Nat×Value)),tG a l=⟨l.foldl (λt x=>t.setIfInBounds x.1 x.2) a.tmps,a.defers⟩)/\
 (∀(f:Array Value->Nat×Value->Array Value)(t:gd),[].foldl f t=t)/\(∀(f:Array Value->Nat×Value->Array Value)(t:gd)(x:Nat×Value)(l:List (Nat×Value)),(x::l).foldl f t=l.foldl f (f t x))/\
 (∀(b:qS)(i j:Nat),tick b i j=if j=i then true else b j)/\(∀n:Nat,0+n=n)/\(∀x y:Value,dB true x y=x)/\(∀x y:Value,dB false x y=y)/\
 (∀(l:iO)(i:Nat)(v:ay),l.toArray.setIfInBounds i v=(l.set i v).toArray)/\(∀(x:ay)(l:iO)(i:Nat)(v:ay),(x::l).set (i+1) v=x::l.set i v)/\(∀(x:ay)(l:iO)(v:ay),(x::l).set 0 v=v::l)/\
 ((0=1)=False)/\((1=0)=False):=
 ⟨λ_ _=>rfl,λ_ _=>rfl,λ_ _ _ _=>rfl,λ_ _ _=>rfl,bK,λ_ _=>rfl,λ_ _=>rfl,λ_ _ _=>ψ,λ_ _ _ _=>rfl,λ_ _ _=>rfl,ψ,ψ⟩
def aB.RB{P:aG}{V:gi}{id:Nat}{a:Act}{w:aj}(F:aB P main D V)(s:P.follows .mixedOrders=true)(l:List (List Nat))(r:O.size=n)(y:Ab O l=true)(c:(Nat->Bool)->γ->List (Nat×Value))(J:(Nat->Bool)->γ->World->Prop)(q:γ)(B:tG a (c (λ_=>false) q)=a)(h:J (λ_=>false) q w)(d:∀i,0<=i->i<n->∀(b:qS)(g:γ)(w:aj),J b g w->(∀x,x<n->b x=true->∀j∈l.getD x [],b j=true)->b i=false->(∀j∈l.getD i [],b j=true)->∀rest,((∀x,x<n->x≠i->b x=true)->rest=[])->
 (∀g' w',J (tick b i) g' w'->V (G (fr.at (tG a (c (tick b i) g')) (.inRegion O rest::k)) cs) w')->V (G (fr.at (tG a (c b g)) (.inRegion O (i::rest)::k)) cs) w)(e:∀b g w,J b g w->(∀i,i<n->b i=true)->V (G (fr.at (tG a (c b g)) (.inRegion O []::k)) cs) w):
 V (G (fr.at a (.code (.region id O true)::k)) cs) w:=by
 refine F.K7 s l r y (λb j w=>∃g,j=tG a (c b g)/\J b g w) ⟨q,B.symm,h⟩ (λi A z b j w p o v u rest m t=>?_) (λb j w p f=>?_)
 .obtain⟨g,rfl,h⟩:=p;exact d i A z b g w h o v u rest m λg' w' a=>t _ _ ⟨g',rfl,a⟩
 .obtain⟨g,rfl,h⟩:=p;exact e b g w h f
def aB.yw{P:aG}{V:gi}{id:Nat}{a:Act}{w:aj}(F:aB P main D V)(m:P.follows .mixedOrders=true)(f:List (List Nat))(l:O.size=n)(p:Ab O f=true)(c:(Nat->Bool)->γ->List (Nat×Value))(J:(Nat->Bool)->γ->World->Prop)(h:γ)(q:tG a (c (λ_=>false) h)=a)(o:J (λ_=>false) h w)(d:∀i,0<=i->i<n->∀(b:qS)(g:γ)(w:aj),J b g w->(∀x j,(decide (x<n)&&(f.getD x []).contains j)=true->b x=true->b j=true)->b i=false->(∀j,(f.getD i []).contains j=true->b j=true)->∀rest,((∀x,x<n->x≠i->b x=true)->rest=[])->
 (∀g' w',J (tick b i) g' w'->V (G (fr.at (tG a (c (tick b i) g')) (.inRegion O rest::k)) cs) w')->V (G (fr.at (tG a (c b g)) (.inRegion O (i::rest)::k)) cs) w)(e:∀b g w,J b g w->(∀i,i<n->b i=true)->V (G (fr.at (tG a (c b g)) (.inRegion O []::k)) cs) w):
 V (G (fr.at a (.code (.region id O true)::k)) cs) w:=
 F.RB m f l p c J h q o (λi k h b g w f a c a=>d i k h b g w f (λx j b b=>by
  grind) c (λj b=>a j χ)) e
def dZ:prog.underlying 100=some (.slice 128):=ρ
def lO:∃inf z,prog.info? 128=some inf/\inf.zero=some z/\inf.size=2/\inf.bytes=16/\z.cells.size=2:=⟨_,_,rfl,rfl,rfl,rfl,rfl⟩
def mV(f:FuncId)(U:gd):Deferred:={target:=.fn (.func f) U,args:=#[]}
def DC(d:Deferred)(f:FuncId)(v:gd):Prop:=∃c,d.target=.fn (.func f) c/\d.args++c=v
def Hr{f:FuncId}:DC (mV f U) f U:=⟨U,rfl,by simp[mV]⟩
section
variable{P:aG}{V:gi}{a:Act}{w:aj}{o:Oper}{ds:wN}
def vo(e:O[i]? =some o)(g:Region.wanted o (yielded O a.tmps)=true)(c:b.kind≠.early)(c:b.roundOf=none){r:Operand}(c:o.op=.defer {callee:=.value r,args:=#[],argTypes:=ats})(d:a.eval r=.func (.func f) #[] U):
 stepG P main (G (b.at a (.inRegion O (i::rest)::k)) cs) w=.go (G (b.at (Act.put ⟨a.tmps,mV f U::a.defers⟩ o.dst undef) (.inRegion O rest::k)) cs) w #[]:=by
 have j:(execOp a.eval o).run P w=.ok (.defer (mV f U)) w:=by
  unfold execOp;simp[c,resolve,Deferred.ofValue,d,mV]
 have h:(execOp a.eval o).events P w #[]=#[]:=by
  unfold execOp;simp[c,resolve,Deferred.ofValue,d]
 have c:(b.at ⟨a.tmps,mV f U::a.defers⟩ (.inRegion O (i::rest)::k)).finish undef=b.at (Act.put ⟨a.tmps,mV f U::a.defers⟩ o.dst undef) (.inRegion O rest::k):=by rw[bQ,e];rfl
 have a:(b.kind==CallKind.early)=false:=ξ
 rw[stepG_oper e g,<-c];simp[stepG.apply,j,h,G,Frame.at,a,GStep.after,seen_none]
def aB.GD(F:aB P main D V)(j:O[i]? =some o)(e:Region.wanted o (yielded O a.tmps)=true)(l:b.kind≠.early)(c:b.roundOf=none){r:Operand}(d:o.op=.defer {callee:=.value r,args:=#[],argTypes:=ats})(g:a.eval r=.func (.func f) #[] U)(h:V (G (b.at (Act.put ⟨a.tmps,mV f U::a.defers⟩ o.dst undef) (.inRegion O rest::k)) cs) w):V (G (b.at a (.inRegion O (i::rest)::k)) cs) w:=
 F.ctl (λ_=>vo j e l c d g) h
def mM{c:Code}(l:a.defers=d::ds)(g:DC d f U)(h:P.funcs[f]? =some fn)(e:(fn.name== "runtime.NumGoroutine")=false)(i:fn.body=some c):
 stepG P main (G {b.at a F with mode:=.returning} cs) w=
  .go (G ((baseD f).at {tmps:=U++Array.replicate (fn.ntmps-U.size) undef,defers:=[]} [.code c]) ({b.at ⟨a.tmps,ds⟩ F with mode:=.returning}::cs)) w #[]:=by
 have m:¬fn.name= "runtime.NumGoroutine" :=ξ
 let⟨a,k,j⟩:=g;let⟨_,a⟩:=d;simp only at k j;subst k;rw[<-enter_atD U h i];simp[G,stepG,unwind,callDeferred,Frame.at,l,j,invoke,callFunc,h,m,i,GStep.after,seen_none]
def tj{c:Code}(g:a.defers=mV f U::ds)(e:P.funcs[f]? =some fn)(d:(fn.name== "runtime.NumGoroutine")=false)(h:fn.body=some c):
 stepG P main (G {b.at a F with mode:=.returning} cs) w=
  .go (G ((baseD f).at {tmps:=U++Array.replicate (fn.ntmps-U.size) undef,defers:=[]} [.code c]) ({b.at ⟨a.tmps,ds⟩ F with mode:=.returning}::cs)) w #[]:=mM g Hr e d h
def aB.HK(k:aB P main D V){c:Code}(i:a.defers=d::ds)(e:DC d f U)(g:P.funcs[f]? =some fn)(d:(fn.name== "runtime.NumGoroutine")=false)(j:fn.body=some c)(h:V (G ((baseD f).at {tmps:=U++Array.replicate (fn.ntmps-U.size) undef,defers:=[]} [.code c]) ({b.at ⟨a.tmps,ds⟩ F with mode:=.returning}::cs)) w):V (G {b.at a F with mode:=.returning} cs) w:=
 k.ctl (λ_=>mM i e g d j) h
def Qh(e:O[i]? =some o)(f:Region.wanted o (yielded O a.tmps)=true)(g:b.kind=.deferred)(d:b.roundOf=none)(d:o.op=.call {callee:=.builtin .recover,args:=#[],argTypes:=ats}){c:aC}(j:c.mode=.returning):
 stepG P main (G (b.at a (.inRegion O (i::rest)::k)) (c::cs)) w=.go (G (b.at (a.put o.dst .nilIface) (.inRegion O rest::k)) (c::cs)) w #[]:=by
 have l:(execOp a.eval o).run P w=.ok .recover w:=by
  unfold execOp;simp[d,resolve,invoke,builtin]
 have h:(execOp a.eval o).events P w #[]=#[]:=by
  unfold execOp;simp[d,resolve,invoke,builtin]
 have c:(b.at a (.inRegion O (i::rest)::k)).finish .nilIface=b.at (a.put o.dst .nilIface) (.inRegion O rest::k):=by rw[bQ,e];rfl
 rw[stepG_oper e f,<-c];simp[stepG.apply,l,h,G,Frame.at,g,GStep.after,seen_none,tryRecover,j]
def aB.zC(F:aB P main D V)(g:O[i]? =some o)(f:Region.wanted o (yielded O a.tmps)=true)(j:b.kind=.deferred)(d:b.roundOf=none)(e:o.op=.call {callee:=.builtin .recover,args:=#[],argTypes:=ats}){c:aC}(l:c.mode=.returning)(h:V (G (b.at (a.put o.dst .nilIface) (.inRegion O rest::k)) (c::cs)) w):V (G (b.at a (.inRegion O (i::rest)::k)) (c::cs)) w:=
 F.ctl (λ_=>Qh g f j d e l) h
def aB.leaveD(j:aB P main D V){c:aC}(e:b.kind=.deferred)(g:a.defers=[])(f:P.funcs[b.fn]? =some fn)(d:ResultsC P fn a.tmps v)(i:c.mode=.returning)(h:V (G c cs) w):V (G {b.at a F with mode:=.returning} (c::cs)) w:=
 j.ctl (λw=>stepG_leave_deferred e g f (d w).1 (d w).2 i) h
end
abbrev je(v:ay):List PanicEntry:=[{v,recovered:=false}]
abbrev pG(v:ay):List PanicEntry:=[{v,recovered:=true}]
section
variable{P:aG}{V:gi}{a:Act}{w:aj}{o:Oper}{ds:wN}
def xu(f:O[i]? =some o)(e:Region.wanted o (yielded O a.tmps)=true)(c:b.mode=.run){r:Operand}(c:o.op=.panic r){t:TypeId}{x:ay}(d:a.eval r=.iface t x):
 stepG P main (G (b.at a (.inRegion O (i::rest)::k)) cs) w=.go (G {b.at a (.inRegion O (i::rest)::k)with mode:=.panicking (je (.iface t x))} cs) w #[]:=by
 have g:(execOp a.eval o).run P w=.halt (.panic (.iface t x)) w:=by
  unfold execOp;simp[c,d,Instr.panic,goPanic]
 have b:(execOp a.eval o).events P w #[]=#[]:=by
  unfold execOp;simp[c,d,Instr.panic,goPanic]
 rw[stepG_oper f e];simp[stepG.apply,g,b,G,Frame.at,Frame.raise,GStep.after,seen_none]
def aB.panic(F:aB P main D V)(f:O[i]? =some o)(d:Region.wanted o (yielded O a.tmps)=true)(g:b.mode=.run){r:Operand}(c:o.op=.panic r){t:TypeId}{x:ay}(e:a.eval r=.iface t x)(h:V (G {b.at a (.inRegion O (i::rest)::k)with mode:=.panicking (je (.iface t x))} cs) w):V (G (b.at a (.inRegion O (i::rest)::k)) cs) w:=
 F.ctl (λ_=>xu f d g c e) h
def rD{c:aC}{ch:List PanicEntry}(e:a.defers=[])(d:P.funcs[b.fn]? =some fn):stepG P main (G {b.at a F with mode:=.panicking ch} (c::cs)) w=.go (G (c.raise ch) cs) w #[]:=by
 simp[G,stepG,unwind,Frame.at,e,Frame.catches,d]
def aB.lJ(f:aB P main D V){c:aC}{ch:List PanicEntry}(e:a.defers=[])(d:P.funcs[b.fn]? =some fn)(h:V (G (c.raise ch) cs) w):V (G {b.at a F with mode:=.panicking ch} (c::cs)) w:=
 f.ctl (λ_=>rD e d) h
def td{c:Code}{ch:List PanicEntry}(l:a.defers=d::ds)(g:DC d f U)(h:P.funcs[f]? =some fn)(e:(fn.name== "runtime.NumGoroutine")=false)(i:fn.body=some c):
 stepG P main (G {b.at a F with mode:=.panicking ch} cs) w=
  .go (G ((baseD f).at {tmps:=U++Array.replicate (fn.ntmps-U.size) undef,defers:=[]} [.code c]) ({b.at ⟨a.tmps,ds⟩ F with mode:=.panicking ch}::cs)) w #[]:=by
 have m:¬fn.name= "runtime.NumGoroutine" :=ξ
 let⟨a,k,j⟩:=g;let⟨_,a⟩:=d;simp only at k j;subst k;rw[<-enter_atD U h i];simp[G,stepG,unwind,callDeferred,Frame.at,l,j,invoke,callFunc,h,m,i,GStep.after,seen_none]
def aB.Zy(k:aB P main D V){c:Code}{ch:List PanicEntry}(i:a.defers=d::ds)(e:DC d f U)(g:P.funcs[f]? =some fn)(d:(fn.name== "runtime.NumGoroutine")=false)(j:fn.body=some c)(h:V (G ((baseD f).at {tmps:=U++Array.replicate (fn.ntmps-U.size) undef,defers:=[]} [.code c]) ({b.at ⟨a.tmps,ds⟩ F with mode:=.panicking ch}::cs)) w):V (G {b.at a F with mode:=.panicking ch} cs) w:=
 k.ctl (λ_=>td i e g d j) h
def tu(e:O[i]? =some o)(f:Region.wanted o (yielded O a.tmps)=true)(g:b.kind=.deferred)(d:b.roundOf=none)(d:o.op=.call {callee:=.builtin .recover,args:=#[],argTypes:=ats}){c:aC}(j:c.mode=.panicking (je v)):
 stepG P main (G (b.at a (.inRegion O (i::rest)::k)) (c::cs)) w=.go (G (b.at (a.put o.dst v) (.inRegion O rest::k)) ({c with mode:=.panicking (pG v)}::cs)) w #[]:=by
 have l:(execOp a.eval o).run P w=.ok .recover w:=by
  unfold execOp;simp[d,resolve,invoke,builtin]
 have h:(execOp a.eval o).events P w #[]=#[]:=by
  unfold execOp;simp[d,resolve,invoke,builtin]
 have c:(b.at a (.inRegion O (i::rest)::k)).finish v=b.at (a.put o.dst v) (.inRegion O rest::k):=by rw[bQ,e];rfl
 rw[stepG_oper e f,<-c];simp[stepG.apply,l,h,G,Frame.at,g,GStep.after,seen_none,tryRecover,j]
def aB.recover(F:aB P main D V)(g:O[i]? =some o)(f:Region.wanted o (yielded O a.tmps)=true)(j:b.kind=.deferred)(d:b.roundOf=none)(e:o.op=.call {callee:=.builtin .recover,args:=#[],argTypes:=ats}){c:aC}(l:c.mode=.panicking (je v))(h:V (G (b.at (a.put o.dst v) (.inRegion O rest::k)) ({c with mode:=.panicking (pG v)}::cs)) w):V (G (b.at a (.inRegion O (i::rest)::k)) (c::cs)) w:=
 F.ctl (λ_=>tu g f j d e l) h
def vn{c:aC}{r:ay}(e:b.kind=.deferred)(h:a.defers=[])(f:P.funcs[b.fn]? =some fn)(d:∀w,(results fn a.tmps).run P w=.ok r w)(g:∀w,(results fn a.tmps).events P w #[]=#[])(i:c.mode=.panicking (pG v)):
 stepG P main (G {b.at a F with mode:=.returning} (c::cs)) w=.go (G {c with mode:=.returning} cs) w #[]:=by
 simp[G,stepG,unwind,doReturn,Frame.at,h,f,d w,g w,e,i,GStep.after,seen_none]
def aB.MQ(j:aB P main D V){c:aC}{r:ay}(e:b.kind=.deferred)(g:a.defers=[])(f:P.funcs[b.fn]? =some fn)(d:ResultsC P fn a.tmps r)(i:c.mode=.panicking (pG v))(h:V (G {c with mode:=.returning} cs) w):V (G {b.at a F with mode:=.returning} (c::cs)) w:=
 j.ctl (λ_=>vn e g f (λw=>(d w).1) (λw=>(d w).2) i) h
end
def flat:List (Int×Value)->List Value
 |[]=>[]
 |e::es=>.int .i64 e.1::e.2::flat es
def ia:∀es:List (Int×Value),(flat es).length=2*es.length
 |[]=>rfl
 |e::es=>by simp[flat,ia es];omega
def lS:∀a b:List (Int×Value),flat (a++b)=flat a++flat b
 |[],_=>rfl
 |e::es,b=>by simp[flat,lS es b]
def yd:∀es:List (Int×Value),(∀e∈es,e.2.oneCell'=true)->∀u∈flat es,u.oneCell'=true
 |[],_,u,a=>by cases a
 |e::es,h,u,a=>by
  simp only[flat,ak]at a;rcases a with rfl|rfl|a
  .rfl
  .simp_all
  .exact yd es (λx b=>h x (aP _ b)) u a
def uJ:∀(es:jl)(i:Nat),flat (es.take i)=(flat es).take (2*i)
 |[],i=>by simp[flat]
 |e::es,0=>by simp[flat]
 |e::es,i+1=>by rw[show 2*(i+1)=2*i+1+1 by omega];simp[flat,uJ es i]
def uK:∀(es:jl)(i:Nat),flat (es.drop i)=(flat es).drop (2*i)
 |[],i=>by simp[flat]
 |e::es,0=>by simp[flat]
 |e::es,i+1=>by rw[show 2*(i+1)=2*i+1+1 by omega];simp[flat,uK es i]
def fZ(N:Nat)(w:aj)(v:ay)(es:jl):Prop:=
 (∀e∈es,e.2.oneCell'=true)/\((v=.slice none 0 0/\es=[])\/
   ∃E off U Z,v=.slice (some ⟨E,off,none⟩) es.length U/\es.length<=U/\N<=E/\w.heap[E]? =some (.cells Z 128 (0,0))/\off+2*U<=Z.size/\∀(j:Nat)(u:ay),(flat es)[j]? =some u->Z[off+j]? =some u)
def fZ.lt{w:aj}{es:jl}(h:fZ N w v es){g:Nat}(a:v.ownBlock=some g):N<=g/\∃Z,w.heap[g]? =some (.cells Z 128 (0,0)):=by
 rcases h.2 with ⟨rfl,_⟩|⟨E,off,U,Z,rfl,_,b,b,_⟩
 .cases a
 .simp[Value.ownBlock]at a;simp_all
def fZ.form{w:aj}{es:jl}(h:fZ N w v es):∃base U,v=.slice base es.length U/\es.length<=U/\(base=none->U=0)/\∀b,base=some b->b.spot=none:=by
 rcases h.2 with ⟨rfl,rfl⟩|⟨E,off,U,Z,rfl,a,_⟩
 .grind
 grind
def Kp.bA{L:aN}{w:aj}{es:jl}(h:Kp L w w' C)(r:fZ N w v es)(b:∀g∈cw v,g∉L/\∀x∈C,x.block≠g):fZ N w' v es:=by
 refine⟨r.1,r.2.imp id fun⟨E,off,U,Z,a,f,e,d,c⟩=>⟨E,off,U,Z,a,f,e,?_,c⟩⟩;have:=b E (bS.2 (by rw[a];rfl));exact h.blk E _ _ _ this.1 this.2 d
def eE(Z:gd)(p:Nat)(vs:iO)(a:p+vs.length<=Z.size)(k:Nat):(Z.toList.take p++vs++Z.toList.drop (p+vs.length)).toArray[k]? =if k<p then Z[k]? else if k<p+vs.length then vs[k-p]? else Z[k]? :=by
 have a:(Z.toList.take p).length=p:=θ
 grind
def pO(Z:gd)(p:Nat)(vs:iO)(a:p+vs.length<=Z.size):(Z.toList.take p++vs++Z.toList.drop (p+vs.length)).toArray.size=Z.size:=by
 grind
def oz{w:aj}{k:Nat}{t:TypeId}{fr:Nat×Nat}(h:w.heap[E]? =some (.cells Z t fr)):w.cell? ⟨E,k,none⟩=Z[k]? :=by simp[World.cell?,h]
def LY(w:aj)(i:TypeId){o:Nat}{b:Addr}{cs:iO}(q:w.heap[E]? =some (.cells Z 128 (0,0)))(s:n=Nat.min sl dl)(k:cs.length=2*n)(k:o+cs.length<=Z.size)(k:∀j u,cs[j]? =some u->w.cell? (b.add j)=some u)(r:∀u∈cs,u.oneCell'=true):
 (Builtin.copy_ #[100,100] i #[.slice (some ⟨E,o,none⟩) dl dc,.slice (some b) sl sc]).run prog w=.ok (goInt n) (w.setRow E (Z.toList.take o++cs++Z.toList.drop (o+cs.length)).toArray)/\
   ∀ev∈(Builtin.copy_ #[100,100] i #[.slice (some ⟨E,o,none⟩) dl dc,.slice (some b) sl sc]).events prog w #[],∃g,ev.loc=.cell g/\((ev.write=false/\g.block=b.block)\/g.block=E):=by
 let⟨inf,z,m,_,_,_,i⟩:=lO;have i:cs.length=n*inf.size:=χ
 have p:=run_firstCells_some (P:=prog) w inf.size n b sl sc cs i k;have d:=run_storeCells_at (P:=prog) E o 128 cs 0 Z w q ω r;simp only[jI]at d;subst s;constructor
 .simp[Builtin.copy_,run_underlying dZ,sizeOf,typeInfo,m,Builtin.lenOf,p,d]
 .intro ev f;simp[Builtin.copy_,run_underlying dZ,sizeOf,typeInfo,m,Builtin.lenOf,p]at f;rcases events_storeCells_at (P:=prog) E o 128 cs 0 Z w _ q ω r ev f with h|⟨g,i,i⟩
  .rcases events_firstCells_in (P:=prog) (·=b.block) inf.size (Nat.min sl dl) _ w _ (λa l c e=>by
    simp_all) ev h with h|⟨g,a1,a2,a3⟩
   .simp at h
   simp_all
  simp_all
def qC(x:Nat)(w':aj):∀ev∈(askRoom x).events prog w' #[],ev=noRoomEvent:=λev a=>by
 rcases Conc.events_askRoom _ _ _ ev a with h|⟨m,h,a⟩
 .simp at h
 .rw[h,show m=.noRoom from a];rfl
def oA{w:aj}(h:w.heap[E]? =some (.cells Z 128 (0,0)))(a:∀(j:Nat)(u:ay),xs[j]? =some u->Z[off+j]? =some u):∀j u,xs[j]? =some u->w.cell? ((⟨E,off,none⟩:Addr).add j)=some u:=λj u a=>by
 rw[ey,oz h];simp_all
def xB(w:aj)(y:TypeId)(P:N<=w.heap.size){f:ay}{t:Int}{es:jl}(I:es.length<2000000)(s:fZ N w v es)(I:w.cell? ⟨nb,0,none⟩=some (.int .i64 t))(I:w.cell? ⟨nb,1,none⟩=some f)(R:f.oneCell'=true):
 ∃v' w',(Builtin.append_ #[100,100] y #[v,.slice (some ⟨nb,0,none⟩) 1 1]).run prog w=.ok v' w'/\fZ N w' v' (es++[(t,f)])/\w.grownBy w' v.ownBlock/\(v'.ownBlock=v.ownBlock\/v'.ownBlock=some w.heap.size)/\
  ∀ev∈(Builtin.append_ #[100,100] y #[v,.slice (some ⟨nb,0,none⟩) 1 1]).events prog w #[],(∃d,ev.loc=.cell d/\((ev.write=false/\d.block=nb)\/some d.block=v.ownBlock))\/ev=noRoomEvent:=by
 have o:∀e∈es++[(t,f)],e.2.oneCell'=true:=λe I=>by
  rcases dJ.1 I with h|h
  .exact s.1 e h
  simp_all
 let⟨inf,z,x,J,A,D,O⟩:=lO;have m:∀j u,[.int .i64 t,f][j]? =some u->w.cell? ((⟨nb,0,none⟩:Addr).add j)=some u:=by
  intro j u i;rw[ey,bK];grind
 have K:([.int .i64 t,f]:iO).length=1*inf.size:=by rw[A];rfl
 have q:∀u∈([.int .i64 t,f]:iO),u.oneCell'=true:=by intro u i;simp at i;rcases i with rfl|rfl;rfl;exact R
 have src:∀(w':aj),(∀d,w'.cell? d=w.cell? d)->∀es,∀ev∈(Builtin.firstCells inf.size 1 (.slice (some ⟨nb,0,none⟩) 1 1)).events prog w' es,ev∈es\/ev.readsIn (·=nb):=by
  intro w' I es;refine events_firstCells_in (P:=prog) (·=nb) inf.size 1 _ w' es λa l c e=>?_;grind
 have fin:∀ev:Event,ev.readsIn (·=nb)->(∃d,ev.loc=.cell d/\((ev.write=false/\d.block=nb)\/some d.block=v.ownBlock))\/ev=noRoomEvent:=λev ⟨d,a1,a2,a3⟩=>.inl ⟨d,a1,.inl ⟨a2,a3⟩⟩;have H:=run_firstCells_some (P:=prog) w.drew inf.size 1 ⟨nb,0,none⟩ 1 1 [.int .i64 t,f] K ξ;have r:=run_firstCells_some (P:=prog) w inf.size 1 ⟨nb,0,none⟩ 1 1 [.int .i64 t,f] K ω;rcases s.2 with ⟨rfl,rfl⟩|⟨E,off,U,Z,rfl,s,S,g,s,n⟩
 .have C:=run_append_nil (P:=prog) w 100 y 128 inf z dZ x J ⟨nb,0,none⟩ 1 1 [.int .i64 t,f] K m ω ω ω;have G:=grownCap_ge w 1 0 128;refine⟨_,_,C,⟨o,.inr ⟨w.heap.size,0,grownCap w 1 0 128,_,rfl,G,P,ny (w:=w.drew) rfl rfl,?_,λj u i=>?_⟩⟩,⟨rfl,rfl,rfl,ψ,λk F _=>Below.heap_alloc w.drew _ k F⟩,.inr rfl,λev b=>?_⟩
  .simp only[yY,wO,gB,iT,size_zeroCells,O];omega
  .have s:([.int .i64 t,f]:iO)[j]? =some u:=i;grind
  .have p:¬(281474976710656<Builtin.nextslicecap 1 0*inf.bytes):=by rw[nextslicecap_zero ω,D];omega
   simp[Builtin.append_,run_underlying dZ,sizeOf,typeInfo,zeroValue,x,J,Builtin.lenOf,p,Question.forced,run_firstCells_none,H,newRow]at b;rcases src w.drew (λ_=>rfl) _ ev b with h|h
   .exact .inr (qC _ _ ev (by simpa [Builtin.firstCells]using h))
   simp_all
 have D:(flat es).length=es.length*inf.size:=by rw[A,ia];omega
 have holds:=oA (w:=w) g n;have v:flat (es++[(t,f)])=flat es++[.int .i64 t,f]:=lS _ _;by_cases I:es.length<U
 .have L:=run_storeCells_at (P:=prog) E (off+es.length*2) 128 [.int .i64 t,f] 0 Z w g θ q;have C:(Builtin.append_ #[100,100] y #[.slice (some ⟨E,off,none⟩) es.length U,.slice (some ⟨nb,0,none⟩) 1 1]).run prog w=.ok (.slice (some ⟨E,off,none⟩) (es.length+1) U) (w.setRow E (Z.toList.take (off+es.length*2)++[.int .i64 t,f]++Z.toList.drop (off+es.length*2+2)).toArray):=by
   simp only[jI,gB,iT]at L;have n:es.length+1<=U:=I;simp[Builtin.append_,run_underlying dZ,sizeOf,typeInfo,x,A,Builtin.lenOf,ey,n];simp_all
  have s:([.int .i64 t,f]:iO).length=2:=rfl;have N:off+es.length*2+([.int .i64 t,f]:iO).length<=Z.size:=ω
  refine⟨_,_,C,⟨o,.inr ⟨E,off,U,_,ψ,θ,S,setRow_heap w E Z _ 128 _ g,χ,λj u i=>?_⟩⟩,⟨rfl,rfl,rfl,ψ,λk _ F=>setRow_other w E k _ (λe=>F (by simp[Value.ownBlock,e]))⟩,.inl rfl,λev b=>?_⟩
  .have B:=eE Z _ _ N (off+j);rw[s]at B;rw[B];rw[v]at i;by_cases Q:j<(flat es).length
   .grind
   .rw[vf ω]at i;have M:j-(flat es).length<2:=by
     grind
    rw[ia]at Q M i;rw[af ω,sJ ω,show off+j-(off+es.length*2)=j-2*es.length by omega];exact i
  .have n:es.length+1<=U:=I;rw[A]at r;simp[Builtin.append_,run_underlying dZ,sizeOf,typeInfo,x,A,Builtin.lenOf,r,ey,n]at b;rcases events_storeCells_at (P:=prog) E (off+es.length*2) 128 [.int .i64 t,f] 0 Z w _ g θ q ev b with h|⟨d,q,g⟩
   .grind
   .exact .inl ⟨d,q,.inr (by simp[Value.ownBlock,g])⟩
 .have g:U=es.length:=ω
  have C:=run_append_grow (P:=prog) w 100 y 128 inf z dZ x J ⟨E,off,none⟩ es.length U (flat es) D holds ⟨nb,0,none⟩ 1 1 [.int .i64 t,f] K m ω ω (growslice_fits ω χ);have G:=grownCap_ge w (es.length+1) U 128;refine⟨_,_,C,⟨o,.inr ⟨w.heap.size,0,grownCap w (es.length+1) U 128,_,ψ,ξ,P,ny (w:=w.drew) rfl rfl,?_,λj u i=>?_⟩⟩,⟨rfl,rfl,rfl,ψ,λk F _=>Below.heap_alloc w.drew _ k F⟩,.inr rfl,λev b=>?_⟩
  .simp only[yY,wO,gB,iT,size_zeroCells,O,ia];omega
  .grind
  .have p:¬(281474976710656<Builtin.nextslicecap (es.length+1) U*inf.bytes):=by
    have:=growslice_fits (need:=es.length+1) (old:=U) (bytes:=inf.bytes) ω χ;omega
   have f:=run_firstCells_some (P:=prog) w.drew inf.size es.length ⟨E,off,none⟩ es.length U (flat es) D holds;have n:¬(es.length+1<=U):=ω
   have g:¬((9223372036854775807:Int)<(es.length:Int)+1):=ω
   simp[Builtin.append_,run_underlying dZ,sizeOf,typeInfo,zeroValue,x,J,Builtin.lenOf,p,Question.forced,f,H,newRow,n,g]at b;rcases src w.drew (λ_=>rfl) _ ev b with h|h
   .rcases events_firstCells_in (P:=prog) (·=E) inf.size es.length _ w.drew _ (λa l c e=>by
     cases e;simp_all) ev h with h|⟨d,a1,a2,a3⟩
    .exact .inr (qC _ _ ev h)
    .exact .inl ⟨d,a1,.inr (by simp[Value.ownBlock,a3])⟩
   simp_all
def Pb:prog.underlying 3=some (.int .i64):=ρ
def xA(w:aj)(g:TypeId){U:Nat}(r:w.heap[E]? =some (.cells Z 128 (0,0)))(b:xs.length=2*i)(d:∀(j:Nat)(u:ay),xs[j]? =some u->Z[off+j]? =some u)(j:0<n)(q:U<i+n)(b:i+n<2000000):
 ∃b rest,(Builtin.append_ #[100,3] g #[.slice (some ⟨E,off,none⟩) i U,.int .i64 n]).run prog w=.ok (.slice (some ⟨w.heap.size,0,none⟩) (i+n) b) (w.drew.alloc (.cells (xs.toArray++rest) 128))/\i+n<=b/\rest.size=2*(b-i)/\
  ∀ev∈(Builtin.append_ #[100,3] g #[.slice (some ⟨E,off,none⟩) i U,.int .i64 n]).events prog w #[],(∃m,ev.loc=.cell m/\ev.write=false/\m.block=E)\/ev=noRoomEvent:=by
 let⟨inf,z,p,o,_,b,k⟩:=lO;have b:xs.length=i*inf.size:=χ
 have holds:=oA (w:=w.drew) r d;have d:=run_firstCells_some (P:=prog) w.drew inf.size i ⟨E,off,none⟩ i U xs b holds;have b:=growslice_fits (need:=i+n) (old:=U) (bytes:=inf.bytes) ω χ;have r:=Lib.run_append_grow_zeros w 100 3 g 128 inf z .i64 .i64 dZ Pb p o (some ⟨E,off,none⟩) i U xs d n j ω q ω χ b;have b:=grownCap_ge w (i+n) U 128;refine⟨grownCap w (i+n) U 128,Builtin.zeroCells z.cells n++Builtin.zeroCells z.cells (grownCap w (i+n) U 128-(i+n)),ξ,b,by simp only[yY,size_zeroCells,k];omega,λev f=>?_⟩;have q:IntKind.i64.wrap (n:Int)=n:=by rw[IntKind.wrap_i64];omega
 have s:¬(i+n<=U):=ω
 have g:¬(9223372036854775807<((i:Int)+(n:Int))):=ω
 have k:¬(281474976710656<Builtin.nextslicecap (i+n) U*inf.bytes):=ω
 have j:¬(281474976710656<(n:Int)*(inf.bytes:Int)):=χ
 have b:¬((n:Int)<0):=ω
 have r:¬(n*inf.size=0):=χ
 simp[Builtin.append_,run_underlying dZ,run_underlying Pb,sizeOf,typeInfo,zeroValue,p,o,asInt,asIntOf,q,s,b,g,k,j,Question.forced,d,newRow]at f;rcases events_firstCells_in (P:=prog) (·=E) inf.size i _ w.drew _ (λa l c e=>by
  grind) ev f with h|⟨m,a1,a2,a3⟩
 .exact .inr (qC _ _ ev h)
 simp_all
def WG{w:aj}{es:dS}{g:oQ}(a:∀e∈es,G4 Ok w' e)(d:w.grownBy w' g)(e:∀b,g=some b->∃Z t f,w.heap[b]? =some (.cells Z t f))(b:∀(f:Addr)(wr:Bool),some f.block=g->Ok f wr):DX Ok w w' es:=by
 refine⟨a,d.size,λc a e a=>?_,λf j h=>?_,λk i a=>d.block k i (λz=>a ⟨k,0,none⟩ rfl (b _ _ z)),d.os,d.tape,d.output⟩
 .have a:some c≠g:=λz=>by
   grind
  exact(d.block c (cU.1 e).1 a).trans e
 .have a:some f.block≠g:=λz=>j (b _ _ z);have:=d.block _ h a;exact⟨World.cell?_of_block this,World.frozen?_of_block this⟩
section
variable{V:gi}{a:Act}{w:aj}{o:Oper}
def aB.BQ(F:aB prog main (DX Ok) V)(z:O[i]? =some o)(u:Region.wanted o (yielded O a.tmps)=true)(A:b.kind≠.early)(s x:Operand)(l:o.op=.call {callee:=.builtin .append,args:=#[s,x],argTypes:=#[100,100]}){f:ay}{t:Int}{es:jl}(y:es.length<2000000)(C:N<=w.heap.size)(p:a.eval s=v)(n:a.eval x=.slice (some ⟨nb,0,none⟩) 1 1)(m:fZ N w v es)(r:w.cell? ⟨nb,0,none⟩=some (.int .i64 t))(D:w.cell? ⟨nb,1,none⟩=some f)(B:f.oneCell'=true)(c:∀(e:Addr)(wr:Bool),some e.block=v.ownBlock->Ok e wr)(j:∀e:Addr,e.block=nb->Ok e false)(h:∀v' w',fZ N w' v' (es++[(t,f)])->w.grownBy w' v.ownBlock->(v'.ownBlock=v.ownBlock\/v'.ownBlock=some w.heap.size)->V (G (b.at (a.put o.dst v') (.inRegion O rest::k)) cs) w'):
 V (G (b.at a (.inRegion O (i::rest)::k)) cs) w:=by
 refine F.OA z u A λd K k=>?_;let⟨v',w',f,b,a,t,i⟩:=xB (w.at d) o.type (N:=N) C (v:=v) y m r D B;refine uponK_append s x 100 l p n f (k _ w' ⟨WG (λev k=>?_) a (λg d=>by let⟨_,Z,f⟩:=fZ.lt m d;exact⟨Z,_,_,f⟩) c,h v' w' b ⟨a.os,a.tape,a.output,a.size,a.block⟩ t⟩);have q:=mem_listed k;rw[events_append_op s x 100 l p n]at q;rcases i ev q with ⟨e,d,⟨b,g⟩|b⟩|d
 .exact .inl ⟨e,d,rfl,by rw[b];exact j e g,by rw[g];exact ga (au (w:=w) r) a.size⟩
 .let⟨g,Z,f⟩:=fZ.lt m b.symm;exact .inl ⟨e,d,rfl,c _ _ b,ga (cU.1 f).1 a.size⟩
 .exact .inr d
def aB.aaj(F:aB prog main (DX Ok) V)(M:O[i]? =some o)(J:Region.wanted o (yielded O a.tmps)=true)(y:b.kind≠.early)(s x:Operand)(l:o.op=.call {callee:=.builtin .append,args:=#[s,x],argTypes:=#[100,3]}){U p:Nat}(D:a.eval s=.slice (some ⟨E,off,none⟩) p U)(C:a.eval x=.int .i64 n)(I:w.heap[E]? =some (.cells Z 128 (0,0)))(v:xs.length=2*p)(s:∀(j:Nat)(u:ay),xs[j]? =some u->Z[off+j]? =some u)(j:0<n)(N:U<p+n)(x:p+n<2000000)(r:∀e:Addr,e.block=E->Ok e false)(h:∀q c u,p+n<=q->c.size=2*(q-p)->w.alloc (.cells (xs.toArray++c) 128)=u->V (G (b.at (a.put o.dst (.slice (some ⟨w.heap.size,0,none⟩) (p+n) q)) (.inRegion O rest::k)) cs) u):
 V (G (b.at a (.inRegion O (i::rest)::k)) cs) w:=by
 refine F.OA M J y λd K i=>?_;let⟨q,c,b,P,t,B⟩:=xA (w.at d) o.type (n:=n) I v s j N x;have m:(w.at d).grownBy ((w.at d).drew.alloc (.cells (xs.toArray++c) 128)) none:=⟨rfl,rfl,rfl,ψ,λk y _=>Below.heap_alloc (w.at d).drew _ k y⟩
 have f:uponK o a K ((execOp a.eval o).run prog (w.at d)):=by
  unfold execOp;simp only[l,resolve,invoke,builtin,Am,An,Hv,YX,nP,uf,D,C,b];refine i _ _ ⟨WG (g:=none) (λev L=>?_) m nofun nofun,?_⟩
  .have H:=mem_listed L;have b:(execOp a.eval o).events prog (w.at d) #[]=(Builtin.append_ #[100,3] o.type #[.slice (some ⟨E,off,none⟩) p U,.int .i64 n]).events prog (w.at d) #[]:=by
    unfold execOp;simp only[l,resolve,invoke,builtin,YV,An,Sem.events_pure,xg,YX,nP,uf,D,C];simp_all
   rw[b]at H;rcases B ev H with ⟨e,a,g,b⟩|a
   .exact .inl ⟨e,a,rfl,by rw[g];exact r e b,by rw[b];exact ga (cU.1 I).1 m.size⟩
   .exact .inr a
  .exact F.at' _ (w.alloc (.cells (xs.toArray++c) 128)) (d+1) (h q c _ P t rfl)
 exact f
def aB.BH(F:aB prog main (DX Ok) V)(L:O[i]? =some o)(I:Region.wanted o (yielded O a.tmps)=true)(t:b.kind≠.early)(s x:Operand)(m:o.op=.call {callee:=.builtin .copy,args:=#[s,x],argTypes:=#[100,100]}){p:Nat}{bb:Addr}(D:a.eval s=.slice (some ⟨E,p,none⟩) dl dc)(C:a.eval x=.slice (some bb) sl sc)(B:w.heap[E]? =some (.cells Z 128 (0,0)))(x:n=Nat.min sl dl)(M:vs.length=2*n)(q:p+vs.length<=Z.size)(s:∀j u,vs[j]? =some u->w.cell? (bb.add j)=some u)(N:∀u∈vs,u.oneCell'=true)(l:∀(c:Addr)(wr:Bool),c.block=E->Ok c wr)(r:∀c:Addr,c.block=bb.block->Ok c false)(A:bb.block<w.heap.size)(h:∀j,w.setRow E (Z.toList.take p++vs++Z.toList.drop (p+vs.length)).toArray=j->V (G (b.at (a.put o.dst (.int .i64 n)) (.inRegion O rest::k)) cs) j):
 V (G (b.at a (.inRegion O (i::rest)::k)) cs) w:=by
 refine F.op L I t λd K i=>?_;let⟨b,y⟩:=LY (w.at d) o.type (dc:=dc) (sc:=sc) B x M q s N;have f:(w.at d).grownBy ((w.at d).setRow E (Z.toList.take p++vs++Z.toList.drop (p+vs.length)).toArray) (some E):=⟨rfl,rfl,rfl,ψ,λk _ t=>setRow_other _ E k _ (λe=>t (by rw[e]))⟩;unfold execOp;simp only[m,resolve,invoke,builtin,Am,An,Hv,YX,nP,uf,D,C,b];refine i _ (w.setRow E (Z.toList.take p++vs++Z.toList.drop (p+vs.length)).toArray) ⟨WG (g:=some E) (λev J=>?_) f (λg v=>by cases v;exact⟨_,_,_,B⟩) (λc wr z=>l c wr (Option.some.inj z)),h _ rfl⟩;have H:=mem_listed J;have b:(execOp a.eval o).events prog (w.at d) #[]=(Builtin.copy_ #[100,100] o.type #[.slice (some ⟨E,p,none⟩) dl dc,.slice (some bb) sl sc]).events prog (w.at d) #[]:=by
  unfold execOp;simp only[m,resolve,invoke,builtin,YV,An,Sem.events_pure,xg,YX,nP,uf,D,C];simp_all
 rw[b]at H;obtain⟨c,d,⟨a,b⟩|a⟩:=y ev H
 .exact .inl ⟨c,d,rfl,by rw[a];exact r c b,by rw[b];exact ga A f.size⟩
 .exact .inl ⟨c,d,rfl,l _ _ a,by rw[a];exact ga (cU.1 B).1 f.size⟩
def sE(v:O[i]? =some o)(t:Region.wanted o (yielded O a.tmps)=true)(y:b.kind≠.early)(s x:Operand)(l:o.op=.call {callee:=.value (.func 86),args:=#[s,x],argTypes:=ats}){p:Nat}{h d:gd}{j g:TypeId}(u:a.eval s=.slice (some ⟨nb,0,none⟩) la ca)(r:a.eval x=.slice (some ⟨E,p,none⟩) lb cb)(q:w.heap[nb]? =some (.cells h j (0,0)))(n:w.heap[E]? =some (.cells d g (0,0)))(f:nb≠E)(A:d.size≠0):
 stepG prog main (G (b.at a (.inRegion O (i::rest)::k)) cs) w=.go (G (b.at (a.put o.dst (.bool false)) (.inRegion O rest::k)) cs) w #[]:=by
 have i:∀w,(Go.sizeOf 128).run prog w=.ok 2 w:=λw=>by
  rfl
 have b:∀(k:Nat),w.frozen? ⟨nb,k,none⟩=false:=λk=>by simp[World.frozen?,q]
 have e:w.shape? nb=some (j,h.size):=by simp[World.shape?,q]
 have c:w.shape? E=some (g,d.size):=by simp[World.shape?,n]
 have o:=Lib.run_overlaps_apart (P:=prog) w 100 4 128 dZ 2 i ⟨nb,0,none⟩ ⟨E,p,none⟩ la ca lb cb f j g h.size d.size e c A (b 0) (b _);refine stepG_entry (e:=Extern.SlicesOverlaps.overlaps #[100,100] #[4]) v t y l func86 ρ ρ ρ ρ (v:=.bool false) (w':=w) (evs:=#[]) ξ ?_ ψ;rw[show(#[s,x]:Array Operand).map a.eval=#[a.eval s,a.eval x]from by simp,u,r];have a:(nb !=E)=true:=ξ
 have g:(nb==E)=false:=ξ
 obtain⟨m,a⟩:∃m,d.size=m+1:=⟨d.size-1,ω⟩;rw[a]at c;have i:=b 0;have d:=b h.size;let⟨inf,z,j,_,h,_,a⟩:=lO;unfold Extern.SlicesOverlaps.overlaps;delta Extern.SlicesOverlaps.overlaps.match_4;dsimp -zeta only[Array.casesOn,Array.size,List.length,Array.getLit];have a:¬nb=E:=f;have b:∀(k:Nat),w.frozen? ⟨E,k,none⟩=false:=λk=>by simp[World.frozen?,n]
 simp[run_underlying dZ,sizeOf,typeInfo,j,h,g,a,noView,viewAt,mayBeOne,stringish,e,c,i,d,b,Result.evThen]
def aB.apart(F:aB prog main (DX Ok) V)(m:O[i]? =some o)(j:Region.wanted o (yielded O a.tmps)=true)(n:b.kind≠.early)(s x:Operand)(c:o.op=.call {callee:=.value (.func 86),args:=#[s,x],argTypes:=ats}){p:Nat}{t f:gd}{r e:TypeId}(l:a.eval s=.slice (some ⟨nb,0,none⟩) la ca)(g:a.eval x=.slice (some ⟨E,p,none⟩) lb cb)(q:w.heap[nb]? =some (.cells t r (0,0)))(p:w.heap[E]? =some (.cells f e (0,0)))(e:nb≠E)(r:f.size≠0)(h:V (G (b.at (a.put o.dst (.bool false)) (.inRegion O rest::k)) cs) w):V (G (b.at a (.inRegion O (i::rest)::k)) cs) w:=by
 refine F.step _ _ rfl λd=>⟨_,w.at d,#[],sE m j n s x c l g q p e r,F.idle _ _,F.at' _ _ _ h,λz v _ _=>?_⟩
 have a:(Yq z v E f).size=f.size:=by unfold Yq;grind
 exact sE m j n s x c l g (vF (w:=w.at d) z v q) (vF (w:=w.at d) z v p) e ω
end
def l6(w:aj){q U:Nat}{l:Int}{L:Nat}(d:l=L)(b:L<=q)(e:q<=U):(Instr.sliceAt 100 (.slice (some ⟨E,off,none⟩) q U) (some (.int .i64 l)) none none).run prog w=.ok (.slice (some (if U=L then⟨E,off,none⟩else⟨E,off+L*2,none⟩)) (q-L) (U-L)) w/\
 (Instr.sliceAt 100 (.slice (some ⟨E,off,none⟩) q U) (some (.int .i64 l)) none none).events prog w #[]=#[]:=by
 let⟨inf,z,a,_,c,_,e⟩:=lO;subst d;have d:(L:Int)<=(q:Int):=ω
 constructor
 .simp[Instr.sliceAt,run_underlying dZ,Instr.slice,Instr.sliceBounds,Instr.sliceBound,asIntOf,sizeOf,typeInfo,a,c,b,ey];grind
 .simp[Instr.sliceAt,run_underlying dZ,Instr.slice,Instr.sliceBounds,Instr.sliceBound,asIntOf,sizeOf,typeInfo,a,b]
def Ki(w:aj){b:Addr}{q U:Nat}{l:Int}{L:Nat}(d:l=L)(c:L<=U):(Instr.sliceAt 100 (.slice (some b) q U) none (some (.int .i64 l)) none).run prog w=.ok (.slice (some b) L U) w/\
 (Instr.sliceAt 100 (.slice (some b) q U) none (some (.int .i64 l)) none).events prog w #[]=#[]:=by
 let⟨inf,z,a,_,_,_,e⟩:=lO;subst d;have d:(L:Int)<=(U:Int):=ω
 have d:b.add 0=b:=φ
 constructor
 .simp[Instr.sliceAt,run_underlying dZ,Instr.slice,Instr.sliceBounds,Instr.sliceBound,asIntOf,sizeOf,typeInfo,a,c,d]
 .simp[Instr.sliceAt,run_underlying dZ,Instr.slice,Instr.sliceBounds,Instr.sliceBound,asIntOf,sizeOf,typeInfo,a,c]
def pP(R:gd)(p:Nat)(vs:iO):Array Value:=(R.toList.take p++vs++R.toList.drop (p+vs.length)).toArray
def jL{p:Nat}(h:p+vs.length<=R.size):(pP R p vs).size=R.size:=pO R p vs h
def Bh{R1 R2:gd}{o q:Nat}{a:iO}(b:xs.length=2*q)(b:i<=q)(b:a.length=2)(b:o+2*(q+1)<=R.size)(b:∀(j:Nat)(u:ay),j<2*i->xs[j]? =some u->R[o+j]? =some u)(h:(R1=pP R (o+i*2) a/\R2=pP R1 (o+(i+1)*2) (xs.drop (2*i)))\/(R1=pP R (o+(i+1)*2) (xs.drop (2*i))/\R2=pP R1 (o+i*2) a)):
 ∀(j:Nat)(u:ay),(xs.take (2*i)++(a++xs.drop (2*i)))[j]? =some u->R2[o+j]? =some u:=by
 have c:(xs.drop (2*i)).length=2*q-2*i:=θ
 have f:(xs.take (2*i)).length=2*i:=θ
 intro j u e;have key:R2[o+j]? =if j<2*i then R[o+j]? else if j<2*i+2 then a[j-2*i]? else if j<2*q+2 then(xs.drop (2*i))[j-(2*i+2)]? else R[o+j]? :=by
  rcases h with ⟨rfl,rfl⟩|⟨rfl,rfl⟩
  .have d:(pP R (o+i*2) a).size=R.size:=jL ω;rw[pP,eE _ _ _ ω,c];by_cases a:j<2*i
   .rw[sJ ω,sJ a,pP,eE _ _ _ ω,sJ ω]
   .rw[af a];by_cases b:j<2*i+2
    .rw[sJ ω,sJ b,pP,eE _ _ _ ω,af ω,sJ ω];grind
    .rw[af ω,af b];by_cases c3:j<2*q+2
     .rw[sJ ω,sJ c3];congr 1;omega
     grind
  .have d:(pP R (o+(i+1)*2) (xs.drop (2*i))).size=R.size:=jL ω;rw[pP,eE _ _ _ ω];by_cases a:j<2*i
   .rw[sJ ω,sJ a,pP,eE _ _ _ ω,sJ ω]
   .rw[af ω,af a];by_cases b:j<2*i+2
    .grind
    .rw[af ω,af b,pP,eE _ _ _ ω,af ω,c];by_cases c3:j<2*q+2
     .rw[sJ ω,sJ c3];congr 1;omega
     grind
 rw[key];by_cases a:j<2*i
 .grind
 .rw[af a];rw[vf ω,f]at e;grind
def yf(es:jl)(i:Nat)(t:Int)(f:ay):flat (es.take i++(t,f)::es.drop i)=(flat es).take (2*i)++([.int .i64 t,f]++(flat es).drop (2*i)):=by
 rw[lS,uJ,show flat ((t,f)::es.drop i)=.int .i64 t::f::flat (es.drop i)from rfl,uK];rfl
def IP{es:jl}(h:∀e∈es,e.2.oneCell'=true){f:ay}(a:f.oneCell'=true)(i:Nat)(t:Int):∀e∈es.take i++(t,f)::es.drop i,e.2.oneCell'=true:=λe a=>by
 grind
def qL(es:jl)(i:Nat)(t:Int)(f:ay)(h:i<=es.length):(es.take i++(t,f)::es.drop i).length=es.length+1:=θ
def Kp.setRow(w:aj)(E:Nat)(cs:gd):Kp [E] w (w.setRow E cs):=by
 have:=Kp.grown (v:=.slice (some ⟨E,0,none⟩) 0 0) (w:=w) (w':=w.setRow E cs) ⟨rfl,rfl,rfl,ψ,λk _ a=>setRow_other w E k _ (λe=>a (by simp[Value.ownBlock,e]))⟩;simpa [cw,Value.ownBlock]using this
def nS{x:Int}(a:0<=x)(a:x<1000000000):IntKind.i64.wrap x=x:=by rw[IntKind.wrap_i64];omega
def rT{w:aj}{t:Int}{f:ay}{a:TypeId}(h:w.heap[nb]? =some (.cells #[.int .i64 t,f] a (0,0))):∀j u,([.int .i64 t,f]:iO)[j]? =some u->w.cell? ((⟨nb,0,none⟩:Addr).add j)=some u:=λj u a=>by
 rw[ey,oz h,bK,Hz];exact a
def NT(w:aj)(b:eP)(c:Nat):(Instr.sliceAt 100 (.slice b 0 c) (some (.int .i64 0)) none none).events prog w #[]=#[]:=by
 rfl
def CE(N nb i:Nat)(t:Int)(f:ay)(tb:TypeId)(D:aj)(es:jl)(To:es.length<1000000)(hi:i<=es.length)(hN:N<=D.heap.size){en:ay}(J:fZ N D en es)(W:D.heap[nb]? =some (.cells #[.int .i64 t,f] tb (0,0)))(hf:f.oneCell'=true)(qM:nb∉cw en)(W7:∀(B:Addr)(wr:Bool),B.block∈cw en\/D.heap.size<=B.block->Ok B wr)(O:∀B:Addr,B.block=nb->Ok B false):
 fG prog main (DX Ok) 60 #[en,.int .i64 i,.slice (some ⟨nb,0,none⟩) 1 1] D λv' w'=>fZ N w' v' (es.take i++(t,f)::es.drop i)/\Kp (cw en) D w'/\∀g∈cw v',g∈cw en\/D.heap.size<=g:=by
 have U6:nb<D.heap.size:=(cU.1 W).1;have Tr:=rT W;intro V F c cs hc;simp only[enter_at _ func60 rfl,ntmps60];walk_nrm;rcases id J.2 with ⟨rfl,rfl⟩|⟨E,off,U,Z,rfl,hle,hE,C,VC,Qb⟩
 .obtain rfl:i=0:=ξ
  refine F.sr ?_;simp only[rg];refine F.aJ ?_;refine F.re ?_;refine F.cF ?_;iterate 2 (refine F.aJ ?_)
  refine F.AZ rfl rfl δ (λ_=>φ) (λd K x=>?_);go_simp;refine x _ ?_;clear x K d;try walk_nrm
  refine F.dA ?_;iterate 3 (refine F.aJ ?_)
  refine F.es ?_;refine F.cF ?_;iterate 2 (refine F.aJ ?_)
  refine F.re ?_;refine F.cf rfl ?_;refine F.sk ?_;refine F.cF ?_;iterate 3 (refine F.aJ ?_)
  refine F.es ?_;refine F.cF ?_;iterate 3 (refine F.aJ ?_)
  refine F.re ?_;refine F.ct rfl ?_;refine F.cF ?_;iterate 2 (refine F.aJ ?_)
  refine F.BQ rfl rfl δ (.tmp 23) (.tmp 24) rfl (N:=N) (nb:=nb) (v:=.slice none 0 0) (es:=[]) (t:=t) (f:=f) δ hN rfl rfl J (Tr 0 _ rfl) (Tr 1 _ rfl) hf nofun O ?_;intro v' w' ho X hb;try walk_nrm
  refine F.aJ ?_;refine F.tC func60 ?_;refine hc _ _ ⟨ho,Kp.grown X,λg (h:g∈cw v')=>.inr ?_⟩;rw[bS]at h;rcases hb with y|y;rw[y]at h;cases h;simp_all
 have XV:E<D.heap.size:=(cU.1 C).1;have n:=J.1;have P:∀(B:Addr)(wr:Bool),B.block=E->Ok B wr:=λB wr h=>W7 B wr (.inl (by simp[cw,Value.ownBlock,h]));have R:∀(B:Addr)(wr:Bool),D.heap.size<=B.block->Ok B wr:=λB wr h=>W7 B wr (.inr h);replace qM:nb≠E:=λh=>qM (by simp[cw,Value.ownBlock,h]);replace hc:∀v' w',fZ N w' v' (es.take i++(t,f)::es.drop i)/\Kp [E] D w'/\(∀g∈cw v',g=E\/D.heap.size<=g)->V (G (c.finish v') cs) w':=λv w h=>hc v w ⟨h.1,h.2.1,λg X=>(h.2.2 g X).imp (λe=>by simp[cw,Value.ownBlock,e]) id⟩;have QM:=ia es;have X2:∀u∈([.int .i64 t,f]:iO),u.oneCell'=true:=by intro u L;simp at L;rcases L with rfl|rfl;rfl;exact hf
 have U0:=yd es n;generalize hq:es.length=q at To hi hle QM J hc;have c:(q:Int)+1<=1000001:=ω
 have c:IntKind.i64.wrap ((q:Int)+1)=(q:Int)+1:=nS ω ω;have c:IntKind.i64.wrap ((i:Int)+1)=(i:Int)+1:=nS ω ω;have wn:IntKind.i64.wrap ((q:Int)+1-(i:Int))=((q+1-i:Nat):Int):=by rw[nS ω ω];omega
 have c:∀w,(Instr.sliceAt 100 (.slice (some ⟨E,off,none⟩) q U) (some (.int .i64 i)) none none).events prog w #[]=#[]:=λw=>(l6 w rfl hi hle).2;by_cases c:i=q
 .have c1:((i:Int)==(q:Int))=true:=θ
  have e:i<=q/\q<=i:=⟨hi,pK c.symm⟩;clear c;have c:es.take i++(t,f)::es.drop i=es++[(t,f)]:=by rw[List.take_of_length_le ω,List.drop_of_length_le ω]
  refine F.sr ?_;simp only[rg];refine F.aJ ?_;refine F.dA ?_;iterate 3 (refine F.oq rfl rfl rfl (λ_=>by first|(simp[go_sem];done)|simp[go_sem, *]) λd K x=>?_;go_simp;refine x _ ?_;clear x K d;try walk_nrm)
  refine F.dA ?_;iterate 3 (refine F.aJ ?_)
  refine F.es ?_;refine F.cF ?_;iterate 2 (refine F.aJ ?_)
  refine F.re ?_;refine F.cf rfl ?_;refine F.sk ?_;refine F.cF ?_;iterate 3 (refine F.aJ ?_)
  refine F.es ?_;refine F.cF ?_;iterate 3 (refine F.aJ ?_)
  refine F.re ?_;refine F.ct rfl ?_;refine F.cF ?_;iterate 2 (refine F.aJ ?_)
  refine F.BQ rfl rfl δ (.tmp 23) (.tmp 24) rfl (N:=N) (nb:=nb) (v:=.slice (some ⟨E,off,none⟩) q U) (es:=es) (t:=t) (f:=f) ω hN rfl rfl J (Tr 0 _ rfl) (Tr 1 _ rfl) hf (λB wr h=>P B wr (Option.some.inj h)) O ?_;intro v' w' ho X hb;try walk_nrm
  refine F.aJ ?_;refine F.tC func60 ?_;refine hc _ _ ⟨ξ,?_,λg h=>?_⟩
  .have:=Kp.grown X;simpa [cw,Value.ownBlock]using this
  .rw[bS]at h;rcases hb with y|y
   .exact .inl (Option.some.inj (h.symm.trans y))
   simp_all
 have c1:((i:Int)==(q:Int))=false:=θ
 have c:(U=i)=False:=θ
 have c:i<q:=ω
 have hpn:i+(q+1-i)=q+1:=ω
 have Xw:=IP n hf i t;have c:(i:Int)<=(U:Int):=ω
 have c:i<=U:=ω
 have c:∀w,(Builtin.cap_ #[100] 3 #[.slice (some ⟨E,off,none⟩) q U]).events prog w #[]=#[]:=λw=>φ
 have c:((i:Int)+1).toNat=i+1:=ω
 have c:((q:Int)+1).toNat=q+1:=ω
 have ip:(0:Int)<=(i:Int)+1:=ω
 have c:(0:Int)<=(q:Int)+1:=ω
 have c:(i:Int)<=(q:Int):=ω
 have c:(i:Int)+1<=(q:Int)+1:=ω
 have hxt:((flat es).take (2*i)).length=2*i:=θ
 have Uy:((flat es).drop (2*i)).length=2*(q-i):=θ
 have Qj:∀j u,((flat es).drop (2*i))[j]? =some u->Z[off+i*2+j]? =some u:=λj u L=>by
  grind
 have Y:∀u∈(flat es).drop (2*i),u.oneCell'=true:=λu L=>U0 u (DV L);refine F.sr ?_;simp only[rg];refine F.aJ ?_;refine F.dA ?_;iterate 3 (refine F.oq rfl rfl rfl (λ_=>by first|(simp[go_sem];done)|simp[go_sem, *]) λd K x=>?_;go_simp;refine x _ ?_;clear x K d;try walk_nrm)
 refine F.dA ?_;iterate 3 (refine F.aJ ?_)
 refine F.es ?_;refine F.cF ?_;iterate 2 (refine F.aJ ?_)
 refine F.re ?_;refine F.cf rfl ?_;refine F.sk ?_;refine F.cF ?_;iterate 3 (refine F.aJ ?_)
 refine F.es ?_;refine F.cF ?_;iterate 3 (refine F.aJ ?_)
 refine F.re ?_;refine F.cf rfl ?_;refine F.sk ?_;refine F.sq ?_;refine F.cF ?_;iterate 6 (refine F.oq rfl rfl rfl (λ_=>by first|(simp[go_sem];done)|simp[go_sem, *]) λd K x=>?_;go_simp;refine x _ ?_;clear x K d;try walk_nrm)
 refine F.re ?_;by_cases c:q+1<=U
 .have c3:((U:Int)<(q:Int)+1)=False:=θ
  have e:(q:Int)+1<=(U:Int):=ω
  have e:(U=i+1)=False:=θ
  have UN:(i:Int)<=(q:Int)+1:=ω
  have Qs:q+1-(i+1)=q-i:=ω
  have e:∀w,(Instr.sliceAt 100 (.slice (some ⟨E,off,none⟩) q U) none (some (.int .i64 ((q:Int)+1))) none).events prog w #[]=#[]:=λw=>(Ki w (L:=q+1) ω c).2;have c:∀w,(Instr.sliceAt 100 (.slice (some ⟨E,off,none⟩) (q+1) U) (some (.int .i64 ((i:Int)+1))) none none).events prog w #[]=#[]:=λw=>(l6 w (L:=i+1) ω ω ω).2;have c:∀w,(Instr.sliceAt 100 (.slice (some ⟨E,off,none⟩) (q+1) U) (some (.int .i64 i)) none none).events prog w #[]=#[]:=λw=>(l6 w rfl ω ω).2;simp only[c3,decide_false];refine F.cf rfl ?_;refine F.sk ?_;refine F.cF ?_;iterate 6 (refine F.oq rfl rfl rfl (λ_=>by first|(simp[go_sem];done)|simp[go_sem, *]) λd K x=>?_;go_simp;refine x _ ?_;clear x K d;try walk_nrm)
  refine F.es ?_;refine F.cF ?_;iterate 6 (refine F.oq rfl rfl rfl (λ_=>by first|(simp[go_sem];done)|simp[go_sem, *]) λd K x=>?_;go_simp;refine x _ ?_;clear x K d;try walk_nrm)
  refine F.apart rfl rfl δ (.tmp 61) (.tmp 66) rfl (nb:=nb) (E:=E) rfl rfl W C qM ω ?_;try walk_nrm
  refine F.oq rfl rfl rfl (λ_=>φ) λd K x=>?_;go_simp;refine x _ ?_;clear x K d;try walk_nrm
  refine F.re ?_;refine F.ct rfl ?_;refine F.sq ?_;refine F.yw (γ:=Unit) (n:=9) mixed [[],[],[],[1,2],[0,3],[],[],[5,6],[4,7]] rfl ρ (λb g=>[(69,dB (b 0) (.slice (some ⟨E,off,none⟩) (q+1) U) (undef)),(70,dB (b 1) (.int .i64 i) (undef)),(71,dB (b 2) (.int .i64 1) (undef)),(72,dB (b 3) (.int .i64 ((i:Int)+1)) (undef)),(73,dB (b 4) (.slice (some ⟨E,off+(i+1)*2,none⟩) (q-i) (U-(i+1))) (undef)),(74,dB (b 5) (.slice (some ⟨E,off,none⟩) (q+1) U) (undef)),(75,dB (b 6) (.int .i64 i) (undef)),(76,dB (b 7) (.slice (some ⟨E,off+i*2,none⟩) (q+1-i) (U-i)) (undef)),(77,dB (b 8) (.int .i64 ((q-i:Nat):Int)) (undef))]) (λb g w=>(b 8=false->w=D)/\(b 8=true->(D.setRow E (pP Z (off+(i+1)*2) ((flat es).drop (2*i)))=w))) (()) (by simp only[pu]) (⟨λ_=>rfl,nofun⟩) (all_cons ?_ (all_cons ?_ (all_cons ?_ (all_cons ?_ (all_cons ?_ (all_cons ?_ (all_cons ?_ (all_cons ?_ (all_cons ?_ (all_nil)))))))))) ?_
  .intro b g w z l a r rest A o;let⟨m,s⟩:=z;replace a:b 0=false:=a;have gD:=dy (l 4 0 rfl) a;have dG:=dy (l 8 4 rfl) gD;have p:=(m dG).symm;subst p;simp only[gD,dG,a,pu];refine F.aJ ?_;have k:=o g _ ⟨λ_=>rfl,λh=>no dG h⟩;simp only[gD,dG,a,pu,Nat.reduceEqDiff,reduceIte]at k;exact k
  .intro b g w z l a r rest A o;let⟨m,s⟩:=z;replace a:b 1=false:=a;have Yl:=dy (l 3 1 rfl) a;have gD:=dy (l 4 3 rfl) Yl;have dG:=dy (l 8 4 rfl) gD;have p:=(m dG).symm;subst p;simp only[Yl,gD,dG,a,pu];refine F.aJ ?_;have k:=o g _ ⟨λ_=>rfl,λh=>no dG h⟩;simp only[Yl,gD,dG,a,pu,Nat.reduceEqDiff,reduceIte]at k;exact k
  .intro b g w z l a r rest A o;let⟨m,s⟩:=z;replace a:b 2=false:=a;have Yl:=dy (l 3 2 rfl) a;have gD:=dy (l 4 3 rfl) Yl;have dG:=dy (l 8 4 rfl) gD;have p:=(m dG).symm;subst p;simp only[Yl,gD,dG,a,pu,Nat.reduceAdd];refine F.aJ ?_;have k:=o g _ ⟨λ_=>rfl,λh=>no dG h⟩;simp only[Yl,gD,dG,a,pu,Nat.reduceAdd,Nat.reduceEqDiff,reduceIte]at k;exact k
  .intro b g w z l a r rest A o;let⟨m,s⟩:=z;replace a:b 3=false:=a;have d1:=r 1 rfl;have d2:=r 2 rfl;have gD:=dy (l 4 3 rfl) a;have dG:=dy (l 8 4 rfl) gD;have p:=(m dG).symm;subst p;simp only[d1,d2,gD,dG,a,pu,Nat.reduceAdd];refine F.aJ ?_;have k:=o g _ ⟨λ_=>rfl,λh=>no dG h⟩;simp only[d1,d2,gD,dG,a,pu,Nat.reduceAdd,Nat.reduceEqDiff,reduceIte]at k;exact k
  .intro b g w z l a r rest A o;let⟨m,s⟩:=z;replace a:b 4=false:=a;have d0:=r 0 rfl;have d3:=r 3 rfl;have dG:=dy (l 8 4 rfl) a;have p:=(m dG).symm;subst p;simp only[d0,d3,dG,a,pu,Nat.reduceAdd];refine F.oq rfl rfl rfl (λ_=>by first|(simp[go_sem];done)|simp[go_sem, *]) λd K x=>?_;go_simp;refine x _ ?_;clear x K d;try walk_nrm
   have k:=o g _ ⟨λ_=>rfl,λh=>no dG h⟩;simp only[d0,d3,dG,a,pu,Nat.reduceAdd,Nat.reduceEqDiff,reduceIte]at k;exact k
  .intro b g w z l a r rest A o;let⟨m,s⟩:=z;replace a:b 5=false:=a;have vN:=dy (l 7 5 rfl) a;have dG:=dy (l 8 7 rfl) vN;have p:=(m dG).symm;subst p;simp only[vN,dG,a,pu,Nat.reduceAdd];refine F.aJ ?_;have k:=o g _ ⟨λ_=>rfl,λh=>no dG h⟩;simp only[vN,dG,a,pu,Nat.reduceAdd,Nat.reduceEqDiff,reduceIte]at k;exact k
  .intro b g w z l a r rest A o;let⟨m,s⟩:=z;replace a:b 6=false:=a;have vN:=dy (l 7 6 rfl) a;have dG:=dy (l 8 7 rfl) vN;have p:=(m dG).symm;subst p;simp only[vN,dG,a,pu,Nat.reduceAdd];refine F.aJ ?_;have k:=o g _ ⟨λ_=>rfl,λh=>no dG h⟩;simp only[vN,dG,a,pu,Nat.reduceAdd,Nat.reduceEqDiff,reduceIte]at k;exact k
  .intro b g w z l a r rest A o;let⟨m,s⟩:=z;replace a:b 7=false:=a;have d5:=r 5 rfl;have d6:=r 6 rfl;have dG:=dy (l 8 7 rfl) a;have p:=(m dG).symm;subst p;simp only[d5,d6,dG,a,pu,Nat.reduceAdd];refine F.oq rfl rfl rfl (λ_=>by first|(simp[go_sem];done)|simp[go_sem, *]) λd K x=>?_;go_simp;refine x _ ?_;clear x K d;try walk_nrm
   have k:=o g _ ⟨λ_=>rfl,λh=>no dG h⟩;simp only[d5,d6,dG,a,pu,Nat.reduceAdd,Nat.reduceEqDiff,reduceIte]at k;exact k
  .intro b g w z l a r rest A o;let⟨m,s⟩:=z;replace a:b 8=false:=a;have d4:=r 4 rfl;have d7:=r 7 rfl;have p:=(m a).symm;subst p;simp only[d4,d7,a,pu,Nat.reduceAdd];refine F.BH rfl rfl δ (.tmp 73) (.tmp 76) rfl (E:=E) (p:=off+(i+1)*2) (n:=q-i) (vs:=(flat es).drop (2*i)) (bb:=⟨E,off+i*2,none⟩) rfl rfl C (Nat.min_eq_right ω).symm Uy ω (oA C Qj) Y P (λB h=>P B false h) XV ?_;intro w3 Q;try walk_nrm
   have k:=o g _ ⟨λh=>by simp[tick]at h,λ_=>Q⟩;simp only[d4,d7,a,pu,Nat.reduceAdd,Nat.reduceEqDiff,reduceIte]at k;exact k
  intro b g w z n;let⟨m,s⟩:=z;simp only[n 0 δ,n 1 δ,n 2 δ,n 3 δ,n 4 δ,n 5 δ,n 6 δ,n 7 δ,n 8 δ,pu];have H:=s (n 8 δ);have s1:(pP Z (off+(i+1)*2) ((flat es).drop (2*i))).size=Z.size:=jL ω;have S:w.heap[E]? =some (.cells (pP Z (off+(i+1)*2) ((flat es).drop (2*i))) 128 (0,0)):=by rw[<-H];exact setRow_heap D E _ _ 128 _ C
  have T:w.heap[nb]? =some (.cells #[.int .i64 t,f] tb (0,0)):=by rw[<-H,setRow_other _ E nb _ qM];exact W
  have c:w.heap.size=D.heap.size:=by rw[<-H];simp
  refine F.dA ?_;iterate 4 (refine F.oq rfl rfl rfl (λ_=>by first|(simp[go_sem];done)|simp[go_sem, *]) λd K x=>?_;go_simp;refine x _ ?_;clear x K d;try walk_nrm)
  refine F.BH rfl rfl δ (.tmp 80) (.tmp 81) rfl (E:=E) (p:=off+i*2) (n:=1) (vs:=[.int .i64 t,f]) (bb:=⟨nb,0,none⟩) rfl rfl S (Nat.min_eq_left ω).symm rfl χ (rT T) X2 P O χ ?_;intro w2 M;try walk_nrm
  refine F.dA ?_;iterate 2 (refine F.aJ ?_)
  refine F.tC func60 ?_;have OH:w2.heap[E]? =some (.cells (pP (pP Z (off+(i+1)*2) ((flat es).drop (2*i))) (off+i*2) [.int .i64 t,f]) 128 (0,0)):=by rw[<-M];exact setRow_heap w E _ _ 128 _ S
  refine hc _ _ ⟨⟨Xw,.inr ⟨E,off,U,_,by rw[qL es i t f ω,hq];rfl,χ,hE,OH,?_,λj u L=>?_⟩⟩,?_,λg X=>?_⟩
  .rw[jL χ,s1];exact VC
  .rw[yf]at L;exact Bh (R:=Z) (o:=off) (i:=i) (q:=q) QM ω rfl ω (λj u hj L=>Qb j u L) (.inr τ) j u L
  .have k1:Kp [E] D w:=H▸Kp.setRow D E _;exact k1.pX (M▸Kp.setRow w E _) ψ ψ
  .rw[bS]at X;simp[Value.ownBlock]at X;omega
 have c3:((U:Int)<(q:Int)+1)=True:=θ
 have c:∀w,(Instr.sliceAt 100 (.slice (some ⟨E,off,none⟩) q U) none (some (.int .i64 i)) none).events prog w #[]=#[]:=λw=>(Ki w rfl ω).2;simp only[c3,decide_true];refine F.ct rfl ?_;refine F.cF ?_;iterate 8 (refine F.oq rfl rfl rfl (λ_=>by first|(simp[go_sem];done)|simp[go_sem, *]) λd K x=>?_;go_simp;refine x _ ?_;clear x K d;try walk_nrm)
 refine F.aaj rfl rfl δ (.tmp 34) (.tmp 39) rfl (p:=i) (n:=q+1-i) (xs:=(flat es).take (2*i)) rfl rfl C hxt (λj u L=>Qb j u χ) ω ω ω (λB h=>P B false h) ?_;intro c' rs w1 I9 c H;rw[hpn]at I9 ⊢;try walk_nrm
 generalize CH:D.heap.size=I at XV U6 R hN hc ⊢;have S:w1.heap[I]? =some (.cells (((flat es).take (2*i)).toArray++rs) 128 (0,0)):=by subst H;rw[<-CH];exact ny (w:=D) rfl rfl
 have QV:w1.heap[E]? =some (.cells Z 128 (0,0)):=by subst H;rw[Below.heap_alloc _ _ _ ω];exact C
 have T:w1.heap[nb]? =some (.cells #[.int .i64 t,f] tb (0,0)):=by subst H;rw[Below.heap_alloc _ _ _ ω];exact W
 have T8:w1.heap.size=I+1:=by subst H;simp[CH]
 have c:(c'=i)=False:=θ
 have c:(c'=i+1)=False:=θ
 have c:∀w,(Instr.sliceAt 100 (.slice (some ⟨I,0,none⟩) (q+1) c') (some (.int .i64 i)) none none).events prog w #[]=#[]:=λw=>(l6 w rfl ω ω).2;have c:∀w,(Instr.sliceAt 100 (.slice (some ⟨I,0,none⟩) (q+1) c') (some (.int .i64 ((i:Int)+1))) none none).events prog w #[]=#[]:=λw=>(l6 w (L:=i+1) ω ω ω).2;have UN:(i:Int)<=(q:Int)+1:=ω
 have c:(i:Int)+1<=((q+1:Nat):Int):=ω
 refine F.aJ ?_;refine F.dA ?_;iterate 4 (refine F.oq rfl rfl rfl (λ_=>by first|(simp[go_sem];done)|simp[go_sem, *]) λd K x=>?_;go_simp;refine x _ ?_;clear x K d;try walk_nrm)
 refine F.BH rfl rfl δ (.tmp 43) (.tmp 44) rfl (E:=I) (p:=i*2) (n:=1) (vs:=[.int .i64 t,f]) (bb:=⟨nb,0,none⟩) rfl rfl S (Nat.min_eq_left ω).symm rfl χ (rT T) X2 (λB wr h=>R B wr ω) O χ ?_;intro w2 M;try walk_nrm
 have T9:(pP (((flat es).take (2*i)).toArray++rs) (i*2) [.int .i64 t,f]).size=(((flat es).take (2*i)).toArray++rs).size:=jL χ;have Tb:(((flat es).take (2*i)).toArray++rs).size=2*c':=χ
 have OH:w2.heap[I]? =some (.cells (pP (((flat es).take (2*i)).toArray++rs) (i*2) [.int .i64 t,f]) 128 (0,0)):=by rw[<-M];exact setRow_heap w1 I _ _ 128 _ S
 have QU:w2.heap[E]? =some (.cells Z 128 (0,0)):=by rw[<-M,setRow_other _ I E _ ω];exact QV
 have c:w2.heap.size=I+1:=by rw[<-M];simp[T8]
 have Qs:q+1-(i+1)=q-i:=ω
 refine F.es ?_;refine F.yw (γ:=Unit) (n:=9) mixed [[],[],[],[1,2],[0,3],[],[],[5,6],[4,7]] rfl ρ (λb g=>[(46,dB (b 0) (.slice (some ⟨I,0,none⟩) (q+1) c') (undef)),(47,dB (b 1) (.int .i64 i) (undef)),(48,dB (b 2) (.int .i64 1) (undef)),(49,dB (b 3) (.int .i64 ((i:Int)+1)) (undef)),(50,dB (b 4) (.slice (some ⟨I,(i+1)*2,none⟩) (q-i) (c'-(i+1))) (undef)),(51,dB (b 5) (.slice (some ⟨E,off,none⟩) q U) (undef)),(52,dB (b 6) (.int .i64 i) (undef)),(53,dB (b 7) (.slice (some ⟨E,off+i*2,none⟩) (q-i) (U-i)) (undef)),(54,dB (b 8) (.int .i64 ((q-i:Nat):Int)) (undef))]) (λb g w=>(b 8=false->w=w2)/\(b 8=true->(w2.setRow I (pP (pP (((flat es).take (2*i)).toArray++rs) (i*2) [.int .i64 t,f]) ((i+1)*2) ((flat es).drop (2*i)))=w))) (()) (by simp only[pu]) (⟨λ_=>rfl,nofun⟩) (all_cons ?_ (all_cons ?_ (all_cons ?_ (all_cons ?_ (all_cons ?_ (all_cons ?_ (all_cons ?_ (all_cons ?_ (all_cons ?_ (all_nil)))))))))) ?_
 .intro b g w z l a r rest A o;let⟨m,s⟩:=z;replace a:b 0=false:=a;have gD:=dy (l 4 0 rfl) a;have dG:=dy (l 8 4 rfl) gD;have p:=(m dG).symm;subst p;simp only[gD,dG,a,pu];refine F.aJ ?_;have k:=o g _ ⟨λ_=>rfl,λh=>no dG h⟩;simp only[gD,dG,a,pu,Nat.reduceEqDiff,reduceIte]at k;exact k
 .intro b g w z l a r rest A o;let⟨m,s⟩:=z;replace a:b 1=false:=a;have Yl:=dy (l 3 1 rfl) a;have gD:=dy (l 4 3 rfl) Yl;have dG:=dy (l 8 4 rfl) gD;have p:=(m dG).symm;subst p;simp only[Yl,gD,dG,a,pu];refine F.aJ ?_;have k:=o g _ ⟨λ_=>rfl,λh=>no dG h⟩;simp only[Yl,gD,dG,a,pu,Nat.reduceEqDiff,reduceIte]at k;exact k
 .intro b g w z l a r rest A o;let⟨m,s⟩:=z;replace a:b 2=false:=a;have Yl:=dy (l 3 2 rfl) a;have gD:=dy (l 4 3 rfl) Yl;have dG:=dy (l 8 4 rfl) gD;have p:=(m dG).symm;subst p;simp only[Yl,gD,dG,a,pu,Nat.reduceAdd];refine F.aJ ?_;have k:=o g _ ⟨λ_=>rfl,λh=>no dG h⟩;simp only[Yl,gD,dG,a,pu,Nat.reduceAdd,Nat.reduceEqDiff,reduceIte]at k;exact k
 .intro b g w z l a r rest A o;let⟨m,s⟩:=z;replace a:b 3=false:=a;have d1:=r 1 rfl;have d2:=r 2 rfl;have gD:=dy (l 4 3 rfl) a;have dG:=dy (l 8 4 rfl) gD;have p:=(m dG).symm;subst p;simp only[d1,d2,gD,dG,a,pu,Nat.reduceAdd];refine F.aJ ?_;have k:=o g _ ⟨λ_=>rfl,λh=>no dG h⟩;simp only[d1,d2,gD,dG,a,pu,Nat.reduceAdd,Nat.reduceEqDiff,reduceIte]at k;exact k
 .intro b g w z l a r rest A o;let⟨m,s⟩:=z;replace a:b 4=false:=a;have d0:=r 0 rfl;have d3:=r 3 rfl;have dG:=dy (l 8 4 rfl) a;have p:=(m dG).symm;subst p;simp only[d0,d3,dG,a,pu,Nat.reduceAdd];refine F.oq rfl rfl rfl (λ_=>by first|(simp[go_sem];done)|simp[go_sem, *]) λd K x=>?_;go_simp;refine x _ ?_;clear x K d;try walk_nrm
  have k:=o g _ ⟨λ_=>rfl,λh=>no dG h⟩;simp only[d0,d3,dG,a,pu,Nat.reduceAdd,Nat.reduceEqDiff,reduceIte]at k;exact k
 .intro b g w z l a r rest A o;let⟨m,s⟩:=z;replace a:b 5=false:=a;have vN:=dy (l 7 5 rfl) a;have dG:=dy (l 8 7 rfl) vN;have p:=(m dG).symm;subst p;simp only[vN,dG,a,pu,Nat.reduceAdd];refine F.aJ ?_;have k:=o g _ ⟨λ_=>rfl,λh=>no dG h⟩;simp only[vN,dG,a,pu,Nat.reduceAdd,Nat.reduceEqDiff,reduceIte]at k;exact k
 .intro b g w z l a r rest A o;let⟨m,s⟩:=z;replace a:b 6=false:=a;have vN:=dy (l 7 6 rfl) a;have dG:=dy (l 8 7 rfl) vN;have p:=(m dG).symm;subst p;simp only[vN,dG,a,pu,Nat.reduceAdd];refine F.aJ ?_;have k:=o g _ ⟨λ_=>rfl,λh=>no dG h⟩;simp only[vN,dG,a,pu,Nat.reduceAdd,Nat.reduceEqDiff,reduceIte]at k;exact k
 .intro b g w z l a r rest A o;let⟨m,s⟩:=z;replace a:b 7=false:=a;have d5:=r 5 rfl;have d6:=r 6 rfl;have dG:=dy (l 8 7 rfl) a;have p:=(m dG).symm;subst p;simp only[d5,d6,dG,a,pu,Nat.reduceAdd];refine F.oq rfl rfl rfl (λ_=>by first|(simp[go_sem];done)|simp[go_sem, *]) λd K x=>?_;go_simp;refine x _ ?_;clear x K d;try walk_nrm
  have k:=o g _ ⟨λ_=>rfl,λh=>no dG h⟩;simp only[d5,d6,dG,a,pu,Nat.reduceAdd,Nat.reduceEqDiff,reduceIte]at k;exact k
 .intro b g w z l a r rest A o;let⟨m,s⟩:=z;replace a:b 8=false:=a;have d4:=r 4 rfl;have d7:=r 7 rfl;have p:=(m a).symm;subst p;simp only[d4,d7,a,pu,Nat.reduceAdd];refine F.BH rfl rfl δ (.tmp 50) (.tmp 53) rfl (E:=I) (p:=(i+1)*2) (n:=q-i) (vs:=(flat es).drop (2*i)) (bb:=⟨E,off+i*2,none⟩) rfl rfl OH (Nat.min_self _).symm Uy ω (oA QU Qj) Y (λB wr h=>R B wr ω) (λB h=>P B false h) χ ?_;intro w3 Q;try walk_nrm
  have k:=o g _ ⟨λh=>by simp[tick]at h,λ_=>Q⟩;simp only[d4,d7,a,pu,Nat.reduceAdd,Nat.reduceEqDiff,reduceIte]at k;exact k
 intro b g w z n;let⟨m,s⟩:=z;simp only[n 0 δ,n 1 δ,n 2 δ,n 3 δ,n 4 δ,n 5 δ,n 6 δ,n 7 δ,n 8 δ,pu];have Q:=s (n 8 δ);refine F.dA ?_;iterate 2 (refine F.aJ ?_)
 refine F.tC func60 ?_;have b:w.heap[I]? =some (.cells (pP (pP (((flat es).take (2*i)).toArray++rs) (i*2) [.int .i64 t,f]) ((i+1)*2) ((flat es).drop (2*i))) 128 (0,0)):=by rw[<-Q];exact setRow_heap w2 I _ _ 128 _ OH
 refine hc _ _ ⟨⟨Xw,.inr ⟨I,0,c',_,by rw[qL es i t f ω,hq];rfl,χ,hN,b,?_,λj u L=>?_⟩⟩,?_,λg X=>?_⟩
 .rw[jL ω,T9,Tb];omega
 .rw[yf]at L;refine Bh (R:=((flat es).take (2*i)).toArray++rs) (R1:=pP (((flat es).take (2*i)).toArray++rs) (i*2) [.int .i64 t,f]) (o:=0) (i:=i) (q:=q) QM ω rfl ω (λj u hj L=>?_) (.inl ⟨ψ,ψ⟩) j u L;grind
 .have k1:Kp [E] D w1:=Kp.alloc H;have b:Kp [E] D w2:=k1.pX (M▸Kp.setRow w1 I _) θ ψ;exact b.pX (Q▸Kp.setRow w2 I _) θ ψ
 .rw[bS]at X;simp[Value.ownBlock]at X;omega
structure iM(es:jl)(t:Int)(i:Nat):Prop where
 gt:∀j e,i<=j->es[j]? =some e->t<e.1
 le:∀e,0<i->es[i-1]? =some e->e.1<=t
def IE(f:Func):Code:=match f.body with|some (.seq _ (.seq (.block _ (.loop b)) _))=>b|_=>.skip
def Ml(f:Func):Code:=match f.body with|some (.seq _ (.seq _ r))=>r|_=>.skip
def Qg:∀(es:jl)(j:Nat),j<es.length->(flat es)[2*j]? =some (.int .i64 (es.getD j (0,.nilFunc)).1)
 |e::es,0,_=>rfl
 |e::es,j+1,h=>by
  have a:=Qg es j ξ;rw[show 2*(j+1)=2*j+1+1 by omega];simpa [flat]using a
def P6(w:aj){q U p:Nat}(h:p<q):(Instr.indexAt 100 (.slice (some ⟨E,off,none⟩) q U) (.int .i64 (p:Int))).events prog w #[]=#[]:=by
 let⟨inf,z,a,_,_,_,b⟩:=lO;have b:(p:Int)<(q:Int):=ω
 simp[Instr.indexAt,run_underlying dZ,asIntOf,sizeOf,typeInfo,a,h]
def EW{V:gi}(F:aB prog main (DX Ok) V)(A:Nat)(t:Int)(fv:ay)(w0:aj){b:eP}{q U:Nat}(To:q<1000000)(hb:0<q->b=some ⟨E,off,none⟩)(TG:w0.cell? ⟨A,1,none⟩=some (.slice b q U))(b:Ok ⟨A,1,none⟩ false)(ts:Nat->Int)(hx:∀j,j<q->w0.cell? ⟨E,off+j*2,none⟩=some (.int .i64 (ts j))/\Ok ⟨E,off+j*2,none⟩ false)(c:aC)(cs:cO)(hk:∀i:Nat,i<=q->(∀j,i<=j->j<q->t<ts j)->(0<i->¬t<ts (i-1))->∀y3 y4 y5 y7 y8 y9 Y X W T S R Q P O N M L J I H D C B y v u s r o n m l k h g f a:Value,V (G ((base 49).at ⟨List.toArray (.pointer (some ⟨A,0,none⟩)::.int .i64 t::fv::y3::y4::y5::.int .i64 (i:Int)::y7::y8::y9::Y::X::W::T::S::R::Q::P::O::N::M::L::J::I::H::D::C::B::y::v::u::s::r::o::n::m::l::k::h::g::f::a::[]),[]⟩ [.code (Ml f49)]) (c::cs)) w0):
 ∀p:Nat,p<=q->(∀j,p<=j->j<q->t<ts j)->∀y3 y4 y5 y7 y8 y9 Y X W T S R Q P O N M L J I H D C B y v u s r o n m l k h g f a:Value,V (G ((base 49).at ⟨List.toArray (.pointer (some ⟨A,0,none⟩)::.int .i64 t::fv::y3::y4::y5::.int .i64 (p:Int)::y7::y8::y9::Y::X::W::T::S::R::Q::P::O::N::M::L::J::I::H::D::C::B::y::v::u::s::r::o::n::m::l::k::h::g::f::a::[]),[]⟩ [.code (IE f49),.inLoop (IE f49),.inBlock 0,.code (Ml f49)]) (c::cs)) w0:=by
 intro p;induction p with
 |zero=>
  intro hp Z y3 y4 y5 y7 y8 y9 Y X W T S R Q P O N M L J I H D C B y v u s r o n m l k h g f a;simp only[IE,f49];refine F.sq ?_;refine F.cF ?_;iterate 3 (refine F.aJ ?_)
  refine F.dK ?_;refine F.dK ?_;refine F.dK ?_;refine F.dK ?_;refine F.dK ?_;refine F.dK ?_;refine F.dK ?_;refine F.dK ?_;refine F.dK ?_;refine F.dK ?_;refine F.dK ?_;refine F.aJ ?_;refine F.re ?_;refine F.cf rfl ?_;refine F.ctl (λ_=>stepG_exit rfl) ?_;exact hk 0 hp Z (λz=>absurd z δ) _ _ _ _ _ _ _ _ _ _ _ _ _ _ _ _ _ _ _ _ _ _ _ _ _ _ _ _ _ _ _ _ _ _ _ _ _ _
 |succ p ih=>
  intro hp Z y3 y4 y5 y7 y8 y9 Y X W T S R Q P O N M L J I H D C B y v u s r o n m l k h g f a;let⟨Nc,a⟩:=hx p hp;obtain rfl:=hb ω;generalize ZZ:ts p=x at Nc;have wp:IntKind.i64.wrap (p:Int)=(p:Int):=nS ω ω;have pp:((0:Int)<(p:Int)+1)=True:=propext ⟨λ_=>trivial,λ_=>ω⟩;have a:(p:Int)<(q:Int):=ω
  have a:p<q:=hp;rw[show(((p+1:Nat):Int))=(p:Int)+1 from by omega];have b:(p:Int)+1-1=(p:Int):=ω
  simp only[IE,f49];refine F.sq ?_;refine F.cF ?_;iterate 6 (refine F.aJ ?_)
  refine F.Ym ?_;iterate 2 (refine F.aJ ?_)
  have b:∀w,(Instr.indexAt 100 (.slice (some ⟨E,off,none⟩) q U) (.int .i64 (p:Int))).events prog w #[]=#[]:=λw=>P6 w a;refine F.AZ rfl rfl δ (λd=>by simp[go_sem,b]) (λd K a=>?_);go_simp;refine a _ ?_;clear a K d;try walk_nrm
  refine F.aJ ?_;refine F.Ym ?_;iterate 3 (refine F.aJ ?_)
  refine F.re ?_;by_cases ht:t<x
  .simp only[ht,decide_true];refine F.ct rfl ?_;refine F.sk ?_;refine F.bl ?_;refine F.zA ?_;iterate 3 (refine F.aJ ?_)
   refine F.re ?_;refine F.ib ?_;refine F.ctl (λ_=>stepG_inLoop) ?_;exact ih (Nat.le_of_succ_le hp) (λj a h2=>by rcases Lz a with e|e;subst e;rw[ZZ];exact ht;exact Z j e h2) _ _ _ _ _ _ _ _ _ _ _ _ _ _ _ _ _ _ _ _ _ _ _ _ _ _ _ _ _ _ _ _ _ _ _ _ _ _
  .simp only[ht,decide_false];refine F.cf rfl ?_;refine F.ctl (λ_=>stepG_exit rfl) ?_;exact hk (p+1) hp Z (λ_=>ξ) _ _ _ _ _ _ _ _ _ _ _ _ _ _ _ _ _ _ _ _ _ _ _ _ _ _ _ _ _ _ _ _ _ _ _ _ _ _
def EX(N A:Nat)(t:Int)(fn:Fn)(fst k:gd)(u:ay)(es:jl)(m:aj)(hN:N<=m.heap.size)(lA:A<N)(O:es.length<1000000)(I:fZ N m u es)(l:m.cell? ⟨A,1,none⟩=some u)(B:m.frozen? ⟨A,1,none⟩=false)(okr:Ok ⟨A,1,none⟩ false)(okw:Ok ⟨A,1,none⟩ true)(D:∀(a:Addr)(wr:Bool),a.block∈cw u\/m.heap.size<=a.block->Ok a wr):
 fG prog main (DX Ok) 49 #[.pointer (some ⟨A,0,none⟩),.int .i64 t,.func fn fst k] m λr w'=>r=.tuple #[]/\Kp (cw u) m w' [⟨A,1,none⟩]/\∃v' i,i<=es.length/\iM es t i/\w'.cell? ⟨A,1,none⟩=some v'/\w'.frozen? ⟨A,1,none⟩=false/\fZ N w' v' (es.take i++(t,.func fn fst k)::es.drop i)/\∀g∈cw v',g∈cw u\/m.heap.size<=g:=by
 have R:A∉cw u:=λz=>by have:=(I.lt (bS.1 z)).1;omega
 have okF:∀(C:Addr)(wr:Bool),m.heap.size<=C.block->Ok C wr:=λC wr h=>D C wr (.inr h);obtain⟨b,E,off,U,T,hb,J⟩:∃b E off U,u=.slice b es.length U/\(0<es.length->b=some ⟨E,off,none⟩)/\∀j,j<es.length->m.cell? ⟨E,off+j*2,none⟩=some (.int .i64 (es.getD j (0,.nilFunc)).1)/\Ok ⟨E,off+j*2,none⟩ false:=by
  rcases I.2 with ⟨rfl,rfl⟩|⟨E,off,U,Z,rfl,r,r,p,r,Qb⟩
  .simp
  .exact⟨_,E,off,U,rfl,λ_=>rfl,λj r=>⟨by rw[oz p,show off+j*2=off+2*j by omega];exact Qb _ _ (Qg es j r),D _ _ (.inl (by simp[cw,Value.ownBlock]))⟩⟩
 have p:∀g∈cw u,g<m.heap.size:=λg H=>by let⟨_,Z,h⟩:=I.lt (bS.1 H);grind
 intro V F c cs hc;have p:m.cell? ⟨A,1,none⟩=some (.slice b es.length U):=T▸l;clear l;simp only[enter_at _ func49 rfl,ntmps49];walk_nrm;refine F.cF ?_;iterate 3 (refine F.aJ ?_)
 refine F.Ym ?_;iterate 2 (refine F.aJ ?_)
 refine F.es ?_;refine F.bl ?_;refine F.ctl (λ_=>stepG_loop) ?_;refine EW F A t (.func fn fst k) m (q:=es.length) O hb p okr (λj=>(es.getD j (0,.nilFunc)).1) J c cs ?_ es.length (az _) (λj E r=>ω) _ _ _ _ _ _ _ _ _ _ _ _ _ _ _ _ _ _ _ _ _ _ _ _ _ _ _ _ _ _ _ _ _ _ _ _ _ _;clear J;intro i hi c b J J J J J J J J J J J J J J J J J J J J J J J J J J J J J J J J J J J J J J;have UT:iM es t i:=⟨λj e E r=>χ,λe E r=>ξ⟩;clear c b;simp only[Ml,f49];have l:=p;clear p;refine F.zA ?_;iterate 4 (refine F.aJ ?_)
 refine F.Ym ?_;iterate 4 (refine F.aJ ?_)
 refine F.GV ?_;generalize f:World.alloc m _=Y;generalize n:(World.heap m).size=n1;have b:=gH f n;replace B:=dP B l f;replace l:=bN l f;have Q:=aY (i:=0) f n rfl;have X:=cy f n 0;have P:=aY (i:=1) f n rfl;have W:=cy f n 1;try simp only[sS,sW,sV]at Q P
 have G:Kp (cw u) m m [⟨A,1,none⟩]:=Kp.refl _;replace G:=G.yT f;have c:fZ N Y u es:=(Kp.alloc (L:=[]) f).bA I (λg H=>⟨ψ,ψ⟩);have b:Y.heap[n1]? =some (.cells #[.int .i64 t,.func fn fst k] 128 (0,0)):=by rw[<-n];exact ny f rfl
 refine F.uO func60 ?_;refine CE N n1 i t (.func fn fst k) 128 Y es O hi ω (T▸c) b rfl (λz=>χ) (λC wr h=>D C wr (T▸h.imp id λh=>ω)) (λC h=>okF C false ω) _ F _ _ (λv w' b=>?_);let⟨ho,S,M⟩:=b;rw[<-T]at S M;generalize Y7:es.take i++(t,.func fn fst k)::es.drop i=b at ho hc;rw[bQ];try walk_nrm
 have q:=S.cell _ _ R l;have o:=(S.V7 _ _ R l).trans B;replace G:=G.RY S (λx b=>.inl b);let⟨_,_,Uz,b⟩:=id ho.form;have Tp:A∉cw v:=λz=>χ
 have L:∀g∈cw v,g∈cw u\/m.heap.size<=g:=λg H=>(M g H).imp id λy=>ω
 subst Uz;have iL:∀(w:aj)(d:Nat),(w.at d).heap.size=w.heap.size:=λ_ _=>rfl;have size_set:∀(w:aj)(a:Addr)(v:ay),(w.setCell a v).heap.size=w.heap.size:=λw a v=>ψ
 clear l B Q P X W;iterate 2 (refine F.aJ ?_)
 refine F.op rfl rfl δ (λd K hK=>?_);go_simp;rw[setCell_at'];refine hK _ _ ⟨DX.set _ (by(first|assumption|(apply Hh<;>dsimp only<;>omega))) (λe I=>?_),?_⟩
 .have hm:=mem_listed I;simp[go_sem,storedEv,fD, *]at hm;subst hm;exact .inl ⟨_,rfl,rfl,by(first|assumption|(apply Hh<;>dsimp only<;>omega)),by simp only[iL,size_set];first|omega|exact au (by assumption)⟩
 clear hK K d;try walk_nrm
 generalize s:World.setCell w' _ _=a;have a:=lu s;replace o:=eF o s;replace q:=kP q s;replace G:=G.EH s ψ;refine F.Du func49 ?_;refine hc _ _ ⟨rfl,G,_,i,hi,UT,q,o,?_,L⟩;rw[Y7];exact(Kp.H8 s).bA ho (λg H=>⟨ψ,by simp;exact λz=>Tp (z▸H)⟩)
def Goal(P:aG)(Post:qz)(m:Machine)(T:Trace):Prop:=
 ∃N last o w' t',runNT P (N+1) m T=(.ended o w',t')/\runN P N m=.next last/\step P last=.ended o w'/\Conc.Good P Post last o w' t'
def Goal.back{P:aG}{m a:Machine}{T b:Trace}(h:runNT P N m T=(.next a,b))(g:Goal P Post a b):Goal P Post m T:=by
 let⟨M,last,o,w',b,i,f,e,d⟩:=g;have c:runN P N m=.next a:=by rw[<-runNT_fst P N m T,h]
 exact⟨N+M,last,o,w',b,by rw[Nat.add_assoc,runNT_add,h];exact i,by rw[runN_add,c];exact f,e,d⟩
section
variable{P:aG}{K:cK}{w:aj}{a g:aV}
def At(P:aG)(Post:qz)(K:cK)(Shun Still:dm)(Mem:p8)(Y:Nat->Option Seat)(h n:Nat)(g:aV)(w:aj):Prop:=
 ∀(d:Nat)(S:jH)(T:Trace)(q:bU)(sl:qT),S.size=n->S[h]? =some g->R2 P K Shun Still w.heap.size Mem Y h T S (w.at d) q->Goal P Post (crowd S (w.at d) sl) T
def GW(c:∀w d,K w->K (w.at d))(o:∀w w' es,D w w' es->DR K Shun Still h w w' es)(i:∀w d,D w (w.at d) #[])(f:∀w w' es a,D w w' es->(∀e∈a,e∈es)->D w w' a)(b:Mem h):aB P (h==0) D (At P Post K Shun Still Mem Y h n):=by
 have a:∀g w d,At P Post K Shun Still Mem Y h n g w->At P Post K Shun Still Mem Y h n g (w.at d):=λg w d x j=>x j;refine⟨a,i,f,λg w k e=>?_⟩;intro d S T q sl l m C;have W:Walk P (h==0) D (At P Post K Shun Still Mem Y h n) g w:=(xh i f _).step g w k λd=>(e d).mono λ_ _ x=>.stop λj=>a _ _ _ x;let⟨N,e,_,w',a,r,g,p,n,k,j,h,s⟩:=hold c o (.inl b) ((xh i f _).at' _ _ d W) S T q sl m C;exact Goal.back p (j w'.drawn e r g a (n.trans l) k h)
def Zc{b:dm}{s:Seat}(c:∀l,Still l->b l){g:aV}(x:Sits P main K Still B s n g):Sits P main K b B s n g:=by
 have ev:∀e,EvC Still B e->EvC b B e:=λe ⟨a,h,f,d⟩=>⟨a,h,c _ f,d⟩
 have at':∀g a,AtIn P main K Still B s g a->AtIn P main K b B s g a:=λg a ⟨j,i,h,g,d,es,c,b⟩=>⟨j,i,h,g,d,es,λe d=>ev e (c e d),b⟩
 rcases x with ⟨k,w,e,g⟩|⟨e,b,a,f,c⟩
 .exact .inl ⟨k,w,e,lR (λ_ _ _ ⟨d1,d2⟩=>⟨d1,λe d=>ev e (d2 e d)⟩) (λ_ _ ⟨a,y⟩=>⟨a,at' _ _ y⟩) g⟩
 .exact .inr ⟨e,b,a,f,at' _ _ c⟩
def Sf(B:Nat)(l:Loc):Prop:=∃a:Addr,l=.cell a/\B<=a.block
def uu{t:Trace}{x:Touch}(h:∀op∈t,op.act.low B)(f:touchAt t i=some x)(i:Sf B x.loc):False:=by
 let⟨op,c,a⟩:=touch_of f;have d:=h op (DZ c);let⟨_,b,c⟩:=i;let⟨g,fn,c,act⟩:=op;cases act with
 |access e=>
  let⟨loc,wr,c⟩:=e;simp only[MemAct.touch?]at a;simp only[MemAct.low]at d;have c:x.loc=loc:=by
   grind
  rw[c]at b;subst b;simp only[Loc.low]at d;omega
 |mark m=>
  cases m<;>simp only[MemAct.touch?,reduceCtorEq,Option.some.injEq]at a
  all_goals
   subst a;simp only[MemAct.low]at d;simp only[Loc.cell.injEq]at b;subst b;omega
 |_=>simp[MemAct.touch?]at a
end
section
variable{P:aG}{K:cK}{w:aj}{a g:aV}
def R2.grow{c a:dm}(C:R2 P K Shun Still B Mem Y h T S w q)(k:∀l,Still l->a l)(u:∀l,a l->Still l\/Sf B l)(t:∀l,Shun l->c l)(r:∀l,c l->Shun l\/Sf B l):R2 P K c a B Mem Y h T S w q:=by
 have f:=C.past.seen;refine⟨λi g a j=>?_,C.chans,C.wf,C.live,C.inj,C.above,C.mem,C.nomem,C.lo,⟨C.past.clean,λi x d m=>?_,λi x d o p g j=>?_,C.past.hears,f⟩,C.keep⟩
 .have:=C.idle i g a j;cases e:Y i with
  |none=>rw[e]at this;exact this
  |some s=>rw[e]at this;exact Zc k this
 .refine(C.past.known i x d m).imp (fun⟨c,a,e⟩=>⟨c,a.imp id fun⟨b,n,m,l,h⟩=>⟨b,n,m,t _ l,h⟩,λb h b=>?_⟩) fun⟨c,a,e⟩=>⟨c,k _ a,e⟩
  rcases r _ b with z|z
  .simp_all
  .exact(uu f h z).elim
 .rcases u _ p with z|z
  .exact C.past.wrote i x d o z g j
  .exact(uu f d z).elim
def Ci(C:yG P K Shun B Mem T S w q)(l:Deaf T 0=0):Past Shun B T:=by
 have k:∀i x,touchAt T i=some x->x.loc.isMemory=true->Acc Shun 0 T i:=λi x a d=>(C.past.known i x a d).elim id λz=>z.2.1.elim;refine⟨C.past.clean,λi x a d=>?_,λi g m g n=>?_,l,C.past.seen⟩
 .refine(k i x a d).2.1.imp id fun⟨b,f,g,l,_⟩=>?_;simp_all
 .let⟨x,a,d,l⟩:=n;rcases(k i x a d).2.1 with ⟨j,z,h,c,e⟩|⟨b,f,g,_,d⟩
  .rcases e with rfl|e
   .rw[g?_of h,c]at m;simp_all
   .exact⟨j,by rw[g?_of h,c],e⟩
  .have:b=x:=by rw[show touchAt T i=some x from a]at f;simp_all
   simp_all
def vp(C:yG P K Shun B Mem T S w q):Leavers P T S q:=⟨λi g a a=>(show 0<i/\QuitsD P (q i) (Deaf T i) g from C.idle i g (λz=>ω) a).2,C.above⟩
def At.ends{es:dS}(h:a.status=.running)(c:Mem 0)(b:∀d,stepG P true a (w.at d)=.ended (.done v) (w.at d) es)(f:∀e∈es,EvL Shun w.heap.size e)(i:∀d,Post v (w.at d)):At P Post K Shun (λ_=>False) Mem (λ_=>none) 0 n a w:=by
 intro d S T q sl a a C;exact beside_ends (D:=λ_ _ es=>es=#[]) (Shun:=Shun) (B:=w.heap.size) (n:=0) (q:=q) (λ_ _ es d=>ξ) a (vp C) (Ci C (C.past.hears 0 c)) (λI ⟨g,e⟩=>by subst e;exact⟨h,v,es,b g,f,i g⟩)
def Zf(k:K w)(h:∀x,Mem x->x=0)(l:At P Post K Shun (λ_=>False) Mem (λ_=>none) 0 1 a w):Goal P Post (solo a w) #[]:=by
 have e:solo a w=crowd #[a] w none:=rfl;rw[e];refine l w.drawn #[a] #[] (λ_=>0) none rfl rfl ⟨λi g f a=>?_,nofun,nofun,λ_ _ z=>z.elim,nofun,λj a=>?_,nofun,λi f=>.inr (h i f),nofun,⟨λsaid ⟨i,j,x⟩=>?_,λi x b=>?_,λi x b=>?_,λg _=>rfl,λop d=>by simp at d⟩,k⟩
 .simp_all
 .rfl
 .let⟨_,⟨x,y,b,_⟩,_⟩:=x;simp[Trace.act?]at b
 .simp[touchAt,Trace.act?]at b
 simp
end
section
variable{P:aG}{K:cK}{w:aj}{a g:aV}
def At.keep(e:∀d,K' (w.at d))(b:At P Post K' Shun (λ_=>False) Mem (λ_=>none) 0 n a w):At P Post K Shun (λ_=>False) Mem (λ_=>none) 0 n a w:=
 λd S T q sl a c C=>b d S T q sl a c (uP C (e d))
def iR{w:aj}{a:Addr}(h:c≠a.block)(U:Nat)(buf:gd)(cl:Bool)(x y:Nat)(b:Bool):(w.setChan c U buf cl x y b).cell? a=w.cell? a/\(w.setChan c U buf cl x y b).frozen? a=w.frozen? a:=by
 have e:=heap_setChan_ne w U buf cl x y b h;constructor
 .unfold World.cell?;rw[e]
 .unfold World.frozen?;rw[e]
def Gy(f:∀a,Still (.cell a)->¬Ok a true)(f:∀a wr,Shun (.cell a)->¬Ok a wr)(f:∀w w' es,DX Ok w w' es->K w->K w')(w w':aj)(es:dS)(D:DX Ok w w' es):DR K Shun Still h w w' es:=by
 refine⟨f _ _ _ D,λc U k f=>by rw[f];exact D.obj c _ f nofun,D.size,λe c=>?_⟩;rcases D.ev e c with ⟨a,g,_,c,i⟩|rfl
 .let⟨loc,wr,d⟩:=e;simp only at g;subst g;refine⟨⟨λx b=>?_,i⟩,ψ,ψ⟩;have c:(⟨.cell a,wr,if d then .atomic else .plain⟩:Touch)=x:=by
   cases d<;>simpa [MemAct.ofEvent,MemAct.touch?]using b
  grind
 .refine⟨⟨λx b=>?_,?_⟩,by simp[noRoomEvent],by simp[noRoomEvent]⟩
  .simp[noRoomEvent,MemAct.ofEvent,MemAct.touch?]at b
  .simp[noRoomEvent,MemAct.ofEvent,MemAct.low]
end
structure QF(P:aG)(main:Bool)(K:cK)(Ev:Event->Prop)(V:kr):Prop where
 step:∀g g',g.status=.running->(∀w,K w->∃es,stepG P main g w=.go g' w es/\∀e∈es,Ev e)->V g'->V g
section
variable{P:aG}{K:cK}{V:kr}{a:Act}{o:Oper}
def QF.ctl(F:QF P main K Ev V){a:aC}{b:cO}(h:∀w,stepG P main (G fr cs) w=.go (G a b) w #[])(c:V (G a b)):V (G fr cs):=
 F.step _ _ rfl (λw _=>⟨#[],h w,λe d=>by simp at d⟩) c
def QF.op(F:QF P main K Ev V)(j:O[i]? =some o)(g:Region.wanted o (yielded O a.tmps)=true)(n:b.kind≠.early)(p:∀w,K w->∀e∈(execOp a.eval o).events P w #[],Ev e)(h:∀w,K w->uponK o a (λf w'=>w'=w/\f=A) ((execOp a.eval o).run P w))(l:V (G (b.at A (.inRegion O rest::k)) cs)):V (G (b.at a (.inRegion O (i::rest)::k)) cs):=by
 refine F.step _ _ rfl (λw d=>⟨listed P b.fn a o w,?_,λe m=>p w d e (Ly m)⟩) l;have:=goes_oper_k (P:=P) (main:=main) (k:=k) (cs:=cs) (rest:=rest) (K:=λg' w' es=>g'=G (b.at A (.inRegion O rest::k)) cs/\w'=w/\es=listed P b.fn a o w) j g n (λK' c=>uponK_mono (λf w' x=>by obtain⟨rfl,rfl⟩:=x;exact c _ _ τ) (h w d));revert this;cases stepG P main (G (b.at a (.inRegion O (i::rest)::k)) cs) w<;>intro this
 case go g' w' es=>simp_all
 all_goals exact this.elim
def QF.AZ(F:QF P main K Ev V)(f:O[i]? =some o)(d:Region.wanted o (yielded O a.tmps)=true)(j:b.kind≠.early)(l:∀w,K w->(execOp a.eval o).events P w #[]=#[])(h:∀w,K w->uponK o a (λg w'=>w'=w/\g=A) ((execOp a.eval o).run P w))(g:V (G (b.at A (.inRegion O rest::k)) cs)):V (G (b.at a (.inRegion O (i::rest)::k)) cs):=
 F.op f d j (λw a e c=>by rw[l w a]at c;simp at c) h g
def QF.unwanted(F:QF P main K Ev V)(d:O[i]? =some o)(c:Region.wanted o (yielded O a.tmps)=false)(h:V (G (b.at (a.put o.dst undef) (.inRegion O rest::k)) cs)):V (G (b.at a (.inRegion O (i::rest)::k)) cs):=
 F.ctl (λ_=>stepG_unwanted d c) h
def QF.oq(F:QF P main K Ev V)(d:O[i]? =some o)(c:Region.wanted o (yielded O a.tmps)=true)(f:late b=true)(g:∀w,K w->(execOp a.eval o).events P w #[]=#[])(h:∀w,K w->uponK o a (λe w'=>w'=w/\e=A) ((execOp a.eval o).run P w))(e:V (G (b.at A (.inRegion O rest::k)) cs)):V (G (b.at a (.inRegion O (i::rest)::k)) cs):=F.AZ d c (iP f) g h e
def QF.re(F:QF P main K Ev V)(h:V (G (b.at a (k)) cs)):V (G (b.at a (.inRegion O []::k)) cs):=F.ctl (λ_=>stepG_region_end) h
def QF.sq(F:QF P main K Ev V){x y:Code}(h:V (G (b.at a (.code x::.code y::k)) cs)):V (G (b.at a (.code (.seq x y)::k)) cs):=F.ctl (λ_=>stepG_seq) h
def QF.rr(F:QF P main K Ev V){id:Nat}{l:List Oper}(h:V (G (b.at a (.inRegion l.toArray (rg l 0)::k)) cs)):V (G (b.at a (.code (.region id l.toArray false)::k)) cs):=F.ctl (λ_=>stepG_region) (by rw[xG];exact h)
def QF.sr(F:QF P main K Ev V){id:Nat}{l:List Oper}{y:Code}(h:V (G (b.at a (.inRegion l.toArray (rg l 0)::.code y::k)) cs)):V (G (b.at a (.code (.seq (.region id l.toArray false) y)::k)) cs):=F.sq (F.rr h)
def QF.es(F:QF P main K Ev V){x y:Code}(h:V (G (b.at a (.code x::.code y::k)) cs)):V (G (b.at a (.inRegion O []::.code (.seq x y)::k)) cs):=F.re (F.sq h)
def QF.er(F:QF P main K Ev V){id:Nat}{l:List Oper}(h:V (G (b.at a (.inRegion l.toArray (rg l 0)::k)) cs)):V (G (b.at a (.inRegion O []::.code (.region id l.toArray false)::k)) cs):=F.re (F.rr h)
def QF.V8(F:QF P main K Ev V){id:Nat}{l:List Oper}{y:Code}(h:V (G (b.at a (.inRegion l.toArray (rg l 0)::.code y::k)) cs)):V (G (b.at a (.inRegion O []::.code (.seq (.region id l.toArray false) y)::k)) cs):=F.re (F.sr h)
def QF.aJ(F:QF P main K Ev V)(e:V (G (b.at A (.inRegion O rest::k)) cs))(d:O[i]? =some o:=by exact rfl)(c:Region.wanted o (yielded O a.tmps)=true:=by exact rfl)(f:late b=true:=by exact rfl)(g:∀w,K w->(execOp a.eval o).events P w #[]=#[]:=by simp[go_sem])(h:∀w,K w->uponK o a (λj w'=>w'=w/\j=A) ((execOp a.eval o).run P w):=by intro w c;go_simp;(try walk_nrm);first|exact⟨rfl,rfl⟩|exact rfl):V (G (b.at a (.inRegion O (i::rest)::k)) cs):=F.oq d c f g h e
def QF.dK(F:QF P main K Ev V)(h:V (G (b.at A (.inRegion O rest::k)) cs))(d:O[i]? =some o:=by exact rfl)(c:Region.wanted o (yielded O a.tmps)=false:=by exact rfl)(e:a.put o.dst undef=A:=by walk_nrm;exact rfl):V (G (b.at a (.inRegion O (i::rest)::k)) cs):=F.unwanted d c (e▸h)
def QF.zA(F:QF P main K Ev V){id:Nat}{l:List Oper}(h:V (G (b.at a (.inRegion l.toArray r::k)) cs))(c:rg l 0=r:=by simp only[rg,Nat.reduceAdd];exact rfl):V (G (b.at a (.code (.region id l.toArray false)::k)) cs):=F.rr (c▸h)
def QF.cF(F:QF P main K Ev V){id:Nat}{l:List Oper}{y:Code}(h:V (G (b.at a (.inRegion l.toArray r::.code y::k)) cs))(c:rg l 0=r:=by simp only[rg,Nat.reduceAdd];exact rfl):V (G (b.at a (.code (.seq (.region id l.toArray false) y)::k)) cs):=F.sr (c▸h)
def QF.CZ(F:QF P main K Ev V){id:Nat}{l:List Oper}(h:V (G (b.at a (.inRegion l.toArray r::k)) cs))(c:rg l 0=r:=by simp only[rg,Nat.reduceAdd];exact rfl):V (G (b.at a (.inRegion O []::.code (.region id l.toArray false)::k)) cs):=F.er (c▸h)
def QF.dA(F:QF P main K Ev V){id:Nat}{l:List Oper}{y:Code}(h:V (G (b.at a (.inRegion l.toArray r::.code y::k)) cs))(c:rg l 0=r:=by simp only[rg,Nat.reduceAdd];exact rfl):V (G (b.at a (.inRegion O []::.code (.seq (.region id l.toArray false) y)::k)) cs):=F.V8 (c▸h)
def QF.cf(F:QF P main K Ev V){c:Operand}{x y:Code}(e:a.eval c=.bool false)(h:V (G (b.at a (.code y::k)) cs)):V (G (b.at a (.code (.cond c x y)::k)) cs):=F.ctl (λ_=>stepG_cond (t:=false) e) h
def QF.ct(F:QF P main K Ev V){c:Operand}{x y:Code}(e:a.eval c=.bool true)(h:V (G (b.at a (.code x::k)) cs)):V (G (b.at a (.code (.cond c x y)::k)) cs):=F.ctl (λ_=>stepG_cond (t:=true) e) h
def QF.sk(F:QF P main K Ev V)(h:V (G (b.at a (k)) cs)):V (G (b.at a (.code .skip::k)) cs):=F.ctl (λ_=>stepG_skip) h
def QF.bl(F:QF P main K Ev V){id:Nat}{c:Code}(h:V (G (b.at a (.code c::.inBlock id::k)) cs)):V (G (b.at a (.code (.block id c)::k)) cs):=F.ctl (λ_=>stepG_block) h
def QF.ib(F:QF P main K Ev V){id:Nat}(h:V (G (b.at a (k)) cs)):V (G (b.at a (.inBlock id::k)) cs):=F.ctl (λ_=>stepG_inBlock) h
def QF.enter(F:QF P main K Ev V){f:FuncId}{args:gd}(e:O[i]? =some o)(c:Region.wanted o (yielded O a.tmps)=true)(g:b.kind≠.early)(d:∀w,(execOp a.eval o).run P w=.ok (.enter f args) w)(j:∀w,(execOp a.eval o).events P w #[]=#[])(h:V (G (Frame.enter P f args .normal) (b.at a (.inRegion O (i::rest)::k)::cs))):V (G (b.at a (.inRegion O (i::rest)::k)) cs):=
 F.ctl (λw=>by rw[stepG_enter e c g (d w),listed_nil (j w)]) h
def QF.g9(i:QF P main K Ev V){c:aC}(e:b.kind=.normal)(g:a.defers=[])(f:P.funcs[b.fn]? =some fn)(d:ResultsC P fn a.tmps v)(h:V (G (c.finish v) cs)):V (G {b.at a F with mode:=.returning} (c::cs)):=
 i.ctl (λw=>by rw[stepG_leave e g f (d _).1 (d _).2]) h
def QF.uO(F:QF P main K Ev V){o:Oper}{f:FuncId}{args:Array Operand}{A:gd}(e:P.funcs[f]? =some fn)(h:V (G (Frame.enter P f A .normal) (b.at a (.inRegion O (i::rest)::k)::cs)))(j:O[i]? =some o:=by exact rfl)(g:Region.wanted o (yielded O a.tmps)=true:=by exact rfl)(l:late b=true:=by exact rfl)(c:o.op=.call {callee:=.value (.func f),args,argTypes:=ats}:=by exact rfl)(d:(fn.name== "runtime.NumGoroutine")=false:=by exact rfl)(f:fn.body.isNone=false:=by exact rfl)(m:args.map a.eval=A:=by walk_nrm;exact rfl):V (G (b.at a (.inRegion O (i::rest)::k)) cs):=
 F.enter j g (iP l) (λ_=>m▸run_call_body c e d f) (λ_=>events_call_body c e d f _) h
def QF.tC(F:QF P main K Ev V){t:Tmp}{c:aC}(f:P.funcs[b.fn]? =some fn)(h:V (G (c.finish (a.tmps.getD t undef)) cs))(e:b.kind=.normal:=by exact rfl)(g:a.defers=[]:=by exact rfl)(d:fn.results=#[.tmp t]:=by exact rfl):V (G (b.at a (.inRegion O []::.code .ret::k)) (c::cs)):=F.re (F.ctl (λ_=>stepG_ret') (F.g9 e g f (resultsC_tmp d _) h))
def QF.Du(F:QF P main K Ev V){c:aC}(f:P.funcs[b.fn]? =some fn)(h:V (G (c.finish (.tuple #[])) cs))(e:b.kind=.normal:=by exact rfl)(g:a.defers=[]:=by exact rfl)(d:fn.results=#[]:=by exact rfl):V (G (b.at a [.inRegion O []]) (c::cs)):=F.re (F.ctl (λ_=>stepG_end) (F.g9 e g f (resultsC_none d _) h))
end
section
variable{P:aG}{K:cK}{J:qt}
def nX(d:Nat):QF P false (λ_=>True) (λ_=>False) (λg=>∃n,QuitsD P n d g):=
 ⟨λg g' b h ⟨n,c⟩=>⟨n+1,.inr ⟨b,g',#[],λe a=>by simp at a,λw=>by let⟨es,d,b⟩:=h w trivial;rw[d,TU.2 λe a=>b e a],c⟩⟩⟩
def qE(main:Bool)(s:Seat)(w:aj):QF P main K (EvC Still B) (λg=>∃n,Goes P main (RK K) (DS Still B) (λg _=>∃a,AtIn P main K Still B s g a) n g w):=
 ⟨λg g' a h ⟨n,b⟩=>⟨n+1,.inr ⟨a,λI a=>by let⟨es,d,c⟩:=h I a;rw[d];exact⟨⟨rfl,c⟩,Goes.rely (λ_ _ _ _ x=>x) b a⟩⟩⟩⟩
end
def KL(l:oJ)(cc:aN)(w:aj):Prop:=(∀p∈l,w.cell? p.1=some p.2)/\∀c∈cc,∃k,w.heap[c]? =some (.chan 0 #[] false k k false)
def wD(l:oJ)(x:Loc):Prop:=∃p∈l,x=.cell p.1
section
variable{l:oJ}{w:aj}{es:dS}
def KA(b:∀p∈l,¬Ok p.1 true):∀w w' es,DX Ok w w' es->KL l cc w->KL l cc w':=λw w' es D h=>
 ⟨λp a=>by rw[(D.cell p.1 (b p a) (au (h.1 p a))).1];exact h.1 p a,λc b=>by let⟨k,a⟩:=h.2 c b;exact⟨k,D.obj c _ a nofun⟩⟩
def IL{k:Nat}(a:∀p∈l,c≠p.1.block)(g:c∈cc)(h:KL l cc w):KL l cc (w.setChan c 0 #[] false k k false):=by
 refine⟨λp d=>by rw[(iR (a p d) ..).1];exact h.1 p d,λf b=>?_⟩;by_cases e:c=f
 .subst e;let⟨d,a⟩:=h.2 c g;exact⟨k,heap_setChan_self w a _ _ _ _ _ _⟩
 .let⟨d,a⟩:=h.2 f b;exact⟨d,by rw[heap_setChan_ne w _ _ _ _ _ _ e];exact a⟩
def FI{b:oJ}{a:aN}(e:∀p∈b,p∈l)(d:∀c∈a,c∈cc)(h:KL l cc w):KL b a w:=⟨λp a=>h.1 p (e p a),λc a=>h.2 c (d c a)⟩
def vT{a:Addr}(c:w.cell? a=some v)(h:KL l cc w):KL ((a,v)::l) cc w:=⟨λp b=>by rcases ak.1 b with rfl|b;exact c;exact h.1 p b,h.2⟩
def vm{x:Loc}(h:wD l x):x.isMemory=true:=by obtain⟨p,_,rfl⟩:=h;rfl
end
section
variable{P:aG}{V:gi}{K:cK}
abbrev CF(P:aG)(main:Bool)(Φ:kr):Prop:=QF P main (λ_=>True) (λ_=>False) Φ
def pE(F:aB P main D V)(w:aj):CF P main (λg=>V g w):=
 ⟨λg g' a h b=>F.step g w a λd=>by
  have e:∀w,stepG P main g w=.go g' w #[]:=λw=>by
   let⟨es,a,c⟩:=h w trivial;rw[a,TU.2 λe a=>c e a]
  exact⟨_,_,_,e _,F.idle _ _,F.at' _ _ _ b,λ_ _ _ _=>e _⟩⟩
def aaM(F:QF P main K Ev Φ):CF P main Φ:=⟨λg g' a h b=>F.step g g' a (λw _=>by let⟨es,_,a⟩:=h w trivial;simp_all) b⟩
end
section
variable{P:aG}{K:cK}{w:aj}{a g:aV}
def At.assume(a:∀w d,K w->K (w.at d))(H:K w->At P Post K Shun Still Mem Y h n g w):At P Post K Shun Still Mem Y h n g w:=
 λd S T q sl b c C=>H (show K w from a (w.at d) w.drawn C.keep) d S T q sl b c C
abbrev nM(P:aG)(Post:qz)(K:cK)(Shun:dm)(n:Nat):Goroutine->World->Prop:=At P Post K Shun (λ_=>False) (λg=>g=0) (λ_=>none) 0 n
def At.Rv{es:dS}(g:a.status=.running)(c:∀d,stepG P true a (w.at d)=.ended (.done v) (w.at d) es)(f:∀e∈es,EvL Shun w.heap.size e)(e:∀d,K (w.at d)->Post v (w.at d))(b:∀w d,K w->K (w.at d)):nM P Post K Shun n a w:=
 At.assume b λa=>At.ends g rfl c f λd=>e d (b _ _ a)
end
def jq(l:aN)(x:Loc):Prop:=∃A∈l,x=.cell ⟨A,5,none⟩\/x=.cell ⟨A,6,none⟩
def Ey{l:aN}{A:Nat}{x:Loc}(h:jq l x):jq (A::l) x:=by let⟨B,a,e⟩:=h;exact⟨B,aP _ a,e⟩
def H6{l:aN}{A:Nat}{x:Loc}(h:jq (A::l) x):jq l x\/Sf A x:=by
 let⟨B,a,e⟩:=h;rcases ak.1 a with rfl|a
 .exact .inr (e.elim (λe=>⟨_,e,az _⟩) λe=>⟨_,e,az _⟩)
 .exact .inl ⟨B,a,e⟩
def cP(N0:Nat)(l:aN)(st:oJ)(a:Addr)(wr:Bool):Prop:=¬jq l (.cell a)/\(wr=true->N0<=a.block/\¬wD st (.cell a))
def Old(wI w:aj):Prop:=w.os=wI.os/\w.tape=wI.tape/\w.output=wI.output/\wI.heap.size<=w.heap.size/\∀k,k<wI.heap.size->w.heap[k]? =wI.heap[k]?
theorem Old.below{w:aj}(h:Old wI w):Below wI.heap.size wI w:=⟨h.1,h.2.1,h.2.2.1,h.2.2.2.1,h.2.2.2.2⟩
theorem Old.of{w:aj}(h:Below wI.heap.size wI w):Old wI w:=⟨h.os,h.tape,h.output,h.size,h.block⟩
theorem Old.cell{wI w:aj}(h:Old wI w)(a:Addr)(v:ay)(b:wI.cell? a=some v):w.cell? a=some v:=(h.below.cell (au b)).trans b
section
variable{P:aG}{w:aj}{l:aN}{es:dS}
theorem gN:∀w d,Old wI w->Old wI (w.at d):=λ_ _ h=>h
theorem Za(b:∀a,Ok a true->wI.heap.size<=a.block):∀w w' es,DX Ok w w' es->Old wI w->Old wI w':=λw w' es D h=>
 ⟨D.rest.1.trans h.1,D.rest.2.1.trans h.2.1,D.rest.2.2.trans h.2.2.1,aT h.2.2.2.1 D.size,λk b=>(D.blk k (ga b h.2.2.2.1) (λa a z=>χ)).trans (h.2.2.2.2 k b)⟩
theorem A5{a:Addr}(b:wI.heap.size<=a.block)(h:Old wI w):Old wI (w.setCell a v):=Old.of (Below.setCell h.below b v)
theorem Fh{U:Nat}{buf:gd}{y:Nat}{a:Bool}(b:wI.heap.size<=c)(h:Old wI w):Old wI (w.setChan c U buf cl x y a):=
 ⟨h.1,h.2.1,h.2.2.1,by simp only[World.setChan,zb];exact h.2.2.2.1,λk a=>by
  rw[<-h.2.2.2.2 k a];simp only[World.setChan];grind⟩
theorem nA(n:Nat):aB P true (DX (cP wI.heap.size l [])) (nM P Post (Old wI) (jq l) n):=
 GW (h:=0) gN (Gy (λb z=>z.elim) (λb wr z o=>o.1 z) (Za λa o=>(o.2 rfl).1)) DX.idle wu rfl
end
structure P3(Shun:dm)(St:Nat->Loc->Prop)(H:p8)(B h:Nat)(t:Trace):Prop where
 clean:∀said,¬Race said t
 known:∀i a,touchAt t i=some a->a.loc.isMemory=true->Acc Shun h t i\/(a.write=false/\∃g,t.g? i=some g/\H g/\St g a.loc)
 wrote:∀i a,touchAt t i=some a->a.write=true->∀g,H g->St g a.loc->Knows t g i
 hears:∀g,H g->Deaf t g=0
 seen:∀op∈t,op.act.low B
def nG(St:Nat->Loc->Prop)(H:p8)(l:Loc):Prop:=∃g,H g/\St g l
section
variable{g:Nat}{t:Trace}
theorem P3.mono(c:P3 Shun St H B h t)(b:B<=B'):P3 Shun St H B' h t:=⟨c.clean,c.known,c.wrote,c.hears,λop a=>MemAct.low_mono b (c.seen op a)⟩
def nT{a b:Touch}(c:touchAt t i=some a)(c:touchAt t i=some b):b=a:=ξ
def fM{fn:FuncId}{a:String}{es:dS}:∀op∈MemOp.ofEvents g fn a es,op.g=g:=λop a=>by obtain⟨e,_,rfl⟩:=Go.Conc.mem_ofEvents a;rfl
theorem zH(I:P3 Shun St H B h t){fn:FuncId}{k:String}{es:dS}(r:∀e∈es,wE Shun (nG St H) B h e)(C:¬H h):P3 Shun St H B h (t++MemOp.ofEvents h fn k es):=by
 have u:∀op∈MemOp.ofEvents h fn k es,op.g=h:=fM;have m:∀op∈MemOp.ofEvents h fn k es,∀b,op.act.touch? =some b->(nG St H b.loc->b.write=false)/\(Shun b.loc->b.kind≠.plain/\(b.kind=.said->h=0)):=λop c b y=>by
  obtain⟨e,w,rfl⟩:=Go.Conc.mem_ofEvents c;exact(r e w).1 b y
 refine⟨λsaid=>noRace_append (I.clean said) u λi a o op c b y k=>?_,λi a o h=>?_,λi a o s g j v=>?_,λg j=>?_,λop c=>?_⟩
 .let⟨E,D,B,G⟩:=k;rcases I.known i a o D with ⟨_,q,_⟩|⟨s,g,_,j,v⟩
  .grind
  .rcases B with x|x
   .simp_all
   .have:=(m op c b y).1 ⟨g,j,E▸v⟩;simp_all
 .let⟨x,n,f⟩:=touch_of o;rcases getElem?_append_cases n with ⟨k,l⟩|⟨_,d⟩
  .rcases I.known i a (by rw[touchAt_of l];exact f) h with q|⟨p,g,j,b⟩
   .exact .inl (q.app _)
   .exact .inr ⟨p,g,by rw[g?_old k];exact j,b⟩
  .have q:=knows_own n;rw[u x d]at q;refine .inl ⟨lt_size_of_getElem? n,.inl q,λF b A=>?_⟩;obtain rfl:=nT o b;let⟨b,h⟩:=(m x d F f).2 A;exact⟨b,λb=>by rw[g?_of n,u x d,h b]⟩
 .let⟨x,n,f⟩:=touch_of o;rcases getElem?_append_cases n with ⟨_,l⟩|⟨_,d⟩
  .exact(I.wrote i a (by rw[touchAt_of l];exact f) s g j v).app _
  .rw[(m x d a f).1 ⟨g,j,v⟩]at s;cases s
 .rw[Deaf_other t (λz=>C (by rw[z];exact j)) _ u];exact I.hears g j
 .rcases nQ.1 c with c|c
  .exact I.seen op c
  .obtain⟨e,w,rfl⟩:=Go.Conc.mem_ofEvents c;exact(r e w).2
theorem qF(v:P3 Shun St H B h t)(k:∀op∈u,op.g=g)(l:∀op∈u,∀b,op.act.touch? =some b->b.write=false/\H g/\St g b.loc)(r:H g->Deaf (t++u) g=Deaf t g)(f:∀op∈u,op.act.low B):P3 Shun St H B h (t++u):=by
 refine⟨λsaid=>noRace_append (v.clean said) k λi a h op d b q j=>?_,λi a h m=>?_,λi a h n g' c s=>?_,λg' c=>?_,seen_app v.seen f⟩
 .let⟨_,o,f⟩:=l op d b q;rcases j.2.2.1 with x|x
  .exact v.wrote i a h x g o (j.1▸f)
  simp_all
 .let⟨x,j,b⟩:=touch_of h;rcases getElem?_append_cases j with ⟨q,f⟩|⟨_,d⟩
  .rcases v.known i a (by rw[touchAt_of f];exact b) m with o|⟨p,g',c,m⟩
   .exact .inl (o.app _)
   .exact .inr ⟨p,g',by rw[g?_old q];exact c,m⟩
  .exact .inr ⟨(l x d a b).1,g,by rw[g?_of j,k x d],(l x d a b).2⟩
 .let⟨x,j,b⟩:=touch_of h;rcases getElem?_append_cases j with ⟨_,f⟩|⟨_,d⟩
  .exact(v.wrote i a (by rw[touchAt_of f];exact b) n g' c s).app u
  grind
 .by_cases e:g=g'
  .subst e;rw[r c];exact v.hears g c
  .rw[Deaf_other t e _ k];exact v.hears g' c
theorem E8(w:P3 Shun St H B h t)(q:∀g l,H g->St g l->¬Shun l){fn:FuncId}{pos:String}{es:dS}(o:∀e∈es,(∀x,(MemAct.ofEvent e).touch? =some x->x.kind=.atomic/\Shun x.loc)/\(MemAct.ofEvent e).low B)(v:¬H c)(u:uc (Deaf t c) es):
 P3 Shun St H B h (t++MemOp.ofEvents c fn pos es):=by
 have s:PastG (nG St H) (λ_=>False) H B (Acc Shun h t) t:=⟨w.clean,λi a j m=>(w.known i a j m).imp id fun⟨p,g,d,n,k⟩=>⟨p,⟨g,n,k⟩,g,d,n⟩,λ_ _ _ _ _ _ z=>z.elim,λ_ z=>z.elim,w.seen⟩;have f:=zF (c:=c) (fn:=fn) (pos:=pos) s (λl ⟨g,d,k⟩=>q g l d k) o (λz=>z) u;have r:∀op∈MemOp.ofEvents c fn pos es,op.g=c:=fM;have h:∀op∈MemOp.ofEvents c fn pos es,∀b,op.act.touch? =some b->b.kind=.atomic/\Shun b.loc:=λop h b b=>by
  obtain⟨e,b,rfl⟩:=Go.Conc.mem_ofEvents h;grind
 refine⟨f.clean,λi a j m=>?_,λi a j o g d u=>?_,λg d=>?_,f.seen⟩
 .let⟨x,l,b⟩:=touch_of j;rcases getElem?_append_cases l with ⟨s,e⟩|⟨_,h⟩
  .rcases w.known i a (by rw[touchAt_of e];exact b) m with q|⟨p,g,d,k⟩
   .exact .inl (q.app _)
   .exact .inr ⟨p,g,by rw[g?_old s];exact d,k⟩
  .refine(f.known i a j m).imp id fun⟨_,_,g,d,n⟩=>?_;rw[g?_of l,r x h]at d;simp_all
 .let⟨x,l,b⟩:=touch_of j;rcases getElem?_append_cases l with ⟨_,e⟩|⟨_,h⟩
  .exact(w.wrote i a (by rw[touchAt_of e];exact b) o g d u).app _
  grind
 .rw[Deaf_other t (show c≠g from λz=>v (by rw[z];exact d)) _ r];exact w.hears g d
theorem AY(Q:P3 Shun St H B h t)(s:∀g l,H g->St g l->¬Shun l)(F:∀g,H g->g≠j->pH g/\∀l,St g l->tW g l)(P:∀g,pH g->(H g/\g≠j/\∀l,tW g l->St g l)\/(g=h/\∀l,tW g l->l.isMemory=true/\¬Shun l))(L:∀op∈u,op.act.touch? =none)(M:∀op∈u,op.act.low B)(O:∀g,pH g->Deaf (t++u) g=0){p q:Nat}{x y:MemOp}(K:t.size<=p)(I:(t++u)[p]? =some x)(v:x.g=h)(x:(t++u)[q]? =some y)(s:y.g=j)(l:HappensBefore (t++u) p q):
 P3 Shun tW pH B j (t++u):=by
 have pass:∀i,Knows t h i->Knows (t++u) j i:=λi d=>⟨q,y,x,s,.inr ((d.hb_new K I v).trans l)⟩
 refine⟨λsaid=>noRace_appendMute (Q.clean said) L,λi a D h=>?_,λi a D J g C E=>?_,O,seen_app Q.seen M⟩
 .let⟨z,n,f⟩:=touch_of D;rcases getElem?_append_cases n with ⟨N,c⟩|⟨_,r⟩
  .rcases Q.known i a (by rw[touchAt_of c];exact f) h with d|⟨G,g,C,o,A⟩
   .exact .inl (d.to (pass i))
   .by_cases e:g=j
    .subst e;have d:=knows_own n;rw[show z.g=g from by have:=g?_of c;simp_all]at d;refine .inl ⟨lt_size_of_getElem? n,.inl d,λh m w=>?_⟩;grind
    .exact .inr ⟨G,g,by rw[g?_old N];exact C,(F g o e).1,(F g o e).2 _ A⟩
  simp_all
 .let⟨z,n,f⟩:=touch_of D;rcases getElem?_append_cases n with ⟨_,c⟩|⟨_,r⟩
  .have m:touchAt t i=some a:=by rw[touchAt_of c];exact f
   rcases P g C with ⟨o,_,k⟩|⟨rfl,k⟩
   .exact(Q.wrote i a m J g o (k _ E)).app u
   .let⟨c,e⟩:=k _ E;rcases Q.known i a m c with ⟨_,d|⟨b,a,_,w,_⟩,_⟩|⟨a,_⟩
    .exact d.app u
    .simp_all
    simp_all
  simp_all
theorem E9(x:P3 Shun St H B h t)(f:∀g l,H g->St g l->¬Shun l)(u:∀g,H g->g≠j->pH g/\∀l,St g l->tW g l)(o:∀g,pH g->(H g/\g≠j/\∀l,tW g l->St g l)\/(g=h/\∀l,tW g l->l.isMemory=true/\¬Shun l))(n:Deaf t h=0)(q:H j)(d:FuncId)(ph:String)(b:FuncId)(a:String)(k:Nat)(s:c<B):
 P3 Shun tW pH B j (t++met h j d ph b a c k 0):=by
 have l:(t++met h j d ph b a c k 0)[t.size]? =some {g:=h,fn:=d,pos:=ph,act:=.send c k}:=by simp[met]
 have i:(t++met h j d ph b a c k 0)[t.size+3]? =some {g:=j,fn:=b,pos:=a,act:=.recvDone c k}:=by simp[met]
 have m:=met_quiet h j d ph b a c k 0;have w:(t++met h j d ph b a c k 0).deaf h t.size=0:=by rw[deaf_old (az _)];exact n
 have v:(t++met h j d ph b a c k 0).deaf j (t.size+3)=0:=by rw[deaf_quiet (m j) 3 (by simp[met])];exact x.hears j q
 refine AY x f u o (met_mute h j d ph b a c k 0) (λop e=>?_) (λg r=>(Deaf_quiet (m g)).trans ?_) (az _) l rfl i rfl
  (Relation.TransGen.single (.inr ⟨.handOver (act?_of l) (act?_of i),⟨h,g?_of l,w⟩,⟨j,g?_of i,v⟩⟩))
 .simp only[met,rq,ak,bH,or_false]at e;rcases e with rfl|rfl|rfl|rfl<;>exact s
 .rcases o g r with ⟨p,_⟩|⟨rfl,_⟩
  .exact x.hears g p
  .exact n
def Y8(e:FuncId)(ph:String)(f:FuncId)(b:String)(g:Nat):∀op∈(#[{g:=h,fn:=e,pos:=ph,act:=.go c},{g:=c,fn:=f,pos:=b,act:=.start}]:Trace),∀d,deafStep g d op=d:=by
 intro op a d;simp only[rq,ak,bH,or_false]at a;rcases a with rfl|rfl<;>rfl
theorem PA(r:P3 Shun St H B h t)(k:∀g l,H g->St g l->¬Shun l)(q:∀g,H g->pH g/\∀l,St g l->tW g l)(o:∀g,pH g->(H g/\g≠c/\∀l,tW g l->St g l)\/(g=h/\∀l,tW g l->l.isMemory=true/\¬Shun l))(n:Deaf t h=0)(j:Deaf t c=0)(d:FuncId)(ph:String)(e:FuncId)(b:String):
 P3 Shun tW pH B c (t++#[{g:=h,fn:=d,pos:=ph,act:=.go c},{g:=c,fn:=e,pos:=b,act:=.start}]):=by
 have l:(t++#[{g:=h,fn:=d,pos:=ph,act:=.go c},{g:=c,fn:=e,pos:=b,act:=.start}])[t.size]? =some {g:=h,fn:=d,pos:=ph,act:=.go c}:=ψ
 have f:(t++#[{g:=h,fn:=d,pos:=ph,act:=.go c},{g:=c,fn:=e,pos:=b,act:=.start}])[t.size+1]? =some {g:=c,fn:=e,pos:=b,act:=.start}:=ψ
 have m:=Y8 (h:=h) (c:=c) d ph e b
 refine AY r k (λg i _=>q g i) o (λop a=>?_) (λop a=>?_) (λg i=>(Deaf_quiet (m g)).trans ?_) (az _) l rfl f rfl
  (Relation.TransGen.single (.inr ⟨.spawn (act?_of l) (act?_of f) (g?_of f),⟨h,g?_of l,by rw[deaf_old (az _)];exact n⟩,⟨c,g?_of f,by rw[deaf_quiet (m c) 1 ψ];exact j⟩⟩))
 .simp only[rq,ak,bH,or_false]at a;rcases a with rfl|rfl<;>rfl
 .simp only[rq,ak,bH,or_false]at a;rcases a with rfl|rfl<;>trivial
 .rcases o g i with ⟨p,_⟩|⟨rfl,_⟩
  .exact r.hears g p
  .exact n
end
def gv(m x:Nat):Int:=((m*4294967296+x:Nat):Int)
section
variable(P:aG)(K:cK)(J:qt)
def O2(M:Nat->Goroutine->Prop)(Q:kr)(t:Nat)(g:aV):Prop:=
 (g.status=.running/\∃g',(∀w,K w->stepG P false g w=.go g' w #[])/\M t g')\/
 (t=0/\g.status=.running/\∃g',(∀w,K w->stepG P false g w=.go g' w #[uD (.releaseMerge J.st)])/\M 1 g')\/
 (t=1/\g.status=.running/\∃g',(∀w,K w->stepG P false g w=.go g' w #[uD .disable])/\M 2 g')\/
 (t=2/\g.status=.running/\
   (∀m x:Nat,m<9999->x<2->(x=0\/0<m)->∃g',(∀w,K w->ji .u64 J.st w (gv (m+1) x)->stepG P false g w=.go g' (w.setCell J.st (.int .u64 (gv m x))) #[tF J.st,Dt J.st])/\Q g')/\
   ∃g',(∀w,K w->ji .u64 J.st w (gv 1 1)->stepG P false g w=.go g' (w.setCell J.st (.int .u64 (gv 0 1))) #[tF J.st,Dt J.st])/\M 3 g')\/
 (t=3/\g.status=.running/\∃g',(∀w,K w->ji .u64 J.st w (gv 0 1)->stepG P false g w=.go g' w #[tF J.st])/\M 4 g')\/
 (t=4/\g.status=.running/\∃g',(∀w,K w->ji .u64 J.st w (gv 0 1)->stepG P false g w=.go g' (w.setCell J.st (.int .u64 (gv 0 0))) #[Dt J.st])/\M 5 g')\/
 (t=5/\g.status=.running/\mayWake P g=true/\∃g',g'.status=.running/\(∀w,K w->ji .u32 J.se w 0->stepG P false g w=.go g' (w.setCell J.se (.int .u32 1)) (semEvents J.se))/\Q g')
def DP:Nat->Nat->Goroutine->Prop
 |0,_,_=>False
 |n+1,t,g=>O2 P K J (DP n) (QuitsD P n 1) t g
end
section
variable{P:aG}{K:cK}{J:qt}{M:Nat->Goroutine->Prop}{Q:kr}{t:Nat}{g:aV}
def O2.mono(i:∀w,K' w->K w)(h:∀t g,M t g->M' t g)(x:O2 P K J M Q t g):O2 P K' J M' Q t g:=by
 rcases x with ⟨a,g',b,c⟩|⟨a,b,g',c,d⟩|⟨a,b,g',c,d⟩|⟨a,b,e,g',c,d⟩|⟨a,b,g',c,d⟩|⟨a,b,g',c,d⟩|⟨a,b,c,g',d,e,f⟩
 .exact .inl ⟨a,g',λw y=>b w (i w y),h _ _ c⟩
 .exact .inr (.inl ⟨a,b,g',λw y=>c w (i w y),h _ _ d⟩)
 .exact .inr (.inr (.inl ⟨a,b,g',λw y=>c w (i w y),h _ _ d⟩))
 .exact .inr (.inr (.inr (.inl ⟨a,b,λm x g g g=>χ,g',λw y=>c w (i w y),h _ _ d⟩)))
 .exact .inr (.inr (.inr (.inr (.inl ⟨a,b,g',λw y=>c w (i w y),h _ _ d⟩))))
 .exact .inr (.inr (.inr (.inr (.inr (.inl ⟨a,b,g',λw y=>c w (i w y),h _ _ d⟩)))))
 .exact .inr (.inr (.inr (.inr (.inr (.inr ⟨a,b,c,g',d,λw y=>e w (i w y),f⟩)))))
def DP.mono(a:∀w,K' w->K w):∀(n t:Nat)(g:aV),DP P K J n t g->DP P K' J n t g
 |0,_,_,h=>h
 |n+1,_,_,h=>O2.mono a (λt g=>DP.mono a n t g) h
def DP.inv(h:DP P K J n t g):∃m,n=m+1/\O2 P K J (DP P K J m) (QuitsD P m 1) t g:=by
 cases n with
 |zero=>exact h.elim
 |succ m=>exact⟨m,rfl,h⟩
def DP.running(h:DP P K J n t g):g.status=.running:=by
 let⟨_,_,h⟩:=h.inv;rcases h with ⟨h,_⟩|⟨_,h,_⟩|⟨_,h,_⟩|⟨_,h,_⟩|⟨_,h,_⟩|⟨_,h,_⟩|⟨_,h,_⟩<;>exact h
end
structure C3(P:aG)(K:cK)(Shun:dm)(St:Nat->Loc->Prop)(B:Nat)(Y:Nat->Option Seat)(J:qt)(h:Nat)(ds:aN)(sg:bU)(T:Trace)(S:jH)(w:aj)(q:bU):Prop where
 idle:∀i g,i≠h->i∉ds->S[i]? =some g->Idle P K (St i) B T i (q i) g (Y i)
 dep:∀i,i∈ds->i≠h/\0<i/\Y i=none/\∃g,S[i]? =some g/\DP P K J (q i) (sg i) g/\Deaf T i=dC (sg i)
 nd:ds.Nodup
 chans:∀i s c,Y i=some s->s.has c->∃U k,w.heap[c]? =some (.chan U #[] false k k false)
 wf:∀i s,Y i=some s->s.Wf
 inj:∀i i' s s' c,Y i=some s->Y i'=some s'->s.has c->s'.has c->i=i'
 above:∀j,S.size<=j->Deaf T j=0
 low:∀i s c,Y i=some s->s.has c->c<B
 zL:Y h=none
 ss:∀i l,(Y i).isSome->St i l->¬Shun l
 past:P3 Shun St (λg=>(Y g).isSome) B h T
 keep:K w
section
variable{P:aG}{K:cK}{J:qt}{ds:aN}{w:aj}
def AtIn.less{s:Seat}{g a:aV}(c:∀w,K' w->K w)(x:AtIn P main K Still B s g a):AtIn P main K' Still B s g a:=by
 let⟨h,g,f,e,d,es,b,a⟩:=x;exact⟨h,g,f,e,d,es,b,λw b=>a w (c w b)⟩
def uH{main:Bool}{D:yW}{S c:gi}(a:∀w,K' w->K w)(b:∀g w,S g w->c g w):
 ∀{n:Nat}{g:aV}{w:aj},Goes P main (RK K) D S n g w->Goes P main (RK K') D c n g w
 |0,_,_,h=>λI r=>b _ _ (h I (a _ r))
 |n+1,_,_,h=>h.elim (λx=>.inl λI r=>b _ _ (x I (a _ r))) fun⟨c,x⟩=>.inr ⟨c,λI r=>by
  have:=x I (a _ r);revert this;cases stepG P main _ I<;>simp only[GStep.goes,imp_self];exact fun⟨d,y⟩=>⟨d,uH a b y⟩⟩
def Sits.less{main:Bool}{Still:dm}{s:Seat}{n:Nat}{g:aV}(d:∀w,K' w->K w)(x:Sits P main K Still B s n g):Sits P main K' Still B s n g:=by
 rcases x with ⟨k,w,e,f⟩|⟨e,b,a,g,c⟩
 .exact .inl ⟨k,w,e,uH d (λ_ _ ⟨a,y⟩=>⟨a,AtIn.less d y⟩) f⟩
 .exact .inr ⟨e,b,a,g,AtIn.less d c⟩
theorem C3.less(C:C3 P K Shun St B Y J h ds sg T S w q)(b:∀w,K' w->K w)(c:K' w):C3 P K' Shun St B Y J h ds sg T S w q:=by
 refine⟨λi g a f d=>?_,λi a=>?_,C.nd,C.chans,C.wf,C.inj,C.above,C.low,C.zL,C.ss,C.past,c⟩
 .have:=C.idle i g a f d;cases e:Y i with
  |none=>rw[e]at this;exact this
  |some s=>rw[e]at this;exact Sits.less b this
 .let⟨j,h,f,g,e,d,c⟩:=C.dep i a;exact⟨j,h,f,g,e,DP.mono b _ _ _ d,c⟩
theorem C3.raise(C:C3 P K Shun St B Y J h ds sg T S w q)(a:B<=B'):C3 P K Shun St B' Y J h ds sg T S w q:=by
 refine⟨λi g b f d=>?_,C.dep,C.nd,C.chans,C.wf,C.inj,C.above,λi s c e h=>ga (C.low i s c e h) a,C.zL,C.ss,C.past.mono a,C.keep⟩;have:=C.idle i g b f d;cases e:Y i with
 |none=>rw[e]at this;exact this
 |some s=>rw[e]at this;exact Sits.raise a this
theorem C3.in(C:C3 P K Shun St B Y J h ds sg T S w q)(b:K w')(a:∀i s c,Y i=some s->s.has c->w'.heap[c]? =w.heap[c]?):C3 P K Shun St B Y J h ds sg T S w' q:=
 ⟨C.idle,C.dep,C.nd,λi s c e a=>by let⟨U,k,d⟩:=C.chans i s c e a;grind,C.wf,C.inj,C.above,C.low,C.zL,C.ss,C.past,b⟩
theorem C3.fixed(C:C3 P K Shun St B Y J h ds sg T S w q)(f:x≠h)(b:S[x]? =some y):y.again w=y:=by
 by_cases d:x∈ds
 .let⟨_,_,_,_,g,i,_⟩:=C.dep x d;rw[g]at b;obtain rfl:=Option.some.inj b;exact again_running _ (.inl i.running)
 have a:=C.idle x y f d b;cases e:Y x with
 |none=>rw[e]at a;exact again_running _ a.2.status
 |some s=>rw[e]at a;exact Go.Conc.Sits.again C.keep a (C.wf x s e) λc d=>by let⟨U,k,f⟩:=C.chans x s c e d;simp_all
theorem C3.noSend(C:C3 P K Shun St B Y J h ds sg T S w q)(i:x≠h)(b:S[x]? =some y)(c:Nat):offersAt y c true=[]:=by
 by_cases f:x∈ds
 .let⟨_,_,_,_,g,j,_⟩:=C.dep x f;rw[g]at b;obtain rfl:=Option.some.inj b;exact offersAt_of_not_blocked (by rw[j.running];simp) c true
 have a:=C.idle x y i f b;cases e:Y x with
 |none=>
  rw[e]at a;exact offersAt_of_not_blocked (λd=>by rcases a.2.status with z|z<;>rw[z]at d<;>cases d) c true
 |some s=>
  rw[e]at a;rcases id a with ⟨k,f,f,_⟩|⟨_,_,f,rfl,_⟩
  .have:=(Go.Conc.Sits.status C.keep a).elim (·.1) (λz=>ω);exact offersAt_of_not_blocked (λd=>ξ) c true
  .exact offersAt_parked_sends (λcc c=>by obtain⟨f,f,rfl⟩:=(C.wf x s e).recvs cc c;rfl) _
theorem C3.MH(C:C3 P K Shun St B Y J h ds sg T S w q)(l:x≠h)(d:S[x]? =some y)(m:∀s,Y x=some s->¬s.has c):offersAt y c false=[]:=by
 by_cases i:x∈ds
 .let⟨_,_,_,_,g,n,_⟩:=C.dep x i;rw[g]at d;obtain rfl:=Option.some.inj d;exact offersAt_of_not_blocked (by rw[n.running];simp) c false
 have a:=C.idle x y l i d;cases e:Y x with
 |none=>
  rw[e]at a;exact offersAt_of_not_blocked (λf=>by rcases a.2.status with z|z<;>rw[z]at f<;>cases f) c false
 |some s=>
  rw[e]at a;rcases id a with ⟨k,g,g,_⟩|⟨_,_,g,rfl,_⟩
  .have:=(Go.Conc.Sits.status C.keep a).elim (·.1) (λz=>ω);exact offersAt_of_not_blocked (λf=>ξ) c false
  .refine offersAt_parked_off (λcc b j=>?_) _;obtain⟨c,c,rfl⟩:=(C.wf x s e).recvs cc b;simp only[rcase,Value.chan.injEq,Option.some.injEq]at j;subst j;exact m s e (Seat.has_of_mem b)
theorem C3.awake(C:C3 P K Shun St B Y J h ds sg T S w q){a:aV}(j:S[h]? =some a)(j:a.status=.running\/a.status=.blocked)(g:aV)(a:g∈S):Go.Conc.awake g:=by
 let⟨i,b⟩:=Array.mem_iff_getElem?.1 a;refine awake_of ?_;by_cases e:i=h
 .grind
 by_cases d:i∈ds
 .let⟨_,_,_,g',a,f,_⟩:=C.dep i d;rw[a]at b;obtain rfl:=Option.some.inj b;exact .inl f.running
 have c:=C.idle i g e d b;revert c;cases Y i with
 |none=>exact λz=>z.2.status.imp_right .inr
 |some s=>exact λz=>(Go.Conc.Sits.status C.keep z).imp And.left λy=>.inl y.1
theorem C3.lay(C:C3 P K Shun St B Y J h ds sg T S w q){l:Nat}{O:Array MemOp}{b:jH}(p:i≠h)(o:i∉ds)(p:i<S.size)(p:b.size=S.size)(f:∀x,x≠i->b[x]? =S[x]?)(c:b[i]? =some g')(a:∀op∈O,op.g=i)(d:Idle P K (St i) B (T++O) i l g' (Y i))(p:P3 Shun St (λg=>(Y g).isSome) B h (T++O)):C3 P K Shun St B Y J h ds sg (T++O) b w (upd q i l):=by
 refine⟨λx y n r m=>?_,λx n=>?_,C.nd,C.chans,C.wf,C.inj,λj b=>?_,C.low,C.zL,C.ss,p,C.keep⟩
 .by_cases e:x=i
  .subst e;rw[c]at m;obtain rfl:=Option.some.inj m;rw[upd_same];exact d
  .rw[f x e]at m;rw[upd_ne q l e];have k:=C.idle x y n r m;cases es:Y x with
   |none=>rw[es]at k;exact⟨k.1,by rw[Deaf_other T (λz=>e z.symm) O a];exact k.2⟩
   |some s=>rw[es]at k;exact k
 .have e:x≠i:=λz=>o (z▸n);let⟨h,f,d,g,_,c,b⟩:=C.dep x n;exact⟨h,f,d,g,ξ,by rw[upd_ne q l e];exact c,by rw[Deaf_other T (λz=>e z.symm) O a];exact b⟩
 .rw[Deaf_other T (g':=i) ω O a];exact C.above j ω
def gW{k:Nat}(b:i<n)(a:q i=k+1){a:Nat}(c:a<=k):sumTo n (upd q i a)<sumTo n q:=by
 have c:sumTo n (upd q i a)+(k+1)=sumTo n q+a:=by
  have:=sumTo_upd q a id b;simp_all
 omega
theorem C3.aah(C:C3 P K Shun St B Y J h ds sg T S w q){g:aV}{sl:qT}(I:S[i]? =some g)(t:i≠h)(u:i∉ds)(r:g.status=.running)(A:∀A,S[h]? =some A->A.again w=A)(hO:∀s a,Y i=some s->AtIn P (i==0) K (St i) B s g a->∀A c,S[h]? =some A->s.has c->offersAt A c true=[]):
 ∃(A:jH)(O:Array MemOp)(Q:bU),runT P (crowd S w sl) i=(.next (crowd A w sl),O)/\(∀op∈O,op.g=i)/\A.size=S.size/\(∀x,x≠i->A[x]? =S[x]?)/\(∀x,x≠i->Q x=q x)/\(∀s,Y i=some s->Q i=0->∃a,AtIn P (i==0) K (St i) B s g a)/\
   C3 P K Shun St B Y J h ds sg (T++O) A w Q/\sumTo S.size Q<sumTo S.size q:=by
 have d:i<S.size:=(cU.1 I).1;have A:∀(A:aV)(x:Nat)(y:aV),S[x]? =some y->woken P g A w y=y:=λA x y X=>woken_of_again (by
  by_cases n:x=h
  .simp_all
  .exact C.fixed n X)
 have f:∀(g':aV)(x:Nat),x≠i->((S.map (woken P g g' w)).setIfInBounds i g')[x]? =S[x]? :=by
  grind
 have p:∀(g':aV),((S.map (woken P g g' w)).setIfInBounds i g')[i]? =some g':=λg'=>Cb ξ;have V:=C.idle i g t u I;cases e:Y i with
 |none=>
  rw[e]at V;let⟨H,R⟩:=V;have hi0:(i==0)=false:=θ
  cases j:q i with
  |zero=>rw[j]at R;rw[R.1]at r;cases r
  |succ k=>
   rw[j]at R;rcases R with ⟨A,_⟩|⟨_,g',es,hm,o,Z⟩
   .simp_all
   refine⟨_,_,upd q i k,runT_crowd_go (sl:=sl) I (by rw[hi0];exact o w),fM,ψ,f _,λx n=>upd_ne q k n,λs D _=>(by cases D),?_,gW d j (az _)⟩;refine C.lay t u d ψ (f _) (p _) fM (by rw[e];exact⟨H,by rw[Deaf_own];exact Z⟩) ?_;exact qF C.past fM (λop l b M=>by obtain⟨e,he,rfl⟩:=Go.Conc.mem_ofEvents l;rw[touch_mute (hm e he)]at M;cases M) (λD=>ξ) (λop l=>by obtain⟨e,he,rfl⟩:=Go.Conc.mem_ofEvents l;exact low_mute (hm e he) B)
 |some s=>
  rw[e]at V;obtain⟨k,A,j,hg⟩:∃k A,q i=k+1/\Goes P (i==0) (RK K) (DS (St i) B) (λg _=>∃a,AtIn P (i==0) K (St i) B s g a) k g A:=by
   rcases V with x|⟨_,_,a,rfl,_⟩
   .exact x
   .cases r
  have E:(∃a,AtIn P (i==0) K (St i) B s g a)\/∃G g' es,k=G+1/\stepG P (i==0) g w=.go g' w es/\(∀e∈es,EvC (St i) B e)/\Goes P (i==0) (RK K) (DS (St i) B) (λg _=>∃a,AtIn P (i==0) K (St i) B s g a) G g' w:=by
   cases k with
   |zero=>exact .inl (hg w C.keep)
   |succ G=>
    rcases hg with k|⟨_,A⟩
    .exact .inl (k w C.keep)
    .have D:=A w C.keep;cases v:stepG P (i==0) g w with
     |go g' w' es=>
      rw[v,goes_go]at D;obtain⟨⟨rfl,m⟩,N⟩:=D;grind
     |_=>rw[v]at D;exact D.elim
  have A:(Y i).isSome:=by rw[e];rfl
  have rd:∀{fn:FuncId}{k:String}{es:dS},(∀e∈es,EvC (St i) B e)->P3 Shun St (λg=>(Y g).isSome) B h (T++MemOp.ofEvents i fn k es):=fun{fn k es} m=>by
   let⟨B,H,K,P⟩:=evC_ops (i:=i) (fn:=fn) (pos:=k) m;exact qF C.past B (λop l b M=>⟨(H op l b M).1,A,(H op l b M).2⟩) (λ_=>P T) K
  rcases E with ⟨a,F⟩|⟨G,g',es,rfl,v,m,N⟩
  .have b:=hO s a e F;let⟨_,_,_,_,_,es,m,o⟩:=id F;have hw:∀cc∈s.cases,NoWays w (S.setIfInBounds i ph) cc:=by
    intro cc L;obtain⟨c,z,rfl⟩:=(C.wf i s e).recvs cc L;have b:=Seat.has_of_mem L;let⟨U,_,k⟩:=C.chans i s c e b;refine ways_recv_none k (partners_nil λx y X=>?_);rcases getElem?_stand S i x y X with ⟨_,rfl⟩|⟨n,W⟩
    .rfl
    .by_cases b:x=h
     .simp_all
     .exact C.noSend b W _
   refine⟨_,_,upd q i 0,crowd_waits (sl:=sl) I (o w C.keep) hw,fM,ψ,λx n=>ku (λz=>n z.symm),λx n=>upd_ne q 0 n,λb c _=>χ,?_,gW d j (gl _)⟩;exact C.lay t u d ψ (λx n=>ku (λz=>n z.symm)) (Cb d) fM (by rw[e];exact .inr ⟨rfl,g,a,rfl,F⟩) (rd m)
  .refine⟨_,_,upd q i (G+1),runT_crowd_go (sl:=sl) I v,fM,ψ,f _,λx n=>upd_ne q _ n,λb _ h0=>(by rw[upd_same]at h0;omega),?_,gW d j (az _)⟩;exact C.lay t u d ψ (f _) (p _) fM (by rw[e];exact .inl ⟨G,w,rfl,N⟩) (rd m)
theorem C3.own(C:C3 P K Shun St B Y J h ds sg T S w q){a a':aV}{es:dS}(r:S[h]? =some a)(o:K w')(l:∀i s c,Y i=some s->s.has c->w'.heap[c]? =w.heap[c]?)(k:∀e∈es,wE Shun (nG St (λg=>(Y g).isSome)) B h e):
 C3 P K Shun St B Y J h ds sg (T++MemOp.ofEvents h a.frame.fn a.frame.place es) ((S.map (woken P a a' w')).setIfInBounds h a') w' q/\((S.map (woken P a a' w')).setIfInBounds h a')[h]? =some a':=by
 have c:h<S.size:=(cU.1 r).1;have C':=C.in o l;have d:∀x,x≠h->((S.map (woken P a a' w')).setIfInBounds h a')[x]? =S[x]? :=by
  intro x b;rw[ku (λe=>b e.symm),sO];cases e:S[x]? with
  |none=>rfl
  |some y=>simp[woken_of_again (P:=P) (x:=a) (x':=a') (C'.fixed b e)]
 have p:∀x,x≠h->Deaf (T++MemOp.ofEvents h a.frame.fn a.frame.place es) x=Deaf T x:=λx b=>Deaf_other T (λz=>b z.symm) _ fM;refine⟨⟨λx y b a m=>?_,λx b=>?_,C.nd,C'.chans,C.wf,C.inj,λj n=>?_,C.low,C.zL,C.ss,zH C.past k (by rw[C.zL];simp),o⟩,Cb ξ⟩
 .rw[d x b]at m;have f:=C.idle x y b a m;cases e:Y x with
  |none=>rw[e]at f;exact⟨f.1,by rw[p x b];exact f.2⟩
  |some s=>rw[e]at f;exact f
 .let⟨_,_,_,g,_,_,a⟩:=C.dep x b;simp_all
 .simp only[zb,Aq]at n;rw[p j ω];exact C.above j n
end
def set_set(w:aj)(z:Addr)(u v:ay):(w.setCell z u).setCell z v=w.setCell z v:=by
 refine fK (λr=>?_) rfl rfl rfl rfl;simp only[heap_set];by_cases h:z.block=r<;>simp only[h,if_true,if_false];cases w.heap[r]? with
 |none=>rfl
 |some o=>
  cases o with
  |cells c e f=>
   simp only[fI,mB];simp_all
  |_=>rfl
def GN{w:aj}(b:ir w z.block){U:Nat}{buf:gd}{y:Nat}{a:Bool}(h:w.heap[c]? =some (.chan U buf cl x y a)):(w.setCell z v).heap[c]? =w.heap[c]? :=by
 rw[(nZ z v b h nofun).2,h]
def vB(w:aj)(a:z.block≠c)(v:ay)(U:Nat)(buf:gd)(cl:Bool)(x y:Nat)(b:Bool):(w.setCell z v).setChan c U buf cl x y b=(w.setChan c U buf cl x y b).setCell z v:=by
 refine fK (λr=>?_) rfl rfl rfl rfl;rw[heap_set];by_cases e:c=r
 .subst e;rw[af a];simp only[World.setChan,ze,if_true];simp
 .rw[heap_setChan_ne _ _ _ _ _ _ _ e,heap_set,heap_setChan_ne _ _ _ _ _ _ _ e]
section
variable{P:aG}{K:cK}{J:qt}{ds:aN}{w:aj}
theorem C3.BB(C:C3 P K Shun St B Y J h ds sg T S w q){g:aV}{es:dS}(sl:qT)(O:i∈ds)(r:S[i]? =some g)(b:stepG P false g w=.go g' w' es)(E:K w')(D:∀i s c,Y i=some s->s.has c->w'.heap[c]? =w.heap[c]?)(c:∀e∈es,(∀x,(MemAct.ofEvent e).touch? =some x->x.kind=.atomic/\Shun x.loc)/\(MemAct.ofEvent e).low B)(V:uc (Deaf T i) es):
 ∃b,runT P (crowd S w sl) i=(.next (crowd b w' sl),MemOp.ofEvents i g.frame.fn g.frame.place es)/\b.size=S.size/\(∀x,x≠i->x≠h->b[x]? =S[x]?)/\(∀y,S[h]? =some y->b[h]? =some (woken P g g' w' y))/\b[i]? =some g'/\
  (∀d o,DP P K J d o g'->deafBehind (Deaf T i) es=dC o->C3 P K Shun St B Y J h ds (upd sg i o) (T++MemOp.ofEvents i g.frame.fn g.frame.place es) b w' (upd q i d))/\
  (∀d,QuitsD P d (deafBehind (Deaf T i) es) g'->C3 P K Shun St B Y J h (ds.erase i) sg (T++MemOp.ofEvents i g.frame.fn g.frame.place es) b w' (upd q i d)):=by
 have b:i<S.size:=(cU.1 r).1;let⟨d1,d2,R,_⟩:=C.dep i O;have b:(i==0)=false:=θ
 have C':=C.in E D;have F:∀x,x≠i->Deaf (T++MemOp.ofEvents i g.frame.fn g.frame.place es) x=Deaf T x:=λx f=>Deaf_other T (λz=>f z.symm) _ fM;have M:=E8 (c:=i) (fn:=g.frame.fn) (pos:=g.frame.place) C.past (λg l w b=>C.ss g l w b) c ξ V;have k:∀x,x≠i->x≠h->((S.map (woken P g g' w')).setIfInBounds i g')[x]? =S[x]? :=by
  intro x f v;rw[ku (λe=>f e.symm),sO];cases e:S[x]? with
  |none=>rfl
  |some y=>simp[woken_of_again (P:=P) (x:=g) (x':=g') (C'.fixed v e)]
 have a:((S.map (woken P g g' w')).setIfInBounds i g')[i]? =some g':=Cb ξ;have u:∀j,((S.map (woken P g g' w')).setIfInBounds i g').size<=j->Deaf (T++MemOp.ofEvents i g.frame.fn g.frame.place es) j=0:=λj N=>by
  simp only[zb,Aq]at N;rw[F j ω];exact C.above j N
 have n:∀(d x:Nat)(y:aV),x≠h->x∉ds->((S.map (woken P g g' w')).setIfInBounds i g')[x]? =some y->Idle P K (St x) B (T++MemOp.ofEvents i g.frame.fn g.frame.place es) x (upd q i d x) y (Y x):=by
  intro d x y f t p;have m:x≠i:=λz=>t (z▸O);rw[k x m f]at p;rw[upd_ne q d m];have:=C.idle x y f t p;cases e:Y x with
  |none=>rw[e]at this;exact⟨this.1,by rw[F x m];exact this.2⟩
  |some s=>rw[e]at this;exact this
 refine⟨_,runT_crowd_go (sl:=sl) r χ,ψ,k,λy p=>?_,a,λd o t A=>?_,λd U=>?_⟩
 .simp_all
 .refine⟨n d,λx f=>?_,C.nd,C'.chans,C.wf,C.inj,u,C.low,C.zL,C.ss,M,E⟩;by_cases e:x=i
  .subst e;exact⟨d1,d2,R,g',a,by rw[upd_same,upd_same];exact t,by rw[Deaf_own,upd_same];exact A⟩
  .let⟨L,I,H,y,W,G,Q⟩:=C.dep x f;exact⟨L,I,H,y,ξ,by rw[upd_ne q d e,upd_ne sg o e];exact G,by rw[F x e,upd_ne sg o e];exact Q⟩
 .refine⟨λx y f t p=>?_,λx f=>?_,C.nd.erase i,C'.chans,C.wf,C.inj,u,C.low,C.zL,C.ss,M,E⟩
  .by_cases e:x=i
   .subst e;rw[a]at p;obtain rfl:=Option.some.inj p;rw[R,upd_same];exact⟨d2,by rw[Deaf_own];exact U⟩
   simp_all
  .have e:x≠i:=λz=>by subst z;exact(C.nd.mem_erase_iff.1 f).1 rfl
   let⟨L,I,H,y,W,G,Q⟩:=C.dep x (Hy f);exact⟨L,I,H,y,ξ,by rw[upd_ne q d e];exact G,ξ⟩
end
structure GK(K:cK)(Shun:dm)(J:qt):Prop where
 at':∀w d,K w->K (w.at d)
 st:∀w v,K (w.setCell J.st v)↔K w
 row:∀w,K w->ir w J.st.block/\(∃v,w.cell? J.st=some v)/\w.frozen? J.st=false
 sh:Shun (.cell J.st)
def Wv(J:qt)(w:aj)(m:Nat):World:=w.setCell J.st (.int .u64 (gv m 0))
section
variable{P:aG}{K Q:cK}{J:qt}{L:Nat}{ds:aN}{w:aj}{a g:aV}
def HC(m:Nat):(Wv J w m).heap.size=w.heap.size:=by simp[Wv,World.setCell]
def zg(G:GK K Shun J)(c:K w)(m:Nat):ji .u64 J.st (Wv J w m) (gv m 0):=by
 let⟨⟨v,a⟩,b⟩:=(G.row w c).2;exact⟨D6 _ _ _ a,by rw[Wv,YB];exact b⟩
def jA(G:GK K Shun J){m:Nat}:K (Wv J w m)↔K w:=G.st w _
def eG(G:GK K Shun J)(b:K w)(m:Nat){U k:Nat}(a:w.heap[c]? =some (.chan U #[] false k k false)):(Wv J w m).heap[c]? =w.heap[c]? :=GN (G.row w b).1 a
def nR(G:GK K Shun J)(d:K w)(m:Nat){U k:Nat}(a:(Wv J w m).heap[c]? =some (.chan U #[] false k k false)):w.heap[c]? =some (.chan U #[] false k k false):=by
 unfold Wv at a;rw[heap_set]at a;let⟨cs,el,f,b⟩:=(G.row w d).1;by_cases e:J.st.block=c
 .rw[sJ e,<-e,b]at a;simp[mB]at a
 simp_all
theorem C3.by(G:GK K Shun J)(X:J.st.block<B)(hm:L+ds.length<=9999)(E:∀i,i∈ds->sg i<=2)(C:C3 P K Shun St B Y J h ds sg T S (Wv J w (L+ds.length)) q){i:Nat}{sl:qT}(M:S[i]? =some g)(V:i≠h)(F:g.status=.running)(hA:∀v m,S[h]? =some v->v.again (Wv J w m)=v)(hO:∀s f,Y i=some s->AtIn P (i==0) K (St i) B s g f->∀v c,S[h]? =some v->s.has c->offersAt v c true=[]):
 ∃a O p b l,runT P (crowd S (Wv J w (L+ds.length)) sl) i=(.next (crowd a (Wv J w (L+b.length)) sl),O)/\(∀op∈O,op.g=i)/\a.size=S.size/\a[h]? =S[h]? /\(∀x,x≠i->p x=q x)/\(∀s,Y i=some s->p i=0->∃f,AtIn P (i==0) K (St i) B s g f)/\
  C3 P K Shun St B Y J h b l (T++O) a (Wv J w (L+b.length)) p/\(∀i,i∈b->l i<=2)/\b.length<=ds.length/\sumTo S.size p<sumTo S.size q:=by
 have o:K w:=(jA G).1 C.keep;by_cases n:i∈ds
 .let⟨d1,d2,d3,g',d4,d5,D⟩:=C.dep i n;rw[M]at d4;obtain rfl:=Option.some.inj d4;have I:i<S.size:=(cU.1 M).1;let⟨k,H,hD⟩:=d5.inv;have Z:∀(j:aV)(m:Nat)(a:jH),(∀y,S[h]? =some y->a[h]? =some (woken P g j (Wv J w m) y))->a.size=S.size->a[h]? =S[h]? :=λj m a hy M1=>by
   cases e:S[h]? with
   |none=>simp_all
   |some y=>rw[hy y e,woken_of_again (hA y m e)]
  have still:∀(j:aV)(es:dS)(z:Nat),stepG P false g (Wv J w (L+ds.length))=.go j (Wv J w (L+ds.length)) es->(∀e∈es,(∀x,(MemAct.ofEvent e).touch? =some x->x.kind=.atomic/\Shun x.loc)/\(MemAct.ofEvent e).low B)->uc (Deaf T i) es->DP P K J k z j->deafBehind (Deaf T i) es=dC z->z<=2->
   ∃a O p b l,runT P (crowd S (Wv J w (L+ds.length)) sl) i=(.next (crowd a (Wv J w (L+b.length)) sl),O)/\(∀op∈O,op.g=i)/\a.size=S.size/\a[h]? =S[h]? /\(∀x,x≠i->p x=q x)/\(∀s,Y i=some s->p i=0->∃f,AtIn P (i==0) K (St i) B s g f)/\
   C3 P K Shun St B Y J h b l (T++O) a (Wv J w (L+b.length)) p/\(∀i,i∈b->l i<=2)/\b.length<=ds.length/\sumTo S.size p<sumTo S.size q:=by
   intro j es z d f b hd W t;let⟨a,Q,A,e3,N,e5,e6,_⟩:=C.BB sl n M d C.keep (λ_ _ _ _ _=>rfl) f b;refine⟨a,_,upd q i k,ds,upd sg i z,Q,fM,A,Z j _ a N A,λx r=>upd_ne q k r,λs hs=>ξ,e6 k z hd W,λx r=>?_,az _,gW I H (az _)⟩;by_cases e:x=i
   .subst e;rw[upd_same];exact t
   .rw[upd_ne sg z e];simp_all
  have f:=E i n;rcases hD with ⟨_,j,d,b⟩|⟨t,_,j,d,b⟩|⟨t,_,j,d,b⟩|⟨t,_,e,_⟩|⟨t,_⟩|⟨t,_⟩|⟨t,_⟩
  .exact still j _ _ (d _ C.keep) sw (iQ sw) b (by rw[D];rfl) f
  .exact still j _ 1 (d _ C.keep) (c8 (jS rfl X)) (iQ (c8 rfl)) b (by rw[D,t];rfl) ω
  .exact still j _ 2 (d _ C.keep) (c8 (jS rfl trivial)) (iQ (c8 rfl)) b (by rw[D,t];rfl) ω
  .obtain⟨m,R⟩:∃m,L+ds.length=m+1:=⟨L+ds.length-1,χ⟩
   let⟨j,d,hq⟩:=e m 0 ω ω (.inl rfl);have b:L+(ds.erase i).length=m:=χ
   have u:=d _ C.keep (by rw[R];exact zg G o _);rw[show(Wv J w (L+ds.length)).setCell J.st (.int .u64 (gv m 0))=Wv J w m from set_set _ _ _ _]at u;rw[t]at D;let⟨a,Q,A,e3,N,e5,_,d⟩:=C.BB sl n M u ((jA G).2 o) (λx s c r f=>by
    let⟨U,_,e⟩:=C.chans x s c r f;have c:=nR G o _ e;rw[eG G o _ c,eG G o _ c]) (pg (cL G.sh X) (cL G.sh X)) (mR (by rw[D];decide) ψ)
   refine⟨a,_,upd q i k,ds.erase i,sg,by rw[b];exact Q,fM,A,Z j _ a N A,λx r=>upd_ne q k r,λs hs=>ξ,by rw[b];exact d k (by rw[D];exact hq),λx r=>E x (Hy r),List.length_erase_le,gW I H (az _)⟩
  .omega
  .omega
  .omega
 .let⟨_,O,p,Q,A,e3,N,e5,e6,d,a⟩:=C.aah (sl:=sl) M V n F (λv r=>hA v _ r) hO;grind
theorem mF(G:GK K Shun J)(hB:J.st.block<B)(X:nb<=9999)(R:a.status=.running):∀(H:Nat)(S:jH)(T:Trace)(q:bU)(sl:qT)(b:Nat)(ds:aN)(sg:bU),sumTo S.size q=H->S[h]? =some a->L+ds.length<=nb->(∀i,i∈ds->sg i<=2)->C3 P K Shun St B Y J h ds sg T S (Wv J (w.at b) (L+ds.length)) q->
 ∃N j n d f o F I k r,runNT P N (crowd S (Wv J (w.at b) (L+ds.length)) sl) T=(.next (crowd j (Wv J (w.at n) (L+k.length)) f),F)/\stepT P (crowd j (Wv J (w.at n) (L+k.length)) f)=runT P (crowd j (Wv J (w.at d) (L+k.length)) o) h/\j.size=S.size/\j[h]? =some a/\L+k.length<=nb/\(∀i,i∈k->r i<=2)/\
  C3 P K Shun St B Y J h k r F j (Wv J (w.at d) (L+k.length)) I/\Deaf F h=Deaf T h:=by
 intro H;induction H using Nat.strongRecOn with
 |_ H W=>
  intro S T q sl b ds sg H z hL x C;let⟨i,_,d,o,Z,hg,g⟩:=crowd_pick (P:=P) (w:=Wv J (w.at b) (L+ds.length)) (sl:=sl) (C.awake z (.inl R)) ⟨h,a,z,R⟩;have l:stepT P (crowd S (Wv J (w.at b) (L+ds.length)) sl)=runT P (crowd S (Wv J (w.at d) (L+ds.length)) o) i:=g;have V:C3 P K Shun St B Y J h ds sg T S (Wv J (w.at d) (L+ds.length)) q:=C.in (G.at' _ d C.keep) (λ_ _ _ _ _=>rfl);by_cases e:i=h
  .subst e;exact⟨0,S,b,d,sl,o,T,q,ds,sg,rfl,l,rfl,z,hL,x,V,rfl⟩
  .let⟨j,O,I,k,r,U,y,Q,_,_,_,C',v,_,a⟩:=V.by (sl:=o) G hB ω x Z e hg (λgx m p=>by rw[z]at p;obtain rfl:=Option.some.inj p;exact again_running _ (.inl R))
    (λs a _ _ gx c p _=>by rw[z]at p;obtain rfl:=Option.some.inj p;exact offersAt_of_not_blocked χ _ _)
   let⟨N,A,n,D,f,t,F,M,E,u,h1,h2,h3,h4,h5,h6,h7,h8⟩:=W (sumTo j.size I) χ j _ I o d k r rfl χ ω v C';exact⟨N+1,A,n,D,f,t,F,M,E,u,by simp only[runNT,l,U];exact h1,h2,by rw[h3,Q],h4,h5,h6,h7,by rw[h8];exact Deaf_other T e _ y⟩
def fP(P:aG)(Post:qz)(K Q:cK)(Shun:dm)(St:Nat->Loc->Prop)(Y:Nat->Option Seat)(J:qt)(L nb h n dl:Nat)(g:aV)(w:aj):Prop:=
 ∀(d:Nat)(S:jH)(T:Trace)(q:bU)(sl:qT)(ds:aN)(sg:bU),S.size=n->S[h]? =some g->L+ds.length<=nb->(∀i,i∈ds->sg i<=2)->Q w->Deaf T h=dl->
   C3 P K Shun St w.heap.size Y J h ds sg T S (Wv J (w.at d) (L+ds.length)) q->Goal P Post (crowd S (Wv J (w.at d) (L+ds.length)) sl) T
theorem fP.go(G:GK K Shun J)(o:nb<=9999)(t:a.status=.running)(x:∀w d,Q w->Q (w.at d))(b:∀d,K (w.at d)->Q (w.at d)->∃g' w' es,(∀m,stepG P (h==0) a (Wv J (w.at d) m)=.go g' (Wv J w' m) es)/\K w'/\Q w'/\(∀(c U k:Nat),w.heap[c]? =some (Obj.chan U #[] false k k false)->w'.heap[c]? =w.heap[c]?)/\w.heap.size<=w'.heap.size/\
 (∀e∈es,wE Shun (nG St (λg=>(Y g).isSome)) w'.heap.size h e)/\fP P Post K Q Shun St Y J L nb h n (deafBehind dl es) g' w'):fP P Post K Q Shun St Y J L nb h n dl a w:=by
 intro a S T q sl ds sg e h m g u v C;have n:J.st.block<w.heap.size:=(G.row _ ((jA G).1 C.keep)).1.lt;let⟨N,_,_,d,_,f,_,_,j,l,D,B,e,r,A,z,p,y⟩:=mF G n o t _ S T q sl a ds sg rfl h m g C;have a:K (w.at d):=(jA G).1 p.keep;let⟨g',w',es,t,g,q,o,h,n,m⟩:=b d a (x _ _ u);let⟨C',e⟩:=(p.raise h).own (a':=g') (w':=Wv J w' (L+j.length)) r ((jA G).2 g) (λi s c b h=>by
  let⟨U,k,d⟩:=p.chans i s c b h;have h:=nR G a _ d;have d:w.heap[c]? =some (.chan U #[] false k k false):=h;have b:=o c U k d;rw[eG G a _ h,eG G g _ (b.trans d)];exact b) n
 refine Goal.back (lE D (B.trans (runT_crowd_go (sl:=f) r (t _)))) ?_;exact m w'.drawn _ _ _ f j l ξ e A z q (by rw[Deaf_own,y,v]) C'
theorem JJ(G:GK K Shun J)(f:nb<=9999)(i:∀w d,Q w->Q (w.at d))(o:∀w w' es,D w w' es->DR K Shun (nG St (λg=>(Y g).isSome)) h w w' es/\(Q w->Q w'))(l:∀w d,D w (w.at d) #[])(j:∀w w' es a,D w w' es->(∀e∈a,e∈es)->D w w' a)(b:JE D J.st):
 aB P (h==0) D (fP P Post K Q Shun St Y J L nb h n dl):=by
 refine⟨λg w d x t S T q sl ds sg s p n h a=>x t S T q sl ds sg s p n h (i (w.at d) w.drawn a),l,j,λg w g a=>?_⟩;refine fP.go G f g i λd f g=>?_;let⟨g',w',es,f1,f2,f3,f4⟩:=a d;let⟨r,a⟩:=o _ _ _ f2;refine⟨g',w',es,λm=>f4 _ _ b (G.row _ f).1,r.keep f,a g,λc U k a=>r.chan c U k a,r.size,λe a=>(r.ev e a).1,?_⟩;rw[deafBehind_still (λe a=>(r.ev e a).2)];exact f3
end
end Go.Proofs.YtobagnjnbmgidaaGreatDoor
