import Derived.Test.YtobagnjnbmgidabGreatDoorZ1
import Derived.Conc.Listed
import Derived.Test.YtobagnjnbmgidabGreatDoorChecked
import Derived.Conc.TokenWords
import Derived.Laws.AppendOwn
import Derived.Maps.AppendAt
import Derived.Lib.Overlaps
import Derived.Lib.AppendZerosOnto
set_option linter.all false
set_option maxHeartbeats 0
set_option maxRecDepth 100000
namespace Go.Proofs.YtobagnjnbmgidabGreatDoor
open Go.Conc Go.RowKit Tryz
variable{ats:Array TypeId}{d:Deferred}{l:Int}{B E N ca cb dc g la lb nb off q sc sl:Nat}{α γ:Type}{t:TypeId}{c fr:aC}{r x:ay}{R T:gd}{vs xs:iO}
variable{Ok:dh}{X:Bool}{L L' O:aN}{C C':List Addr}{w' V aaY:aj}{p a1 a2 a3 a4 a5:Addr}{v I v1 v2 v3 v4 v5:ay}{n i:Nat}{D:yW}{Y:gi}{b:aC}{k Z:eC}{U:cO}{Q:g8}{f:FuncId}{fn:Func}{H:gd}{ds:wN}
def Yk(e:Event):Prop:=∀(quiet:FuncId->Bool)(q:Bool)(kept:dS),(seenStep quiet (q,kept) e).2=kept
def Yk.loc{e:Event}(h:Yk e)(z:Addr):e.loc≠.cell z:=λa=>by
 have:=h (λ_=>false) false #[];simp[seenStep,a]at this
def Cr(quiet:FuncId->Bool)(q:Bool)(kept:dS)(a e:Event)(h:e∈(seenStep quiet (q,kept) a).2):e∈kept\/(e=a/\¬Yk a):=by
 by_cases b:(seenStep quiet (q,kept) a).2=kept
 .rw[b]at h;exact .inl h
 have c:¬Yk a:=λz=>b (z quiet q kept);simp only[seenStep]at h;split at h
 .exact .inl h
 .split at h
  .exact .inl h
  .rcases Array.mem_push.1 h with h|h
   .exact .inl h
   .exact .inr ⟨h,c⟩
def zu(quiet:FuncId->Bool):∀(l:TR)(x:Bool×Array Event)(e:Event),e∈(l.foldl (seenStep quiet) x).2->e∈x.2\/¬Yk e:=by
 intro l;induction l with
 |nil=>exact λ_ _ h=>.inl h
 |cons a l b=>
  intro x e h;rcases b _ _ h with h|h
  .rcases Cr quiet x.1 x.2 a e h with h|⟨rfl,h⟩
   .exact .inl h
   .exact .inr h
  .exact .inr h
def zm{P:aG}{fn:FuncId}{a:Act}{o:Oper}{w:aj}{e:Event}(h:e∈listed P fn a o w):e∈(execOp a.eval o).events P w #[]/\¬Yk e:=by
 refine⟨Ly h,?_⟩;unfold listed at h;rw[seen_def]at h;rcases zu _ _ (_,#[]) e h with h|h
 .simp at h
 .exact h
def Dc(f:FuncId):Yk ⟨.mark (.extern f),false,true⟩:=λ_ _ _=>rfl
def aB.opx{P:aG}{a:Act}{w:aj}(F:aB P X D Y){o:Oper}(p:Q[i]? =some o)(n:Region.wanted o (yielded Q a.tmps)=true)(q:b.kind≠.early)(h:∀d,∀K:Act->World->Prop,(∀m w' (S:dS),(∀e∈raw P a o (w.at d),e∈S\/Yk e)->D (w.at d) (w'.at d) S/\Y (G (b.at m (.inRegion Q O::k)) U) w'->K m (w'.at d))->uponK o a K ((execOp a.eval o).run P (w.at d))):
 Y (G (b.at a (.inRegion Q (i::O)::k)) U) w:=
 F.step _ _ rfl λd=>by
  have f:=h d (λm W=>∃S:Array Event,(∀e∈raw P a o (w.at d),e∈S\/Yk e)/\D (w.at d) W S/\Y (G (b.at m (.inRegion Q O::k)) U) W) λm w' S h x=>⟨S,h,x.1,F.at' _ _ _ x.2⟩
  have g:∀S:Array Event,(∀e∈raw P a o (w.at d),e∈S\/Yk e)->∀e∈listed P b.fn a o (w.at d),e∈S:=λS i e j=>by
   let⟨h,b⟩:=zm j;exact(i e h).resolve_right b
  cases c:(execOp a.eval o).run P (w.at d)with
  |halt _ _=>rw[c]at f;exact f.elim
  |ok x a=>
   rw[c]at f;cases x
   case value v=>
    let⟨S,b,a,d⟩:=f;refine⟨_,_,_,stepG_value p n q c,F.less _ _ _ _ a (g S b),d,λz v h i=>?_⟩;let⟨k,l⟩:=rP v c (λe j=>(b e j).elim (h _ _ _ a e) λy=>y.loc z) i;rw[stepG_value p n q k];unfold listed;unfold raw at l;rw[l]
   case skip=>
    let⟨S,b,a,d⟩:=f;refine⟨_,_,_,stepG_none p n q c,F.less _ _ _ _ a (g S b),d,λz v h i=>?_⟩;let⟨k,l⟩:=rP v c (λe j=>(b e j).elim (h _ _ _ a e) λy=>y.loc z) i;rw[stepG_none p n q k];unfold listed;unfold raw at l;rw[l]
   all_goals exact f.elim
abbrev Env:=List (Nat×Value)
def look:Env->Nat->Option Value
 |[],_=>none
 |(k,v)::E,n=>bif k==n then some v else look E n
def ev(E:Env):Operand->Value
 |.tmp t=>(look E t).getD undef
 |.const v=>v
 |.global g=>.pointer (some ⟨g,0,none⟩)
 |.func f=>.func (.func f) #[] #[]
def kn(E:Env):Operand->Bool
 |.tmp t=>(look E t).isSome
 |_=>true
abbrev Ix:=Nat×Nat
structure aH where
 ad:Ix->Addr
 vs:List Value
 vl:Nat->Nat->Value
 n:Nat
 k:Nat
 wr:Bool
 row:Option (Nat×TypeId×Nat)
abbrev aW:=List aH
def aH.has(r:aH)(j:Ix):Prop:=j.1<r.n/\j.2<r.k
def nth:List aH->Nat->Option aH
 |[],_=>none
 |r::_,0=>some r
 |_::l,n+1=>nth l n
def cG:List aH->Nat->aH->List aH
 |[],_,_=>[]
 |_::l,0,r=>r::l
 |x::l,n+1,r=>x::cG l n r
def plain:Value->Bool
 |.agg _=>false
 |.tuple _=>false
 |_=>true
def JD(f:Nat->Nat->Value)(j l:Nat)(x:ay):Nat->Nat->Value:=λa b=>bif b==l&&a==j then x else f a b
def aH.get(r:aH)(j:Ix):Value:=match r.vs with
 |[]=>r.vl j.1 j.2
 |v::vs=>(v::vs).getD j.2 undef
def aH.set(r:aH)(j:Ix)(x:ay):aH:=match r.vs with
 |[]=>⟨r.ad,[],JD r.vl j.1 j.2 x,r.n,r.k,r.wr,r.row⟩
 |v::vs=>⟨r.ad,(v::vs).set j.2 x,r.vl,r.n,r.k,r.wr,r.row⟩
def aH.may(r:aH)(j:Ix):Bool:=match r.vs with
 |[]=>true
 |v::vs=>Nat.blt j.2 (v::vs).length&&r.n==1
def aH.zp(r:aH)(j:Ix)(x:ay):(r.set j x).ad=r.ad:=by unfold aH.set;grind
def aH.Ph(r:aH)(j:Ix)(x:ay):(r.set j x).n=r.n:=by unfold aH.set;grind
def aH.Pj(r:aH)(j:Ix)(x:ay):(r.set j x).k=r.k:=by unfold aH.set;grind
def aH.Ez(r:aH)(j:Ix)(x:ay):(r.set j x).wr=r.wr:=by unfold aH.set;grind
def aH.H7(r:aH)(j:Ix)(x:ay):(r.set j x).row=r.row:=by unfold aH.set;grind
def aH.vA(r:aH)(j:Ix)(x:ay)(k:Ix):(r.set j x).has k↔r.has k:=by unfold aH.has;rw[aH.Ph,aH.Pj]
def aH.Jf(r:aH)(j k:Ix)(x:ay)(f:r.may j=true)(m:r.has j)(l:r.has k):(r.set j x).get k=if k=j then x else r.get k:=by
 let⟨i,a⟩:=j;let⟨h,e⟩:=k;let⟨q,vs,g,n,c,wr,d⟩:=r;cases vs with
 |nil=>
  simp only[aH.set,aH.get,JD];grind
 |cons v vs=>
  simp only[aH.may,bZ]at f;let⟨_,j⟩:=f;have j:a<(v::vs).length:=ξ
  have j:n=1:=ξ
  have p:i=0:=by have:=m.1;simp_all
  have o:h=0:=by have:=l.1;simp_all
  subst p;subst o;have b:∃u us,(v::vs).set a x=u::us:=by cases a<;>exact⟨_,_,rfl⟩
  let⟨u,us,h⟩:=b;have b:(aH.set ⟨q,v::vs,g,n,c,wr,d⟩ (0,a) x).get (0,e)=((v::vs).set a x).getD e undef:=by
   simp only[aH.set,aH.get,h]
  rw[b];by_cases b:e=a
  .grind
  .rw[af (by simp[b])];simp only[aH.get,ni,List.getElem?_set_ne (λz=>b z.symm)]
abbrev Hint:=Nat×Ix×Bool
structure lW where
 hs:List Hint
 M:List aH
 c:Nat
 eqs:List (Addr×Addr)
 cW:List (Nat×Nat)
def lW.yK(m:lW)(hs:List Hint)(M:aW)(a b:Addr)(l:Bool)(j n:Nat):lW:=⟨hs,M,m.c,(a,b)::m.eqs,bif l then m.cW else(j,n)::m.cW⟩
def Yr(b:Nat)(t:TypeId)(U:gd):aH:=⟨λj=>⟨b,j.2,none⟩,U.toList,λ_ _=>undef,1,U.size,true,match U.toList with|[]=>none|_::_=>some (b,t,U.size)⟩
def dw{α:Type}(P:aG)(B:Nat):Sem α->lW->Option (α×lW)
 |.pure a,s=>some (a,s)
 |.load _ a k,s=>match s.hs with
  |(i,j,l)::hs=>match nth s.M i with
   |some r=>bif Nat.blt j.2 r.k&&(!l||Nat.blt j.1 r.n)then dw P B (k (r.get j)) (s.yK hs s.M a (r.ad j) l j.1 r.n)else none
   |none=>none
  |[]=>none
 |.store _ a v k,s=>match s.hs with
  |(i,j,l)::hs=>match nth s.M i with
   |some r=>bif r.wr&&plain v&&r.may j&&(Nat.blt j.2 r.k&&(!l||Nat.blt j.1 r.n))then dw P B k (s.yK hs (cG s.M i (r.set j v)) a (r.ad j) l j.1 r.n)else none
   |none=>none
  |[]=>none
 |.new o k,s=>match o with
  |.cells U t (0,0)=>dw P B (k (B+s.c)) {s with M:=Yr (B+s.c) t U::s.M,c:=s.c+1}
  |_=>none
 |.program k,s=>dw P B (k P) s
 |.mark (.extern _) k,s=>dw P B k s
 |_,_=>none
def cV{α:Type}(P:aG):Sem α->Option α
 |.pure a=>some a
 |.program k=>cV P (k P)
 |_=>none
def pI(w:aj)(g:Nat)(e:TypeId)(n:Nat):Prop:=∃T,w.heap[g]? =some (.cells T e (0,0))/\T.size=n
def pI.set{w:aj}{e:TypeId}(h:pI w g e n)(a:Addr)(v:ay):pI (w.setCell a v) g e n:=by
 let⟨T,a,b⟩:=h;unfold pI;simp only[World.setCell,sU,a];grind
def pI.alloc{w:aj}{g n:Nat}{e:TypeId}(h:pI w g e n)(o:Obj):pI (w.alloc o) g e n:=by
 let⟨T,a,b⟩:=h;exact⟨T,by rw[Below.heap_alloc _ _ _ ((cU.1 a).1)];exact a,b⟩
structure Sat(Ok:dh)(w:aj)(M:aW):Prop where
 val:∀i r,nth M i=some r->∀j,r.has j->w.cell? (r.ad j)=some (r.get j)
 ok:∀i r,nth M i=some r->∀j,r.has j->Ok (r.ad j) false/\(r.wr=true->Ok (r.ad j) true/\w.frozen? (r.ad j)=false)
 sep:∀i r i' r',nth M i=some r->nth M i'=some r'->r.wr=true->∀j j',r.has j->r'.has j'->r.ad j=r'.ad j'->i=i'/\j=j'
 row:∀i r,nth M i=some r->∀g e n,r.row=some (g,e,n)->r.has (0,0)/\(r.ad (0,0)).block=g/\pI w g e n
def Wr(M:aW)(a:Addr):Prop:=∃i r j,nth M i=some r/\r.wr=true/\r.has j/\r.ad j=a
structure Fr(W:Addr->Prop)(w w':aj):Prop where
 size:w.heap.size<=w'.heap.size
 cell:∀a:Addr,a.block<w.heap.size->¬W a->w'.cell? a=w.cell? a/\w'.frozen? a=w.frozen? a
 blk:∀k:Nat,k<w.heap.size->(∀a:Addr,a.block=k->¬W a)->w'.heap[k]? =w.heap[k]?
 obj:∀(c:Nat)(o:Obj),w.heap[c]? =some o->(∀U t f,o≠Obj.cells U t f)->w'.heap[c]? =some o
 row:∀g e n,pI w g e n->pI w' g e n
def Fr.refl(W:Addr->Prop)(w:aj):Fr W w w:=⟨az _,λ_ _ _=>⟨rfl,rfl⟩,λ_ _ _=>rfl,λ_ _ h _=>h,λ_ _ _ h=>h⟩
def Fr.trans{W i:Addr->Prop}{w f b:aj}(h:Fr W w f)(d:Fr i f b)(j:∀a,i a->W a\/w.heap.size<=a.block):Fr W w b:=by
 refine⟨aT h.size d.size,λa f b=>?_,λk i b=>?_,λc o l b=>d.obj c o (h.obj c o l b) b,λg e n z=>d.row g e n (h.row g e n z)⟩
 .have c:=h.cell a f b;have c:=d.cell a (ga f h.size) (λx=>(j a x).elim b ω);simp_all
 .rw[<-h.blk k i b];exact d.blk k (ga i h.size) (λa f x=>(j a x).elim (b a f) ω)
def DX.trans{Ok:dh}{w f d:aj}{i g:dS}(h:DX Ok w f i)(b:DX Ok f d g):DX Ok w d (i++g):=by
 refine⟨λe g=>?_,aT h.size b.size,λc o f d=>b.obj c o (h.obj c o f d) d,λa d f=>?_,λk c d=>?_,?_⟩
 .rcases nQ.1 g with x|x
  .rcases h.ev e x with ⟨a,i,g,l,j⟩|y
   .exact .inl ⟨a,i,g,l,ga j b.size⟩
   .exact .inr y
  .exact b.ev e x
 .have i:=h.cell a d f;have g:=b.cell a d (ga f h.size);simp_all
 .rw[<-h.blk k c d];exact b.blk k (ga c h.size) d
 .exact⟨b.rest.1.trans h.rest.1,b.rest.2.1.trans h.rest.2.1,b.rest.2.2.trans h.rest.2.2⟩
def dX:∀(M:aW)(i:Nat)(r:aH)(k:Nat),nth (cG M i r) k=if k=i then(nth M i).map (λ_=>r)else nth M k
 |[],i,r,k=>by simp[cG,nth]
 |x::l,0,r,k=>by cases k<;>simp[cG,nth]
 |x::l,i+1,r,k=>by
  cases k with
  |zero=>rfl
  |succ k=>simp[cG,nth,dX l i r k]
def iB{M:aW}{R s:aH}{k:Nat}(h:nth (R::M) k=some s):(∃a,k=a+1/\nth M a=some s)\/(k=0/\s=R):=by
 cases k with
 |zero=>simp[nth]at h;simp_all
 |succ k=>exact .inl ⟨k,rfl,h⟩
def qH:∀(M:aW)(k:Nat)(r:aH),nth M k=some r->k<M.length
 |[],k,r=>by simp[nth]
 |x::l,0,r=>ψ
 |x::l,k+1,r=>λh=>by have:=qH l k r h;simp;omega
section
variable{w:aj}{M:aW}
def Sat.lt(h:Sat Ok w M){r:aH}(b:nth M i=some r){j:Ix}(a:r.has j):(r.ad j).block<w.heap.size:=au (h.val i r b j a)
def Sat.set(h:Sat Ok w M){i:Nat}{r:aH}(q:nth M i=some r)(J:r.wr=true){j:Ix}(z:r.has j)(P:r.may j=true)(v:ay):
 Sat Ok (w.setCell (r.ad j) v) (cG M i (r.set j v)):=by
 have key:∀k s,nth (cG M i (r.set j v)) k=some s->∃a,nth M k=some a/\s.ad=a.ad/\(∀l,s.has l->a.has l)/\s.wr=a.wr/\(k=i->s=r.set j v/\a=r)/\(k≠i->s=a):=by
  intro k s c;rw[dX]at c;split at c
  .rename_i e;subst e;rw[q]at c;simp at c;subst c;exact⟨r,q,aH.zp ..,λl h=>(aH.vA ..).1 h,aH.Ez ..,λ_=>⟨rfl,rfl⟩,λx=>absurd rfl x⟩
  simp_all
 have Q:=h.val i r q j z;refine⟨λk s c l d=>?_,λk s c l d=>?_,λk s I N c E O l H d D K=>?_,λk s c g e n F=>?_⟩
 .let⟨a,f,t,m,A,y,u⟩:=key k s c;by_cases b:k=i
  .let⟨f1,f2⟩:=y b;subst b;subst f2;rw[t,f1,aH.Jf _ _ _ _ P z (m l d)];by_cases p:l=j
   .subst p;rw[World.cell?_setCell_same' _ _ _ (by rw[Q];rfl)];simp
   .have o:a.ad j≠a.ad l:=λe=>p (h.sep k a k a q q J j l z (m l d) e).2.symm;rw[qa _ _ _ _ o,af p];exact h.val k a q l (m l d)
  .obtain rfl:=u b;have o:r.ad j≠s.ad l:=λe=>b (h.sep i r k s q f J j l z d e).1.symm;rw[qa _ _ _ _ o];exact h.val k s f l d
 .let⟨a,f,t,m,A,y,u⟩:=key k s c;rw[t,A,YB];exact h.ok k a f l (m l d)
 .let⟨a,f,t,m,A,y,u⟩:=key k s c;let⟨L,R,f1,f2,f3,f4,f5⟩:=key I N E;rw[t,f1]at K;exact h.sep k a I L f R ξ l H (m l d) (f2 H D) K
 .let⟨a,f,t,m,A,y,u⟩:=key k s c;by_cases b:k=i
  .let⟨f1,f2⟩:=y b;subst b;subst f2;subst f1;rw[aH.H7]at F;let⟨C,G,B⟩:=h.row k a f g e n F;exact⟨(aH.vA ..).2 C,ξ,B.set _ _⟩
  .obtain rfl:=u b;let⟨C,G,B⟩:=h.row k s f g e n F;exact⟨C,G,B.set _ _⟩
def Sat.new(h:Sat Ok w M)(U:gd)(t:TypeId)(o:∀(a:Addr)(wr:Bool),w.heap.size<=a.block->Ok a wr):Sat Ok (w.alloc (.cells U t (0,0))) (Yr w.heap.size t U::M):=by
 refine⟨λk s i l b=>?_,λk s i l b=>?_,λk s J E i p r l y b d q=>?_,λk s i g e n m=>?_⟩
 .rcases iB i with ⟨f,_,c⟩|⟨_,rfl⟩
  .rw[Hx _ _ _ (h.lt c b)];exact h.val f s c l b
  .have d:l.2<U.size:=b.2;show(w.alloc (.cells U t (0,0))).cell? ⟨w.heap.size,l.2,none⟩=some (aH.get (Yr w.heap.size t U) l);have m:aH.get (Yr w.heap.size t U) l=U.toList.getD l.2 undef:=by
    cases u:U.toList with
    |nil=>simp_all
    |cons v vs=>simp only[Yr,aH.get,u]
   simp_all
 .rcases iB i with ⟨f,_,c⟩|⟨_,rfl⟩
  .have F:(w.alloc (.cells U t (0,0))).frozen? (s.ad l)=w.frozen? (s.ad l):=World.frozen?_alloc_past _ _ _ (h.lt c b);rw[F];exact h.ok f s c l b
  .refine⟨o _ _ (az _),λ_=>⟨o _ _ (az _),?_⟩⟩;show(w.alloc (.cells U t (0,0))).frozen? ⟨w.heap.size,l.2,none⟩=false;simp
 .rcases iB i with ⟨f,L,c⟩|⟨I,rfl⟩
  .rcases iB p with ⟨z,H,j⟩|⟨A,rfl⟩
   .have:=h.sep f s z E c j r l y b d q;simp_all
   .have:=h.lt c b;rw[q]at this;exact absurd this (Ap _)
  .rcases iB p with ⟨z,H,j⟩|⟨A,rfl⟩
   .have:=h.lt j d;rw[<-q]at this;exact absurd this (Ap _)
   .refine⟨I.trans A.symm,?_⟩;have K:l.2=y.2:=cT Addr.off q;have G:=b.1;have x:=d.1;simp only[Yr]at G x;grind
 .rcases iB i with ⟨f,_,c⟩|⟨_,rfl⟩
  .let⟨D,C,B⟩:=h.row f s c g e n m;exact⟨D,C,B.alloc _⟩
  .simp only[Yr]at m;split at m
   .cases m
   .rename_i v vs u;cases m;have:U.toList.length=vs.length+1:=by rw[u];rfl
    rw[za]at this;refine⟨⟨aD,by simp only[Yr];omega⟩,rfl,U,?_,rfl⟩;show(w.heap.push (.cells U t (0,0)))[w.heap.size]? =_;simp
end
def zx{P:aG}{m:Mode}{a:Addr}{k:Sem α}{w:aj}{es:dS}(b:plain v=true)(d:w.cell? a=some x)(c:w.frozen? a=false):
 (Sem.store m a v k).runT P w es=k.runT P (w.setCell a v) (es.push ⟨.cell a,true,m==.atomic⟩):=by
 cases v<;>first|(simp[plain]at b;done)|simp[Sem.runT,d,c]
def aE{β:Type}{c:Bool}{x:Option β}{y:β}(h:(bif c then x else none)=some y):c=true/\x=some y:=by
 grind
def gI{P:aG}:∀(s:Sem α)(m c:lW)(x:α),dw P B s m=some (x,c)->(∀p∈m.eqs,p∈c.eqs)/\(∀p∈m.cW,p∈c.cW):=by
 have e:∀(m:lW)(e:List Hint)(M:aW)(a b:Addr)(l:Bool)(j n:Nat),(∀p∈m.eqs,p∈(m.yK e M a b l j n).eqs)/\(∀p∈m.cW,p∈(m.yK e M a b l j n).cW):=λm e M a b l j n=>
  ⟨λp f=>aP _ f,λp f=>by cases l<;>simp[lW.yK,f]⟩
 intro s;induction s with
 |pure a=>intro m c x h;simp[dw]at h;simp_all
 |load md a k d=>
  intro m c x h;simp only[dw]at h;grind
 |store md a v k d=>
  intro m c x h;simp only[dw]at h;grind
 |new o k d=>
  intro m c x h;simp only[dw]at h;split at h
  .have a:=d _ _ _ _ h;exact a
  .cases h
 |program k d=>intro m c x h;exact d _ _ _ _ h
 |mark mk k d=>
  intro m c x h;cases mk<;>simp only[dw]at h<;>first|exact d _ _ _ h|cases h
 |_=>intros;simp_all [dw]
structure Inv(Ok:dh)(B:Nat)(w:aj)(m:lW):Prop where
 sat:Sat Ok w m.M
 sz:w.heap.size=B+m.c
def Wr.put{M:aW}{r:aH}{l:Ix}(g:nth M i=some r){a:Addr}(h:Wr (cG M i (r.set l v)) a):Wr M a:=by
 let⟨k,s,j,b,f,d,c⟩:=h;rw[dX]at b;split at b
 .rename_i e;subst e;rw[g]at b;simp at b;subst b;rw[aH.Ez]at f;rw[aH.vA]at d;rw[aH.zp]at c;exact⟨k,r,j,g,f,d,c⟩
 .exact⟨k,s,j,b,f,d,c⟩
def Wr.cons{M:aW}{b:Nat}{U:gd}{a:Addr}(h:Wr (Yr b t U::M) a):Wr M a\/b<=a.block:=by
 let⟨k,s,j,a,f,e,c⟩:=h;rcases iB a with ⟨d,_,g⟩|⟨_,rfl⟩
 .exact .inl ⟨d,s,j,g,f,e,c⟩
 .subst c;exact .inr (az _)
def xM{x:Event}{es S:dS}(h:∀e∈es,e∈S\/Yk e):∀e∈#[x]++es,e∈#[x]++S\/Yk e:=λe a=>by
 grind
def AH{P:aG}(hB:∀(a:Addr)(wr:Bool),B<=a.block->Ok a wr):∀(s:Sem α)(m F:lW)(x:α),dw P B s m=some (x,F)->
 (∀p∈F.eqs,p.1=p.2)->(∀p∈F.cW,p.1<p.2)->∀(w:aj)(es:dS),Inv Ok B w m->
 ∃w' c S,Inv Ok B w' F/\(∀d,s.runT P (w.at d) es=(.ok x (w'.at d),es++c))/\((∀e∈c,e∈S\/Yk e)/\∀d,DX Ok (w.at d) (w'.at d) S)/\Fr (Wr m.M) w w'/\(∀a,Wr F.M a->Wr m.M a\/w.heap.size<=a.block):=by
 intro s;induction s with
 |pure a=>
  intro m F x h D q w es u;simp[dw]at h;obtain⟨rfl,rfl⟩:=h;exact⟨w,#[],#[],u,λd=>φ,⟨ψ,λd=>DX.still d ψ⟩,Fr.refl _ _,λ_ h=>.inl h⟩
 |load md a k H=>
  intro m F x h D q w es u;simp only[dw]at h;split at h
  .rename_i i j l hs X;split at h
   .rename_i r L;let⟨I,h⟩:=aE h;have C:=gI _ _ _ _ h;have ea:a=r.ad j:=D (a,r.ad j) (C.1 (a,r.ad j) (by simp[lW.yK]));simp only[bZ]at I;have N:r.has j:=by
     refine⟨?_,by simpa using I.1⟩;cases l with
     |true=>simpa using I.2
     |false=>exact q (j.1,r.n) (C.2 (j.1,r.n) (by simp[lW.yK]))
    subst ea;have O:=u.sat.val i r L j N;let⟨w',c,S,A,y,E,K,J⟩:=H _ _ _ _ h D q w (es.push ⟨.cell (r.ad j),false,md==.atomic⟩) ⟨u.sat,u.sz⟩;refine⟨w',#[⟨.cell (r.ad j),false,md==.atomic⟩]++c,#[⟨.cell (r.ad j),false,md==.atomic⟩]++S,A,λd=>?_,⟨xM E.1,λd=>DX.trans (DX.still d (λe C=>?_)) (E.2 d)⟩,K,J⟩
    .have V:(w.at d).cell? (r.ad j)=some (r.get j):=O;simp only[Sem.runT,V];rw[y d];simp
    .simp at C;subst C;exact Rt O (u.sat.ok i r L j N).1
   .cases h
  .cases h
 |store md a v k H=>
  intro m F x h D q w es u;simp only[dw]at h;split at h
  .rename_i i j l hs X;split at h
   .rename_i r L;let⟨I,h⟩:=aE h;have C:=gI _ _ _ _ h;have ea:a=r.ad j:=D (a,r.ad j) (C.1 (a,r.ad j) (by simp[lW.yK]));simp only[bZ]at I;let⟨⟨⟨T,hp⟩,Q⟩,I⟩:=I;have N:r.has j:=by
     refine⟨?_,by simpa using I.1⟩;cases l with
     |true=>simpa using I.2
     |false=>exact q (j.1,r.n) (C.2 (j.1,r.n) (by simp[lW.yK]))
    subst ea;have O:=u.sat.val i r L j N;have W:=(u.sat.ok i r L j N).2 T;have M:(w.setCell (r.ad j) v).heap.size=w.heap.size:=ψ
    let⟨w',c,S,A,y,E,K,J⟩:=H _ _ _ h D q (w.setCell (r.ad j) v) (es.push ⟨.cell (r.ad j),true,md==.atomic⟩) ⟨u.sat.set L T N Q v,M.trans u.sz⟩;have R:∀b,Wr (cG m.M i (r.set j v)) b->Wr m.M b:=λb q=>q.put L;have Y:Fr (Wr m.M) w (w.setCell (r.ad j) v):=by
     have G:=DX.set (Ok:=λa wr=>wr=true->Wr m.M a) (w:=w) (es:=#[]) (v:=v) 0 (a:=r.ad j) (λ_=>⟨i,r,j,L,T,N,rfl⟩) ψ;exact⟨G.size,λb A y=>G.cell b (λz=>y (z rfl)) A,λk A y=>G.blk k A (λb e z=>y b e (z rfl)),G.obj,λg e n z=>z.set _ _⟩
    refine⟨w',#[⟨.cell (r.ad j),true,md==.atomic⟩]++c,#[⟨.cell (r.ad j),true,md==.atomic⟩]++S,A,λd=>?_,⟨xM E.1,λd=>DX.trans (DX.set d W.1 (λe C=>?_)) (E.2 d)⟩,Y.trans K (λb q=>.inl (R b q)),λb q=>(J b q).imp (R b) (λz=>ω)⟩
    .rw[zx (P:=P) (w:=w.at d) hp (show(w.at d).cell? (r.ad j)=some (r.get j)from O) W.2];show Sem.runT P k ((w.setCell (r.ad j) v).at d) _=_;rw[y d];simp
    .simp at C;subst C;exact Rt (w:=w.setCell (r.ad j) v) (World.cell?_setCell_same' _ _ _ (by rw[O];rfl)) W.1
   .cases h
  .cases h
 |new o k H=>
  intro m F x h D q w es u;simp only[dw]at h;split at h
  .rename_i U t;have Z:∀(a:Addr)(wr:Bool),w.heap.size<=a.block->Ok a wr:=λa wr z=>hB a wr (by rw[u.sz]at z;omega);have hS:=u.sat.new U t Z;rw[u.sz]at hS;have M:(w.alloc (.cells U t (0,0))).heap.size=w.heap.size+1:=Array.size_push _;let⟨w',c,S,A,y,E,K,J⟩:=H _ _ _ _ h D q (w.alloc (.cells U t (0,0))) es ⟨hS,by rw[M,u.sz,Nat.add_assoc]⟩;have G:=DX.alloc (Ok:=Ok) (w:=w) (es:=#[]);have Y:Fr (Wr m.M) w (w.alloc (.cells U t (0,0))):=by
    have G:=DX.alloc (Ok:=λa wr=>wr=true->Wr m.M a) (w:=w) (es:=#[]) 0 (.cells U t (0,0)) ψ;exact⟨G.size,λb A y=>G.cell b (λz=>y (z rfl)) A,λk A y=>G.blk k A (λb e z=>y b e (z rfl)),G.obj,λg e n z=>z.alloc _⟩
   have R:∀b,Wr (Yr (B+m.c) t U::m.M) b->Wr m.M b\/w.heap.size<=b.block:=λb q=>(Wr.cons q).imp id (λz=>by rw[u.sz];exact z);refine⟨w',c,S,A,λd=>?_,⟨E.1,λd=>?_⟩,Y.trans K R,λb q=>(J b q).elim (R b) (λz=>.inr ω)⟩
   .have hz:(w.at d).heap.size=B+m.c:=u.sz;simp only[Sem.runT,hz];exact y d
   .have:=DX.trans (G d (.cells U t (0,0)) ψ) (E.2 d);grind
  .cases h
 |program k H=>
  intro m F x h D q w es u;let⟨w',c,S,A,y,E,K,J⟩:=H _ _ _ _ h D q w es u;exact⟨w',c,S,A,λd=>by simp only[Sem.runT];exact y d,E,K,J⟩
 |mark mk k H=>
  intro m F x h D q w es u;cases mk<;>try(simp only[dw]at h;cases h;done)
  rename_i f;simp only[dw]at h;let⟨w',c,S,A,y,E,K,J⟩:=H _ _ _ h D q w (es.push ⟨.mark (.extern f),false,true⟩) u;refine⟨w',#[⟨.mark (.extern f),false,true⟩]++c,S,A,λd=>?_,⟨λe C=>?_,E.2⟩,K,J⟩
  .simp only[Sem.runT];rw[y d];simp
  .rcases nQ.1 C with z|z
   .simp at z;rw[z];exact .inr (Dc f)
   grind
 |_=>intros;simp_all [dw]
def fV{P:aG}:∀(s:Sem α)(x:α),cV P s=some x->∀(w:aj)(es:dS),s.runT P w es=(.ok x w,es):=by
 intro s;induction s with
 |pure a=>intro x h w es;simp[cV]at h;simp_all
 |program k b=>intro x h w es;simp only[Sem.runT];exact b _ _ h w es
 |_=>intros;simp_all [cV]
def mixed:prog.follows .mixedOrders=true:=ρ
def aB.OA{P:aG}{a:Act}{w:aj}(F:aB P X D Y){o:Oper}(f:Q[i]? =some o)(e:Region.wanted o (yielded Q a.tmps)=true)(g:b.kind≠.early)(h:∀d,∀K:Act->World->Prop,(∀c w',D (w.at d) w' (raw P a o (w.at d))/\Y (G (b.at c (.inRegion Q O::k)) U) w'->K c w')->uponK o a K ((execOp a.eval o).run P (w.at d))):
 Y (G (b.at a (.inRegion Q (i::O)::k)) U) w:=
 F.W6 f e g h
structure Kp(L:aN)(w w':aj)(C:List Addr:=[]):Prop where
 size:w.heap.size<=w'.heap.size
 cellC:∀(a:Addr)(v:ay),a.block∉L->a∉C->w.cell? a=some v->w'.cell? a=some v
 Q6:∀(a:Addr)(v:ay),a.block∉L->a∉C->w.cell? a=some v->w'.frozen? a=w.frozen? a
 blk:∀(k:Nat)(c:gd)(t:TypeId)(f:Nat×Nat),k∉L->(∀x∈C,x.block≠k)->w.heap[k]? =some (.cells c t f)->w'.heap[k]? =some (.cells c t f)
section
variable{w:aj}{a:Addr}{o:Obj}
def Kp.cell(h:Kp L w w')(a:Addr)(v:ay)(b:a.block∉L)(c:w.cell? a=some v):w'.cell? a=some v:=h.cellC a v b ψ c
def Kp.V7(h:Kp L w w')(a:Addr)(v:ay)(b:a.block∉L)(c:w.cell? a=some v):w'.frozen? a=w.frozen? a:=h.Q6 a v b ψ c
def Kp.refl(w:aj):Kp L w w C:=⟨az _,λ_ _ _ _ h=>h,λ_ _ _ _ _=>rfl,λ_ _ _ _ _ _ h=>h⟩
def Kp.pX(k:Kp L w w' C)(h:Kp L' w' V C')(l:∀x∈L',x∈L\/w.heap.size<=x)(m:∀x∈C',x∈C\/x.block∈L\/w.heap.size<=x.block):Kp L w V C:=by
 have j:∀(a:Addr)(v:ay),a.block∉L->a∉C->w.cell? a=some v->a.block∉L'/\a∉C':=λa v j d i=>⟨λz=>(l _ z).elim j λy=>absurd (au i) (wT.2 y),λz=>(m _ z).elim d λy=>y.elim j λy=>absurd (au i) (wT.2 y)⟩
 exact⟨aT k.size h.size,λa v d g i=>h.cellC a v (j a v d g i).1 (j a v d g i).2 (k.cellC a v d g i),λa v d g i=>(h.Q6 a v (j a v d g i).1 (j a v d g i).2 (k.cellC a v d g i)).trans (k.Q6 a v d g i),λb c t f g a d=>h.blk b c t f (λz=>(l _ z).elim g λy=>absurd (cU.1 d).1 (wT.2 y)) (λx h e=>(m x h).elim (λy=>a x y e) λy=>y.elim (λy=>g (e▸y)) λy=>absurd (cU.1 d).1 (wT.2 (e▸y))) (k.blk b c t f g a d)⟩
def Kp.RY(k:Kp L w w' C)(h:Kp L' w' V)(a:∀x∈L',x∈L\/w.heap.size<=x):Kp L w V C:=k.pX h a ψ
def Kp.old(h:Kp L w w' C)(a:∀x∈L,x∈L'\/w.heap.size<=x)(b:∀x∈C,x∈C'\/x.block∈L'\/w.heap.size<=x.block):Kp L' w w' C':=(Kp.refl w).pX h a b
def kS(b:a.block<w.heap.size):(w.alloc o).frozen? a=w.frozen? a:=World.frozen?_alloc_old w o a (iS b)
def Kp.alloc(e:w.alloc o=V):Kp L w V:=by
 subst e;exact⟨ψ,λa v _ _ b=>(Hx _ _ _ (au b)).trans b,λa v _ _ b=>kS (au b),λk c t f _ _ h=>(Below.heap_alloc _ _ _ (cU.1 h).1).trans h⟩
def Kp.H8(e:w.setCell p v=V):Kp [] w V [p]:=by
 subst e;exact⟨ψ,λa x _ b d=>(qa _ _ _ _ (λz=>b (by simp[z]))).trans d,λa x _ _ _=>YB _ _ _ _,λk c t f _ b h=>by simp only[World.setCell,sU,b p ψ,if_false];exact h⟩
def Kp.yT(k:Kp L w w' C)(e:w'.alloc o=V):Kp L w V C:=k.pX (Kp.alloc (L:=[]) e) ψ ψ
def Kp.EH(k:Kp L w w' C)(e:w'.setCell p v=V)(a:p.block∈L\/p∈C\/w.heap.size<=p.block):Kp L w V C:=
 k.pX (Kp.H8 e) ψ χ
def bN(h:w.cell? a=some v)(e:w.alloc o=V):V.cell? a=some v:=by subst e;exact(Hx _ _ _ (au h)).trans h
def dP(z:w.frozen? a=false)(h:w.cell? a=some v)(e:w.alloc o=V):V.frozen? a=false:=by subst e;exact(kS (au h)).trans z
def rC(e:w.alloc o=V)(a:w.heap.size=n):V.heap.size=n+1:=by subst e;simp_all
def aY{c:gd}(e:w.alloc (.cells c t)=V)(a:w.heap.size=n)(b:c[i]? =some v):V.cell? ⟨n,i,none⟩=some v:=by subst e;subst a;simp_all
def cy{c:gd}(e:w.alloc (.cells c t)=V)(a:w.heap.size=n)(i:Nat):V.frozen? ⟨n,i,none⟩=false:=by subst e;subst a;simp
def ny(e:w.alloc o=V)(a:w.heap.size=n):V.heap[n]? =some o:=by subst e;subst a;show(w.heap.push o)[w.heap.size]? =_;simp
def dQ(h:w.cell? a=some v)(e:w.setCell p I=V)(b:p≠a):V.cell? a=some v:=by subst e;exact(qa _ _ _ _ b).trans h
def kP(h:w.cell? a=some v)(e:w.setCell a I=V):V.cell? a=some I:=by subst e;exact D6 _ _ _ h
def eF(z:w.frozen? a=false)(e:w.setCell p I=V):V.frozen? a=false:=by subst e;simp_all
def Kg(e:w.setCell p I=V):V.heap.size=w.heap.size:=by subst e;simp
def lu(e:w.setCell p I=V):w.heap.size<=V.heap.size/\V.heap.size<=w.heap.size:=by have:=Kg e;omega
def gH(e:w.alloc o=V)(a:w.heap.size=n):n<V.heap.size/\V.heap.size<=n+1:=by have:=rC e a;omega
end
def DX.Pg{Ok:dh}{es:dS}(d:Nat):∀(l:oJ)(w:aj),(∀x∈l,Ok x.1 true)->(∀e∈es,G4 Ok ((l.foldl (λw x=>w.setCell x.1 x.2) w).at d) e)->DX Ok (w.at d) ((l.foldl (λw x=>w.setCell x.1 x.2) w).at d) es
 |[],w,_,h=>DX.still d h
 |x::l,w,ok,h=>by
  have e:=DX.Pg d l (w.setCell x.1 x.2) (λy b=>ok y (aP _ b)) h;have b:DX Ok (w.at d) ((w.setCell x.1 x.2).at d) #[]:=DX.set d (ok x (bI ..)) ψ;exact⟨e.ev,aT b.size e.size,λc o f d=>e.obj c o (b.obj c o f d) d,λa f c=>by
   have g:=b.cell a f c;have g:=e.cell a f (ga c b.size);simp_all,λk a d=>(e.blk k (ga a b.size) d).trans (b.blk k a d),e.rest.1.trans b.rest.1,e.rest.2.1.trans b.rest.2.1,e.rest.2.2.trans b.rest.2.2⟩
section
variable{es:dS}{w:aj}
def DX.Ud(d:Nat)(b:Ok a1 true)(a:Ok a2 true)(h:∀e∈es,G4 Ok (((w.setCell a1 v1).setCell a2 v2).at d) e):DX Ok (w.at d) (((w.setCell a1 v1).setCell a2 v2).at d) es:=
 DX.Pg d [(a1,v1),(a2,v2)] w (by simp[b,a]) h
end
section
variable(P:aG)(w:aj)(es:dS)(a:Addr)(m:Mode)
def fD(b:eP)(n c:Nat):(store a (.slice b n c) m).events P w es=storedEv P w es a (.slice b n c) m:=events_store P w es a _ m rfl
def ig(b:eP):(store a (.pointer b) m).events P w es=storedEv P w es a (.pointer b) m:=events_store P w es a _ m rfl
def fE(t:TypeId)(v:ay):(store a (.iface t v) m).events P w es=storedEv P w es a (.iface t v) m:=events_store P w es a _ m rfl
def jc:(store a .nilIface m).events P w es=storedEv P w es a .nilIface m:=events_store P w es a _ m rfl
def gP(b:Bool):(store a (.bool b) m).events P w es=storedEv P w es a (.bool b) m:=events_store P w es a _ m rfl
end
def cw(v:ay):List Nat:=match v.ownBlock with|some g=>[g]|none=>[]
def bS:g∈cw v↔v.ownBlock=some g:=by
 unfold cw;grind
def Kp.grown{w:aj}(h:w.grownBy w' v.ownBlock):Kp (cw v) w w':=by
 have e:∀(a:Addr)(x:ay),a.block∉cw v->w.cell? a=some x->w'.heap[a.block]? =w.heap[a.block]? :=λa x b d=>h.block _ (au d) λz=>b (bS.2 z.symm);exact⟨h.size,λa x b _ d=>(World.cell?_of_block (e a x b d)).trans d,λa x b _ d=>World.frozen?_of_block (e a x b d),λk c t f b _ a=>(h.block k (cU.1 a).1 λz=>b (bS.2 z.symm)).trans a⟩
def aB.append{P:aG}{a:Act}{w:aj}(F:aB P X (DX Ok) Y){o:Oper}(ho:Q[i]? =some o)(hw:Region.wanted o (yielded Q a.tmps)=true)(hk:b.kind≠.early)(s x:Operand)(t e:TypeId)(S:o.op=.call {callee:=.builtin .append,args:=#[s,x],argTypes:=#[t,t]})(inf:TypeInfo)(z:ay)(base size bytes:Nat)(ht:P.underlying t=some (.slice e))(hi:P.info? e=some inf)(hz:inf.zero=some z)(A:inf.size=size)(W:inf.bytes=bytes)(YN:z.cells.size=size)(M1:0<size){f:iO}(hs:a.eval s=v)(hx:a.eval x=.slice (some ⟨nb,0,none⟩) 1 1)(C:w.ownsRow base e size v n xs)(E:f.length=size)(E:∀j u,f[j]? =some u->w.cell? ⟨nb,j,none⟩=some u)(h1:∀u∈f,u.oneCell'=true)(Z:n+1<=maxLen)(r:(n+1)*bytes<=140737488355328)(M:base<=w.heap.size)(o8:nb<w.heap.size)(l:∀(y:Addr)(wr:Bool),some y.block=v.ownBlock->Ok y wr)(N:∀y:Addr,y.block=nb->Ok y false)(h:∀I w',w'.ownsRow base e size I (n+1) (xs++f)->w.grownBy w' v.ownBlock->(I.ownBlock=v.ownBlock\/I.ownBlock=some w.heap.size)->Y (G (b.at (a.put o.dst I) (.inRegion Q O::k)) U) w'):
 Y (G (b.at a (.inRegion Q (i::O)::k)) U) w:=by
 refine F.OA ho hw hk λd K hK=>?_;have B:(w.at d).ownsRow base e size v n xs:=C;have p:∀j u,f[j]? =some u->(w.at d).cell? ((⟨nb,0,none⟩:Addr).add j)=some u:=λj u a=>by rw[ey,bK];exact E j u a
 let⟨I,w',hr,Qx,q,_,hb⟩:=run_append_own_at (P:=P) (w:=w.at d) base t o.type e inf z size bytes ht hi hz A W YN M1 v n xs B ⟨nb,0,none⟩ 1 1 f ω p h1 Z r M;have R:∀g,v.ownBlock=some g->g<w.heap.size:=λg V=>by
  rcases C.2 with ⟨rfl,_⟩|⟨g',H,T,rfl,_,hh,_⟩
  .cases V
  .simp[Value.ownBlock]at V;grind
 refine uponK_append s x t S hs hx hr (hK _ w' ⟨⟨λev g=>?_,q.size,λc ob D a=>?_,λy NC L=>?_,λi b a=>q.block i b (λz=>a ⟨i,0,none⟩ rfl (l _ _ z)),q.os,q.tape,q.output⟩,h I w' Qx ⟨q.os,q.tape,q.output,q.size,q.block⟩ hb⟩)
 .have hm:=mem_listed g;rw[events_append_op s x t S hs hx]at hm;rcases events_append_where (P:=P) (w.at d) base t o.type e inf z size bytes ht hi hz A W v n xs B ⟨nb,0,none⟩ 1 1 f ω p h1 Z r ev hm with ⟨y,b,⟨a,d⟩|a⟩|⟨m,b,a⟩
  .exact .inl ⟨y,b,rfl,by rw[a];exact N y d,by rw[d];exact ga o8 q.size⟩
  .exact .inl ⟨y,b,rfl,l y _ a,ga (R _ a.symm) q.size⟩
  .exact .inr (by rw[b,show m=.noRoom from a];rfl)
 .have L:c<w.heap.size:=(cU.1 D).1;have J:some c≠v.ownBlock:=λz=>by
   rcases C.2 with ⟨rfl,_⟩|⟨g',H,T,rfl,_,hh,_⟩
   .cases z
   .simp[Value.ownBlock]at z;subst z;have:w.heap[c]? =some ob:=D;grind
  exact(q.block c L J).trans D
 .have J:some y.block≠v.ownBlock:=λz=>NC (l y true z);have:=q.block _ L J;exact⟨World.cell?_of_block this,World.frozen?_of_block this⟩
def dB(b:Bool)(x y:ay):Value:=match b with|true=>x|false=>y
def tick(b:qS)(i:Nat):Nat->Bool:=λj=>if j=i then true else b j
def all_cons{p:p8}{k:Nat}(h:p k)(a:∀i,k+1<=i->i<n->p i):∀i,k<=i->i<n->p i:=λi c b=>by
 rcases zR k i with z|z
 .exact a i z b
 .have:i=k:=Nat.le_antisymm z c;subst this;exact h
def all_nil{p:p8}:∀i,n<=i->i<n->p i:=λi b a=>absurd a (wT.2 b)
def Ab(Q:g8)(Dp:List (List Nat)):Bool:=
 (List.range Q.size).all λi=>match Q[i]? with
   |some o=>o.after.toList.all (λe=>!Region.binds .any e||decide (e.on<i))&&(Dp.getD i []).all (λj=>o.after.toList.any λe=>decide (e.on=j)&&Region.binds .any e)
   |none=>false
def aB.K7{P:aG}{id:Nat}{a:Act}{w:aj}(F:aB P X D Y)(C:P.follows .mixedOrders=true)(g:List (List Nat))(B:Q.size=n)(H:Ab Q g=true)(I:(Nat->Bool)->Act->World->Prop)(J:I (λ_=>false) a w)(c:∀i,0<=i->i<n->∀(b:qS)(a:Act)(w:aj),I b a w->(∀x,x<n->b x=true->∀j∈g.getD x [],b j=true)->b i=false->(∀j∈g.getD i [],b j=true)->∀O,((∀x,x<n->x≠i->b x=true)->O=[])->
 (∀u w',I (tick b i) u w'->Y (G (fr.at u (.inRegion Q O::k)) U) w')->Y (G (fr.at a (.inRegion Q (i::O)::k)) U) w)(r:∀b a w,I b a w->(∀i,i<n->b i=true)->Y (G (fr.at a (.inRegion Q []::k)) U) w):
 Y (G (fr.at a (.code (.region id Q true)::k)) U) w:=by
 subst B;have k:∀i o,Q[i]? =some o->(∀e∈o.after,Region.binds .any e=true->e.on<i)/\∀j∈g.getD i [],∃e∈o.after,e.on=j/\Region.binds .any e=true:=by
  intro i o b;have t:i<Q.size:=(cU.1 b).1;have:=eZ.1 H i (aZ.2 t);grind
 let m:Array Bool->Nat->Bool:=λl j=>l.getD j false;refine F.draw C (λl a w=>l.size=Q.size/\I (m l) a w/\∀x,x<Q.size->m l x=true->∀j∈g.getD x [],m l j=true) (λi o b=>(k i o b).1) (λl a w h=>h.1) ⟨ψ,?_,λx A h=>?_⟩ (λl a w i o f b e e O v E=>?_) (λl a w f e=>?_)
 .have:m (Array.replicate Q.size false)=λ_=>false:=by
   funext j;simp only[m,Array.getD];simp
  rw[this];exact J
 .have:m (Array.replicate Q.size false) x=false:=by
   simp only[m,Array.getD];simp
  grind
 .have t:i<Q.size:=(cU.1 b).1;have z:i<l.size:=ω
  have q:m (l.setIfInBounds i true)=tick (m l) i:=by
   funext j;simp only[m,tick,Array.getD,zb];by_cases d:j=i
   .subst d;simp[z]
   .by_cases b:j<l.size
    .simp[b,d,Array.getElem_setIfInBounds];omega
    grind
  have b:m l i=false:=by
   grind
  have s:∀j∈g.getD i [],m l j=true:=λj d=>by
   grind
  refine c i (gl _) t (m l) a w f.2.1 f.2.2 b s O (λh=>v λj d y=>by
   grind) λu w' b=>E u w' ⟨by simp[f.1],by rw[q];exact b,?_⟩
  rw[q];intro x A h j d;by_cases p:x=i
  .subst p;by_cases y:j=x
   .grind
   .have:=s j d;simp[tick,this]
  .have b:m l x=true:=by simpa [tick,p]using h
   have:=f.2.2 x A b j d;simp[tick,this]
 .refine r (m l) a w f.2.1 λi t=>?_;grind
def tG(a:Act)(l:List (Nat×Value)):Act:=⟨l.foldl (λt x=>t.setIfInBounds x.1 x.2) a.tmps,a.defers⟩
def pu:(∀(a:Act)(l:List (Nat×Value)),tG a l=⟨l.foldl (λt x=>t.setIfInBounds x.1 x.2) a.tmps,a.defers⟩)/\
 (∀(f:Array Value->Nat×Value->Array Value)(t:gd),[].foldl f t=t)/\(∀(f:Array Value->Nat×Value->Array Value)(t:gd)(x:Nat×Value)(l:List (Nat×Value)),(x::l).foldl f t=l.foldl f (f t x))/\
 (∀(b:qS)(i j:Nat),tick b i j=if j=i then true else b j)/\(∀n:Nat,0+n=n)/\(∀x y:Value,dB true x y=x)/\(∀x y:Value,dB false x y=y)/\
 (∀(l:iO)(i:Nat)(v:ay),l.toArray.setIfInBounds i v=(l.set i v).toArray)/\(∀(x:ay)(l:iO)(i:Nat)(v:ay),(x::l).set (i+1) v=x::l.set i v)/\(∀(x:ay)(l:iO)(v:ay),(x::l).set 0 v=v::l)/\
 ((0=1)=False)/\((1=0)=False):=
 ⟨λ_ _=>rfl,λ_ _=>rfl,λ_ _ _ _=>rfl,λ_ _ _=>rfl,bK,λ_ _=>rfl,λ_ _=>rfl,λ_ _ _=>ψ,λ_ _ _ _=>rfl,λ_ _ _=>rfl,ψ,ψ⟩
def aB.RB{P:aG}{id:Nat}{a:Act}{w:aj}(F:aB P X D Y)(t:P.follows .mixedOrders=true)(m:List (List Nat))(s:Q.size=n)(z:Ab Q m=true)(c:(Nat->Bool)->γ->List (Nat×Value))(J:(Nat->Bool)->γ->World->Prop)(r:γ)(C:tG a (c (λ_=>false) r)=a)(h:J (λ_=>false) r w)(d:∀i,0<=i->i<n->∀(b:qS)(g:γ)(w:aj),J b g w->(∀x,x<n->b x=true->∀j∈m.getD x [],b j=true)->b i=false->(∀j∈m.getD i [],b j=true)->∀O,((∀x,x<n->x≠i->b x=true)->O=[])->
 (∀l w',J (tick b i) l w'->Y (G (fr.at (tG a (c (tick b i) l)) (.inRegion Q O::k)) U) w')->Y (G (fr.at (tG a (c b g)) (.inRegion Q (i::O)::k)) U) w)(e:∀b g w,J b g w->(∀i,i<n->b i=true)->Y (G (fr.at (tG a (c b g)) (.inRegion Q []::k)) U) w):
 Y (G (fr.at a (.code (.region id Q true)::k)) U) w:=by
 refine F.K7 t m s z (λb j w=>∃g,j=tG a (c b g)/\J b g w) ⟨r,C.symm,h⟩ (λi B A b j w q p y v O o u=>?_) (λb j w q f=>?_)
 .obtain⟨g,rfl,h⟩:=q;exact d i B A b g w h p y v O o λl w' a=>u _ _ ⟨l,rfl,a⟩
 .obtain⟨g,rfl,h⟩:=q;exact e b g w h f
def aB.yw{P:aG}{id:Nat}{a:Act}{w:aj}(F:aB P X D Y)(m:P.follows .mixedOrders=true)(f:List (List Nat))(l:Q.size=n)(p:Ab Q f=true)(c:(Nat->Bool)->γ->List (Nat×Value))(J:(Nat->Bool)->γ->World->Prop)(h:γ)(q:tG a (c (λ_=>false) h)=a)(o:J (λ_=>false) h w)(d:∀i,0<=i->i<n->∀(b:qS)(g:γ)(w:aj),J b g w->(∀x j,(decide (x<n)&&(f.getD x []).contains j)=true->b x=true->b j=true)->b i=false->(∀j,(f.getD i []).contains j=true->b j=true)->∀O,((∀x,x<n->x≠i->b x=true)->O=[])->
 (∀e w',J (tick b i) e w'->Y (G (fr.at (tG a (c (tick b i) e)) (.inRegion Q O::k)) U) w')->Y (G (fr.at (tG a (c b g)) (.inRegion Q (i::O)::k)) U) w)(e:∀b g w,J b g w->(∀i,i<n->b i=true)->Y (G (fr.at (tG a (c b g)) (.inRegion Q []::k)) U) w):
 Y (G (fr.at a (.code (.region id Q true)::k)) U) w:=
 F.RB m f l p c J h q o (λi k h b g w f a c a=>d i k h b g w f (λx j b b=>by
  grind) c (λj b=>a j χ)) e
def dZ:prog.underlying 115=some (.slice 143):=ρ
def lO:∃inf z,prog.info? 143=some inf/\inf.zero=some z/\inf.size=2/\inf.bytes=16/\z.cells.size=2:=⟨_,_,rfl,rfl,rfl,rfl,rfl⟩
def mV(f:FuncId)(H:gd):Deferred:={target:=.fn (.func f) H,args:=#[]}
def DC(d:Deferred)(f:FuncId)(v:gd):Prop:=∃c,d.target=.fn (.func f) c/\d.args++c=v
def Hr{f:FuncId}:DC (mV f H) f H:=⟨H,rfl,by simp[mV]⟩
section
variable{P:aG}{a:Act}{w:aj}{o:Oper}
def vo(e:Q[i]? =some o)(g:Region.wanted o (yielded Q a.tmps)=true)(c:b.kind≠.early)(c:b.roundOf=none){r:Operand}(c:o.op=.defer {callee:=.value r,args:=#[],argTypes:=ats})(d:a.eval r=.func (.func f) #[] H):
 stepG P X (G (b.at a (.inRegion Q (i::O)::k)) U) w=.go (G (b.at (Act.put ⟨a.tmps,mV f H::a.defers⟩ o.dst undef) (.inRegion Q O::k)) U) w #[]:=by
 have j:(execOp a.eval o).run P w=.ok (.defer (mV f H)) w:=by
  unfold execOp;simp[c,resolve,Deferred.ofValue,d,mV]
 have h:(execOp a.eval o).events P w #[]=#[]:=by
  unfold execOp;simp[c,resolve,Deferred.ofValue,d]
 have c:(b.at ⟨a.tmps,mV f H::a.defers⟩ (.inRegion Q (i::O)::k)).finish undef=b.at (Act.put ⟨a.tmps,mV f H::a.defers⟩ o.dst undef) (.inRegion Q O::k):=by rw[bQ,e];rfl
 have a:(b.kind==CallKind.early)=false:=ξ
 rw[stepG_oper e g,<-c];simp[stepG.apply,j,h,G,Frame.at,a,GStep.after,seen_none]
def aB.GD(F:aB P X D Y)(j:Q[i]? =some o)(e:Region.wanted o (yielded Q a.tmps)=true)(l:b.kind≠.early)(c:b.roundOf=none){r:Operand}(d:o.op=.defer {callee:=.value r,args:=#[],argTypes:=ats})(g:a.eval r=.func (.func f) #[] H)(h:Y (G (b.at (Act.put ⟨a.tmps,mV f H::a.defers⟩ o.dst undef) (.inRegion Q O::k)) U) w):Y (G (b.at a (.inRegion Q (i::O)::k)) U) w:=
 F.ctl (λ_=>vo j e l c d g) h
def mM{c:Code}(l:a.defers=d::ds)(g:DC d f H)(h:P.funcs[f]? =some fn)(e:(fn.name== "runtime.NumGoroutine")=false)(i:fn.body=some c):
 stepG P X (G {b.at a Z with mode:=.returning} U) w=
  .go (G ((baseD f).at {tmps:=H++Array.replicate (fn.ntmps-H.size) undef,defers:=[]} [.code c]) ({b.at ⟨a.tmps,ds⟩ Z with mode:=.returning}::U)) w #[]:=by
 have m:¬fn.name= "runtime.NumGoroutine" :=ξ
 let⟨a,k,j⟩:=g;let⟨_,a⟩:=d;simp only at k j;subst k;rw[<-enter_atD H h i];simp[G,stepG,unwind,callDeferred,Frame.at,l,j,invoke,callFunc,h,m,i,GStep.after,seen_none]
def tj{c:Code}(g:a.defers=mV f H::ds)(e:P.funcs[f]? =some fn)(d:(fn.name== "runtime.NumGoroutine")=false)(h:fn.body=some c):
 stepG P X (G {b.at a Z with mode:=.returning} U) w=
  .go (G ((baseD f).at {tmps:=H++Array.replicate (fn.ntmps-H.size) undef,defers:=[]} [.code c]) ({b.at ⟨a.tmps,ds⟩ Z with mode:=.returning}::U)) w #[]:=mM g Hr e d h
def aB.HK(F:aB P X D Y){c:Code}(i:a.defers=d::ds)(e:DC d f H)(g:P.funcs[f]? =some fn)(d:(fn.name== "runtime.NumGoroutine")=false)(j:fn.body=some c)(h:Y (G ((baseD f).at {tmps:=H++Array.replicate (fn.ntmps-H.size) undef,defers:=[]} [.code c]) ({b.at ⟨a.tmps,ds⟩ Z with mode:=.returning}::U)) w):Y (G {b.at a Z with mode:=.returning} U) w:=
 F.ctl (λ_=>mM i e g d j) h
def Qh(e:Q[i]? =some o)(f:Region.wanted o (yielded Q a.tmps)=true)(g:b.kind=.deferred)(d:b.roundOf=none)(d:o.op=.call {callee:=.builtin .recover,args:=#[],argTypes:=ats})(j:c.mode=.returning):
 stepG P X (G (b.at a (.inRegion Q (i::O)::k)) (c::U)) w=.go (G (b.at (a.put o.dst .nilIface) (.inRegion Q O::k)) (c::U)) w #[]:=by
 have l:(execOp a.eval o).run P w=.ok .recover w:=by
  unfold execOp;simp[d,resolve,invoke,builtin]
 have h:(execOp a.eval o).events P w #[]=#[]:=by
  unfold execOp;simp[d,resolve,invoke,builtin]
 have c:(b.at a (.inRegion Q (i::O)::k)).finish .nilIface=b.at (a.put o.dst .nilIface) (.inRegion Q O::k):=by rw[bQ,e];rfl
 rw[stepG_oper e f,<-c];simp[stepG.apply,l,h,G,Frame.at,g,GStep.after,seen_none,tryRecover,j]
def aB.zC(F:aB P X D Y)(g:Q[i]? =some o)(f:Region.wanted o (yielded Q a.tmps)=true)(j:b.kind=.deferred)(d:b.roundOf=none)(e:o.op=.call {callee:=.builtin .recover,args:=#[],argTypes:=ats})(l:c.mode=.returning)(h:Y (G (b.at (a.put o.dst .nilIface) (.inRegion Q O::k)) (c::U)) w):Y (G (b.at a (.inRegion Q (i::O)::k)) (c::U)) w:=
 F.ctl (λ_=>Qh g f j d e l) h
def aB.leaveD(F:aB P X D Y)(e:b.kind=.deferred)(g:a.defers=[])(f:P.funcs[b.fn]? =some fn)(d:ResultsC P fn a.tmps v)(i:c.mode=.returning)(h:Y (G c U) w):Y (G {b.at a Z with mode:=.returning} (c::U)) w:=
 F.ctl (λw=>stepG_leave_deferred e g f (d w).1 (d w).2 i) h
end
abbrev je(v:ay):List PanicEntry:=[{v,recovered:=false}]
abbrev pG(v:ay):List PanicEntry:=[{v,recovered:=true}]
section
variable{P:aG}{a:Act}{w:aj}{o:Oper}
def xu(f:Q[i]? =some o)(e:Region.wanted o (yielded Q a.tmps)=true)(c:b.mode=.run){r:Operand}(c:o.op=.panic r)(d:a.eval r=.iface t x):
 stepG P X (G (b.at a (.inRegion Q (i::O)::k)) U) w=.go (G {b.at a (.inRegion Q (i::O)::k)with mode:=.panicking (je (.iface t x))} U) w #[]:=by
 have g:(execOp a.eval o).run P w=.halt (.panic (.iface t x)) w:=by
  unfold execOp;simp[c,d,Instr.panic,goPanic]
 have b:(execOp a.eval o).events P w #[]=#[]:=by
  unfold execOp;simp[c,d,Instr.panic,goPanic]
 rw[stepG_oper f e];simp[stepG.apply,g,b,G,Frame.at,Frame.raise,GStep.after,seen_none]
def aB.panic(F:aB P X D Y)(f:Q[i]? =some o)(d:Region.wanted o (yielded Q a.tmps)=true)(g:b.mode=.run){r:Operand}(c:o.op=.panic r)(e:a.eval r=.iface t x)(h:Y (G {b.at a (.inRegion Q (i::O)::k)with mode:=.panicking (je (.iface t x))} U) w):Y (G (b.at a (.inRegion Q (i::O)::k)) U) w:=
 F.ctl (λ_=>xu f d g c e) h
def rD{c:aC}{ch:List PanicEntry}(e:a.defers=[])(d:P.funcs[b.fn]? =some fn):stepG P X (G {b.at a Z with mode:=.panicking ch} (c::U)) w=.go (G (c.raise ch) U) w #[]:=by
 simp[G,stepG,unwind,Frame.at,e,Frame.catches,d]
def aB.lJ(F:aB P X D Y){ch:List PanicEntry}(e:a.defers=[])(d:P.funcs[b.fn]? =some fn)(h:Y (G (c.raise ch) U) w):Y (G {b.at a Z with mode:=.panicking ch} (c::U)) w:=
 F.ctl (λ_=>rD e d) h
def td{c:Code}{ch:List PanicEntry}(l:a.defers=d::ds)(g:DC d f H)(h:P.funcs[f]? =some fn)(e:(fn.name== "runtime.NumGoroutine")=false)(i:fn.body=some c):
 stepG P X (G {b.at a Z with mode:=.panicking ch} U) w=
  .go (G ((baseD f).at {tmps:=H++Array.replicate (fn.ntmps-H.size) undef,defers:=[]} [.code c]) ({b.at ⟨a.tmps,ds⟩ Z with mode:=.panicking ch}::U)) w #[]:=by
 have m:¬fn.name= "runtime.NumGoroutine" :=ξ
 let⟨a,k,j⟩:=g;let⟨_,a⟩:=d;simp only at k j;subst k;rw[<-enter_atD H h i];simp[G,stepG,unwind,callDeferred,Frame.at,l,j,invoke,callFunc,h,m,i,GStep.after,seen_none]
def aB.Zy(F:aB P X D Y){c:Code}{ch:List PanicEntry}(i:a.defers=d::ds)(e:DC d f H)(g:P.funcs[f]? =some fn)(d:(fn.name== "runtime.NumGoroutine")=false)(j:fn.body=some c)(h:Y (G ((baseD f).at {tmps:=H++Array.replicate (fn.ntmps-H.size) undef,defers:=[]} [.code c]) ({b.at ⟨a.tmps,ds⟩ Z with mode:=.panicking ch}::U)) w):Y (G {b.at a Z with mode:=.panicking ch} U) w:=
 F.ctl (λ_=>td i e g d j) h
def DI(e:Q[i]? =some o)(f:Region.wanted o (yielded Q a.tmps)=true)(g:b.kind=.deferred)(d:b.roundOf=none)(d:o.op=.call {callee:=.builtin .recover,args:=#[],argTypes:=ats})(j:c.mode=.panicking (je v)):
 stepG P X (G (b.at a (.inRegion Q (i::O)::k)) (c::U)) w=.go (G (b.at (a.put o.dst v) (.inRegion Q O::k)) ({c with mode:=.panicking (pG v)}::U)) w #[]:=by
 have l:(execOp a.eval o).run P w=.ok .recover w:=by
  unfold execOp;simp[d,resolve,invoke,builtin]
 have h:(execOp a.eval o).events P w #[]=#[]:=by
  unfold execOp;simp[d,resolve,invoke,builtin]
 have c:(b.at a (.inRegion Q (i::O)::k)).finish v=b.at (a.put o.dst v) (.inRegion Q O::k):=by rw[bQ,e];rfl
 rw[stepG_oper e f,<-c];simp[stepG.apply,l,h,G,Frame.at,g,GStep.after,seen_none,tryRecover,j]
def aB.recover(F:aB P X D Y)(g:Q[i]? =some o)(f:Region.wanted o (yielded Q a.tmps)=true)(j:b.kind=.deferred)(d:b.roundOf=none)(e:o.op=.call {callee:=.builtin .recover,args:=#[],argTypes:=ats})(l:c.mode=.panicking (je v))(h:Y (G (b.at (a.put o.dst v) (.inRegion Q O::k)) ({c with mode:=.panicking (pG v)}::U)) w):Y (G (b.at a (.inRegion Q (i::O)::k)) (c::U)) w:=
 F.ctl (λ_=>DI g f j d e l) h
def vn(e:b.kind=.deferred)(h:a.defers=[])(f:P.funcs[b.fn]? =some fn)(d:∀w,(results fn a.tmps).run P w=.ok r w)(g:∀w,(results fn a.tmps).events P w #[]=#[])(i:c.mode=.panicking (pG v)):
 stepG P X (G {b.at a Z with mode:=.returning} (c::U)) w=.go (G {c with mode:=.returning} U) w #[]:=by
 simp[G,stepG,unwind,doReturn,Frame.at,h,f,d w,g w,e,i,GStep.after,seen_none]
def aB.MQ(F:aB P X D Y)(e:b.kind=.deferred)(g:a.defers=[])(f:P.funcs[b.fn]? =some fn)(d:ResultsC P fn a.tmps r)(i:c.mode=.panicking (pG v))(h:Y (G {c with mode:=.returning} U) w):Y (G {b.at a Z with mode:=.returning} (c::U)) w:=
 F.ctl (λ_=>vn e g f (λw=>(d w).1) (λw=>(d w).2) i) h
end
def flat:List (Int×Value)->List Value
 |[]=>[]
 |e::es=>.int .i64 e.1::e.2::flat es
def ia:∀es:List (Int×Value),(flat es).length=2*es.length
 |[]=>rfl
 |e::es=>by simp[flat,ia es];omega
def lS:∀a b:List (Int×Value),flat (a++b)=flat a++flat b
 |[],_=>rfl
 |e::es,b=>by simp[flat,lS es b]
def yd:∀es:List (Int×Value),(∀e∈es,e.2.oneCell'=true)->∀u∈flat es,u.oneCell'=true
 |[],_,u,a=>by cases a
 |e::es,h,u,a=>by
  simp only[flat,ak]at a;rcases a with rfl|rfl|a
  .rfl
  .simp_all
  .exact yd es (λx b=>h x (aP _ b)) u a
def uJ:∀(es:jl)(i:Nat),flat (es.take i)=(flat es).take (2*i)
 |[],i=>by simp[flat]
 |e::es,0=>by simp[flat]
 |e::es,i+1=>by rw[show 2*(i+1)=2*i+1+1 by omega];simp[flat,uJ es i]
def uK:∀(es:jl)(i:Nat),flat (es.drop i)=(flat es).drop (2*i)
 |[],i=>by simp[flat]
 |e::es,0=>by simp[flat]
 |e::es,i+1=>by rw[show 2*(i+1)=2*i+1+1 by omega];simp[flat,uK es i]
def fZ(N:Nat)(w:aj)(v:ay)(es:jl):Prop:=
 (∀e∈es,e.2.oneCell'=true)/\((v=.slice none 0 0/\es=[])\/
   ∃E off H T,v=.slice (some ⟨E,off,none⟩) es.length H/\es.length<=H/\N<=E/\w.heap[E]? =some (.cells T 143 (0,0))/\off+2*H<=T.size/\∀(j:Nat)(u:ay),(flat es)[j]? =some u->T[off+j]? =some u)
def fZ.lt{w:aj}{es:jl}(h:fZ N w v es)(a:v.ownBlock=some g):N<=g/\∃T,w.heap[g]? =some (.cells T 143 (0,0)):=by
 rcases h.2 with ⟨rfl,_⟩|⟨E,off,H,T,rfl,_,b,b,_⟩
 .cases a
 .simp[Value.ownBlock]at a;simp_all
def fZ.form{w:aj}{es:jl}(h:fZ N w v es):∃base H,v=.slice base es.length H/\es.length<=H/\(base=none->H=0)/\∀b,base=some b->b.spot=none:=by
 rcases h.2 with ⟨rfl,rfl⟩|⟨E,off,H,T,rfl,a,_⟩
 .grind
 grind
def Kp.bA{w:aj}{es:jl}(h:Kp L w w' C)(r:fZ N w v es)(b:∀g∈cw v,g∉L/\∀x∈C,x.block≠g):fZ N w' v es:=by
 refine⟨r.1,r.2.imp id fun⟨E,off,H,T,a,f,e,d,c⟩=>⟨E,off,H,T,a,f,e,?_,c⟩⟩;have:=b E (bS.2 (by rw[a];rfl));exact h.blk E _ _ _ this.1 this.2 d
def eE(T:gd)(p:Nat)(vs:iO)(a:p+vs.length<=T.size)(k:Nat):(T.toList.take p++vs++T.toList.drop (p+vs.length)).toArray[k]? =if k<p then T[k]? else if k<p+vs.length then vs[k-p]? else T[k]? :=by
 have a:(T.toList.take p).length=p:=θ
 grind
def pO(T:gd)(p:Nat)(vs:iO)(a:p+vs.length<=T.size):(T.toList.take p++vs++T.toList.drop (p+vs.length)).toArray.size=T.size:=by
 grind
def oz{w:aj}{k:Nat}{fr:Nat×Nat}(h:w.heap[E]? =some (.cells T t fr)):w.cell? ⟨E,k,none⟩=T[k]? :=by simp[World.cell?,h]
def LY(w:aj)(i:TypeId){o dl:Nat}{b:Addr}{U:iO}(q:w.heap[E]? =some (.cells T 143 (0,0)))(s:n=Nat.min sl dl)(k:U.length=2*n)(k:o+U.length<=T.size)(k:∀j u,U[j]? =some u->w.cell? (b.add j)=some u)(r:∀u∈U,u.oneCell'=true):
 (Builtin.copy_ #[115,115] i #[.slice (some ⟨E,o,none⟩) dl dc,.slice (some b) sl sc]).run prog w=.ok (goInt n) (w.setRow E (T.toList.take o++U++T.toList.drop (o+U.length)).toArray)/\
   ∀ev∈(Builtin.copy_ #[115,115] i #[.slice (some ⟨E,o,none⟩) dl dc,.slice (some b) sl sc]).events prog w #[],∃g,ev.loc=.cell g/\((ev.write=false/\g.block=b.block)\/g.block=E):=by
 let⟨inf,z,m,_,_,_,i⟩:=lO;have i:U.length=n*inf.size:=χ
 have p:=run_firstCells_some (P:=prog) w inf.size n b sl sc U i k;have d:=run_storeCells_at (P:=prog) E o 143 U 0 T w q ω r;simp only[jI]at d;subst s;constructor
 .simp[Builtin.copy_,run_underlying dZ,sizeOf,typeInfo,m,Builtin.lenOf,p,d]
 .intro ev f;simp[Builtin.copy_,run_underlying dZ,sizeOf,typeInfo,m,Builtin.lenOf,p]at f;rcases events_storeCells_at (P:=prog) E o 143 U 0 T w _ q ω r ev f with h|⟨g,i,i⟩
  .rcases events_firstCells_in (P:=prog) (·=b.block) inf.size (Nat.min sl dl) _ w _ (λa l c e=>by
    simp_all) ev h with h|⟨g,a1,a2,a3⟩
   .simp at h
   simp_all
  simp_all
def qC(x:Nat)(w':aj):∀ev∈(askRoom x).events prog w' #[],ev=noRoomEvent:=λev a=>by
 rcases Conc.events_askRoom _ _ _ ev a with h|⟨m,h,a⟩
 .simp at h
 .rw[h,show m=.noRoom from a];rfl
def oA{w:aj}(h:w.heap[E]? =some (.cells T 143 (0,0)))(a:∀(j:Nat)(u:ay),xs[j]? =some u->T[off+j]? =some u):∀j u,xs[j]? =some u->w.cell? ((⟨E,off,none⟩:Addr).add j)=some u:=λj u a=>by
 rw[ey,oz h];simp_all
def xB(w:aj)(y:TypeId)(R:N<=w.heap.size){f:ay}{t:Int}{es:jl}(K:es.length<2000000)(s:fZ N w v es)(K:w.cell? ⟨nb,0,none⟩=some (.int .i64 t))(K:w.cell? ⟨nb,1,none⟩=some f)(U:f.oneCell'=true):
 ∃I w',(Builtin.append_ #[115,115] y #[v,.slice (some ⟨nb,0,none⟩) 1 1]).run prog w=.ok I w'/\fZ N w' I (es++[(t,f)])/\w.grownBy w' v.ownBlock/\(I.ownBlock=v.ownBlock\/I.ownBlock=some w.heap.size)/\
  ∀ev∈(Builtin.append_ #[115,115] y #[v,.slice (some ⟨nb,0,none⟩) 1 1]).events prog w #[],(∃d,ev.loc=.cell d/\((ev.write=false/\d.block=nb)\/some d.block=v.ownBlock))\/ev=noRoomEvent:=by
 have o:∀e∈es++[(t,f)],e.2.oneCell'=true:=λe K=>by
  rcases dJ.1 K with h|h
  .exact s.1 e h
  simp_all
 let⟨inf,z,x,L,A,D,Q⟩:=lO;have m:∀j u,[.int .i64 t,f][j]? =some u->w.cell? ((⟨nb,0,none⟩:Addr).add j)=some u:=by
  intro j u i;rw[ey,bK];grind
 have M:([.int .i64 t,f]:iO).length=1*inf.size:=by rw[A];rfl
 have q:∀u∈([.int .i64 t,f]:iO),u.oneCell'=true:=by intro u i;simp at i;rcases i with rfl|rfl;rfl;exact U
 have src:∀(w':aj),(∀d,w'.cell? d=w.cell? d)->∀es,∀ev∈(Builtin.firstCells inf.size 1 (.slice (some ⟨nb,0,none⟩) 1 1)).events prog w' es,ev∈es\/ev.readsIn (·=nb):=by
  intro w' K es;refine events_firstCells_in (P:=prog) (·=nb) inf.size 1 _ w' es λa l c e=>?_;grind
 have fin:∀ev:Event,ev.readsIn (·=nb)->(∃d,ev.loc=.cell d/\((ev.write=false/\d.block=nb)\/some d.block=v.ownBlock))\/ev=noRoomEvent:=λev ⟨d,a1,a2,a3⟩=>.inl ⟨d,a1,.inl ⟨a2,a3⟩⟩;have J:=run_firstCells_some (P:=prog) w.drew inf.size 1 ⟨nb,0,none⟩ 1 1 [.int .i64 t,f] M ξ;have r:=run_firstCells_some (P:=prog) w inf.size 1 ⟨nb,0,none⟩ 1 1 [.int .i64 t,f] M ω;rcases s.2 with ⟨rfl,rfl⟩|⟨E,off,H,T,rfl,s,V,g,s,n⟩
 .have C:=run_append_nil (P:=prog) w 115 y 143 inf z dZ x L ⟨nb,0,none⟩ 1 1 [.int .i64 t,f] M m ω ω ω;have G:=grownCap_ge w 1 0 143;refine⟨_,_,C,⟨o,.inr ⟨w.heap.size,0,grownCap w 1 0 143,_,rfl,G,R,ny (w:=w.drew) rfl rfl,?_,λj u i=>?_⟩⟩,⟨rfl,rfl,rfl,ψ,λk F _=>Below.heap_alloc w.drew _ k F⟩,.inr rfl,λev b=>?_⟩
  .simp only[yY,wO,gB,iT,size_zeroCells,Q];omega
  .have s:([.int .i64 t,f]:iO)[j]? =some u:=i;grind
  .have p:¬(281474976710656<Builtin.nextslicecap 1 0*inf.bytes):=by rw[nextslicecap_zero ω,D];omega
   simp[Builtin.append_,run_underlying dZ,sizeOf,typeInfo,zeroValue,x,L,Builtin.lenOf,p,Question.forced,run_firstCells_none,J,newRow]at b;rcases src w.drew (λ_=>rfl) _ ev b with h|h
   .exact .inr (qC _ _ ev (by simpa [Builtin.firstCells]using h))
   simp_all
 have D:(flat es).length=es.length*inf.size:=by rw[A,ia];omega
 have holds:=oA (w:=w) g n;have v:flat (es++[(t,f)])=flat es++[.int .i64 t,f]:=lS _ _;by_cases K:es.length<H
 .have O:=run_storeCells_at (P:=prog) E (off+es.length*2) 143 [.int .i64 t,f] 0 T w g θ q;have C:(Builtin.append_ #[115,115] y #[.slice (some ⟨E,off,none⟩) es.length H,.slice (some ⟨nb,0,none⟩) 1 1]).run prog w=.ok (.slice (some ⟨E,off,none⟩) (es.length+1) H) (w.setRow E (T.toList.take (off+es.length*2)++[.int .i64 t,f]++T.toList.drop (off+es.length*2+2)).toArray):=by
   simp only[jI,gB,iT]at O;have n:es.length+1<=H:=K;simp[Builtin.append_,run_underlying dZ,sizeOf,typeInfo,x,A,Builtin.lenOf,ey,n];simp_all
  have s:([.int .i64 t,f]:iO).length=2:=rfl;have N:off+es.length*2+([.int .i64 t,f]:iO).length<=T.size:=ω
  refine⟨_,_,C,⟨o,.inr ⟨E,off,H,_,ψ,θ,V,setRow_heap w E T _ 143 _ g,χ,λj u i=>?_⟩⟩,⟨rfl,rfl,rfl,ψ,λk _ F=>setRow_other w E k _ (λe=>F (by simp[Value.ownBlock,e]))⟩,.inl rfl,λev b=>?_⟩
  .have B:=eE T _ _ N (off+j);rw[s]at B;rw[B];rw[v]at i;by_cases S:j<(flat es).length
   .grind
   .rw[vf ω]at i;have P:j-(flat es).length<2:=by
     grind
    rw[ia]at S P i;rw[af ω,sJ ω,show off+j-(off+es.length*2)=j-2*es.length by omega];exact i
  .have n:es.length+1<=H:=K;rw[A]at r;simp[Builtin.append_,run_underlying dZ,sizeOf,typeInfo,x,A,Builtin.lenOf,r,ey,n]at b;rcases events_storeCells_at (P:=prog) E (off+es.length*2) 143 [.int .i64 t,f] 0 T w _ g θ q ev b with h|⟨d,q,g⟩
   .grind
   .exact .inl ⟨d,q,.inr (by simp[Value.ownBlock,g])⟩
 .have g:H=es.length:=ω
  have C:=run_append_grow (P:=prog) w 115 y 143 inf z dZ x L ⟨E,off,none⟩ es.length H (flat es) D holds ⟨nb,0,none⟩ 1 1 [.int .i64 t,f] M m ω ω (growslice_fits ω χ);have G:=grownCap_ge w (es.length+1) H 143;refine⟨_,_,C,⟨o,.inr ⟨w.heap.size,0,grownCap w (es.length+1) H 143,_,ψ,ξ,R,ny (w:=w.drew) rfl rfl,?_,λj u i=>?_⟩⟩,⟨rfl,rfl,rfl,ψ,λk F _=>Below.heap_alloc w.drew _ k F⟩,.inr rfl,λev b=>?_⟩
  .simp only[yY,wO,gB,iT,size_zeroCells,Q,ia];omega
  .grind
  .have p:¬(281474976710656<Builtin.nextslicecap (es.length+1) H*inf.bytes):=by
    have:=growslice_fits (need:=es.length+1) (old:=H) (bytes:=inf.bytes) ω χ;omega
   have f:=run_firstCells_some (P:=prog) w.drew inf.size es.length ⟨E,off,none⟩ es.length H (flat es) D holds;have n:¬(es.length+1<=H):=ω
   have g:¬((9223372036854775807:Int)<(es.length:Int)+1):=ω
   simp[Builtin.append_,run_underlying dZ,sizeOf,typeInfo,zeroValue,x,L,Builtin.lenOf,p,Question.forced,f,J,newRow,n,g]at b;rcases src w.drew (λ_=>rfl) _ ev b with h|h
   .rcases events_firstCells_in (P:=prog) (·=E) inf.size es.length _ w.drew _ (λa l c e=>by
     cases e;simp_all) ev h with h|⟨d,a1,a2,a3⟩
    .exact .inr (qC _ _ ev h)
    .exact .inl ⟨d,a1,.inr (by simp[Value.ownBlock,a3])⟩
   simp_all
def Pb:prog.underlying 3=some (.int .i64):=ρ
def xA(w:aj)(g:TypeId){H:Nat}(r:w.heap[E]? =some (.cells T 143 (0,0)))(b:xs.length=2*i)(d:∀(j:Nat)(u:ay),xs[j]? =some u->T[off+j]? =some u)(j:0<n)(q:H<i+n)(b:i+n<2000000):
 ∃b O,(Builtin.append_ #[115,3] g #[.slice (some ⟨E,off,none⟩) i H,.int .i64 n]).run prog w=.ok (.slice (some ⟨w.heap.size,0,none⟩) (i+n) b) (w.drew.alloc (.cells (xs.toArray++O) 143))/\i+n<=b/\O.size=2*(b-i)/\
  ∀ev∈(Builtin.append_ #[115,3] g #[.slice (some ⟨E,off,none⟩) i H,.int .i64 n]).events prog w #[],(∃m,ev.loc=.cell m/\ev.write=false/\m.block=E)\/ev=noRoomEvent:=by
 let⟨inf,z,p,o,_,b,k⟩:=lO;have b:xs.length=i*inf.size:=χ
 have holds:=oA (w:=w.drew) r d;have d:=run_firstCells_some (P:=prog) w.drew inf.size i ⟨E,off,none⟩ i H xs b holds;have b:=growslice_fits (need:=i+n) (old:=H) (bytes:=inf.bytes) ω χ;have r:=Lib.run_append_grow_zeros w 115 3 g 143 inf z .i64 .i64 dZ Pb p o (some ⟨E,off,none⟩) i H xs d n j ω q ω χ b;have b:=grownCap_ge w (i+n) H 143;refine⟨grownCap w (i+n) H 143,Builtin.zeroCells z.cells n++Builtin.zeroCells z.cells (grownCap w (i+n) H 143-(i+n)),ξ,b,by simp only[yY,size_zeroCells,k];omega,λev f=>?_⟩;have q:IntKind.i64.wrap (n:Int)=n:=by rw[IntKind.wrap_i64];omega
 have s:¬(i+n<=H):=ω
 have g:¬(9223372036854775807<((i:Int)+(n:Int))):=ω
 have k:¬(281474976710656<Builtin.nextslicecap (i+n) H*inf.bytes):=ω
 have j:¬(281474976710656<(n:Int)*(inf.bytes:Int)):=χ
 have b:¬((n:Int)<0):=ω
 have r:¬(n*inf.size=0):=χ
 simp[Builtin.append_,run_underlying dZ,run_underlying Pb,sizeOf,typeInfo,zeroValue,p,o,asInt,asIntOf,q,s,b,g,k,j,Question.forced,d,newRow]at f;rcases events_firstCells_in (P:=prog) (·=E) inf.size i _ w.drew _ (λa l c e=>by
  grind) ev f with h|⟨m,a1,a2,a3⟩
 .exact .inr (qC _ _ ev h)
 simp_all
def WG{w:aj}{es:dS}{g:oQ}(a:∀e∈es,G4 Ok w' e)(d:w.grownBy w' g)(e:∀b,g=some b->∃T t f,w.heap[b]? =some (.cells T t f))(b:∀(f:Addr)(wr:Bool),some f.block=g->Ok f wr):DX Ok w w' es:=by
 refine⟨a,d.size,λc a e a=>?_,λf j h=>?_,λk i a=>d.block k i (λz=>a ⟨k,0,none⟩ rfl (b _ _ z)),d.os,d.tape,d.output⟩
 .have a:some c≠g:=λz=>by
   grind
  exact(d.block c (cU.1 e).1 a).trans e
 .have a:some f.block≠g:=λz=>j (b _ _ z);have:=d.block _ h a;exact⟨World.cell?_of_block this,World.frozen?_of_block this⟩
section
variable{a:Act}{w:aj}{o:Oper}
def aB.BQ(F:aB prog X (DX Ok) Y)(z:Q[i]? =some o)(u:Region.wanted o (yielded Q a.tmps)=true)(A:b.kind≠.early)(s x:Operand)(l:o.op=.call {callee:=.builtin .append,args:=#[s,x],argTypes:=#[115,115]}){f:ay}{t:Int}{es:jl}(y:es.length<2000000)(C:N<=w.heap.size)(p:a.eval s=v)(n:a.eval x=.slice (some ⟨nb,0,none⟩) 1 1)(m:fZ N w v es)(r:w.cell? ⟨nb,0,none⟩=some (.int .i64 t))(D:w.cell? ⟨nb,1,none⟩=some f)(B:f.oneCell'=true)(c:∀(e:Addr)(wr:Bool),some e.block=v.ownBlock->Ok e wr)(j:∀e:Addr,e.block=nb->Ok e false)(h:∀I w',fZ N w' I (es++[(t,f)])->w.grownBy w' v.ownBlock->(I.ownBlock=v.ownBlock\/I.ownBlock=some w.heap.size)->Y (G (b.at (a.put o.dst I) (.inRegion Q O::k)) U) w'):
 Y (G (b.at a (.inRegion Q (i::O)::k)) U) w:=by
 refine F.OA z u A λd K k=>?_;let⟨I,w',f,b,a,t,i⟩:=xB (w.at d) o.type (N:=N) C (v:=v) y m r D B;refine uponK_append s x 115 l p n f (k _ w' ⟨WG (λev k=>?_) a (λg d=>by let⟨_,T,f⟩:=fZ.lt m d;exact⟨T,_,_,f⟩) c,h I w' b ⟨a.os,a.tape,a.output,a.size,a.block⟩ t⟩);have q:=mem_listed k;rw[events_append_op s x 115 l p n]at q;rcases i ev q with ⟨e,d,⟨b,g⟩|b⟩|d
 .exact .inl ⟨e,d,rfl,by rw[b];exact j e g,by rw[g];exact ga (au (w:=w) r) a.size⟩
 .let⟨g,T,f⟩:=fZ.lt m b.symm;exact .inl ⟨e,d,rfl,c _ _ b,ga (cU.1 f).1 a.size⟩
 .exact .inr d
def aB.MC(F:aB prog X (DX Ok) Y)(N:Q[i]? =some o)(L:Region.wanted o (yielded Q a.tmps)=true)(y:b.kind≠.early)(s x:Operand)(l:o.op=.call {callee:=.builtin .append,args:=#[s,x],argTypes:=#[115,3]}){H p:Nat}(D:a.eval s=.slice (some ⟨E,off,none⟩) p H)(C:a.eval x=.int .i64 n)(J:w.heap[E]? =some (.cells T 143 (0,0)))(v:xs.length=2*p)(s:∀(j:Nat)(u:ay),xs[j]? =some u->T[off+j]? =some u)(j:0<n)(P:H<p+n)(x:p+n<2000000)(r:∀e:Addr,e.block=E->Ok e false)(h:∀q c u,p+n<=q->c.size=2*(q-p)->w.alloc (.cells (xs.toArray++c) 143)=u->Y (G (b.at (a.put o.dst (.slice (some ⟨w.heap.size,0,none⟩) (p+n) q)) (.inRegion Q O::k)) U) u):
 Y (G (b.at a (.inRegion Q (i::O)::k)) U) w:=by
 refine F.OA N L y λd K i=>?_;let⟨q,c,b,R,t,B⟩:=xA (w.at d) o.type (n:=n) J v s j P x;have m:(w.at d).grownBy ((w.at d).drew.alloc (.cells (xs.toArray++c) 143)) none:=⟨rfl,rfl,rfl,ψ,λk y _=>Below.heap_alloc (w.at d).drew _ k y⟩
 have f:uponK o a K ((execOp a.eval o).run prog (w.at d)):=by
  unfold execOp;simp only[l,resolve,invoke,builtin,Am,JX,Hv,YX,nP,uf,D,C,b];refine i _ _ ⟨WG (g:=none) (λev M=>?_) m (λg A=>by cases A) (λe wr z=>by cases z),?_⟩
  .have I:=mem_listed M;have b:(execOp a.eval o).events prog (w.at d) #[]=(Builtin.append_ #[115,3] o.type #[.slice (some ⟨E,off,none⟩) p H,.int .i64 n]).events prog (w.at d) #[]:=by
    unfold execOp;simp only[l,resolve,invoke,builtin,YV,JX,Sem.events_pure,xg,YX,nP,uf,D,C];simp_all
   rw[b]at I;rcases B ev I with ⟨e,a,g,b⟩|a
   .exact .inl ⟨e,a,rfl,by rw[g];exact r e b,by rw[b];exact ga (cU.1 J).1 m.size⟩
   .exact .inr a
  .exact F.at' _ (w.alloc (.cells (xs.toArray++c) 143)) (d+1) (h q c _ R t rfl)
 exact f
def aB.BH(F:aB prog X (DX Ok) Y)(L:Q[i]? =some o)(I:Region.wanted o (yielded Q a.tmps)=true)(t:b.kind≠.early)(s x:Operand)(m:o.op=.call {callee:=.builtin .copy,args:=#[s,x],argTypes:=#[115,115]}){p dl:Nat}{bb:Addr}(D:a.eval s=.slice (some ⟨E,p,none⟩) dl dc)(C:a.eval x=.slice (some bb) sl sc)(B:w.heap[E]? =some (.cells T 143 (0,0)))(x:n=Nat.min sl dl)(M:vs.length=2*n)(q:p+vs.length<=T.size)(s:∀j u,vs[j]? =some u->w.cell? (bb.add j)=some u)(N:∀u∈vs,u.oneCell'=true)(l:∀(c:Addr)(wr:Bool),c.block=E->Ok c wr)(r:∀c:Addr,c.block=bb.block->Ok c false)(A:bb.block<w.heap.size)(h:∀j,w.setRow E (T.toList.take p++vs++T.toList.drop (p+vs.length)).toArray=j->Y (G (b.at (a.put o.dst (.int .i64 n)) (.inRegion Q O::k)) U) j):
 Y (G (b.at a (.inRegion Q (i::O)::k)) U) w:=by
 refine F.op L I t λd K i=>?_;let⟨b,y⟩:=LY (w.at d) o.type (dc:=dc) (sc:=sc) B x M q s N;have f:(w.at d).grownBy ((w.at d).setRow E (T.toList.take p++vs++T.toList.drop (p+vs.length)).toArray) (some E):=⟨rfl,rfl,rfl,ψ,λk _ t=>setRow_other _ E k _ (λe=>t (by rw[e]))⟩;unfold execOp;simp only[m,resolve,invoke,builtin,Am,JX,Hv,YX,nP,uf,D,C,b];refine i _ (w.setRow E (T.toList.take p++vs++T.toList.drop (p+vs.length)).toArray) ⟨WG (g:=some E) (λev J=>?_) f (λg v=>by cases v;exact⟨_,_,_,B⟩) (λc wr z=>l c wr (Option.some.inj z)),h _ rfl⟩;have H:=mem_listed J;have b:(execOp a.eval o).events prog (w.at d) #[]=(Builtin.copy_ #[115,115] o.type #[.slice (some ⟨E,p,none⟩) dl dc,.slice (some bb) sl sc]).events prog (w.at d) #[]:=by
  unfold execOp;simp only[m,resolve,invoke,builtin,YV,JX,Sem.events_pure,xg,YX,nP,uf,D,C];simp_all
 rw[b]at H;obtain⟨c,d,⟨a,b⟩|a⟩:=y ev H
 .exact .inl ⟨c,d,rfl,by rw[a];exact r c b,by rw[b];exact ga A f.size⟩
 .exact .inl ⟨c,d,rfl,l _ _ a,by rw[a];exact ga (cU.1 B).1 f.size⟩
def sE(v:Q[i]? =some o)(t:Region.wanted o (yielded Q a.tmps)=true)(y:b.kind≠.early)(s x:Operand)(l:o.op=.call {callee:=.value (.func 85),args:=#[s,x],argTypes:=ats}){p:Nat}{h d:gd}{j g:TypeId}(u:a.eval s=.slice (some ⟨nb,0,none⟩) la ca)(r:a.eval x=.slice (some ⟨E,p,none⟩) lb cb)(q:w.heap[nb]? =some (.cells h j (0,0)))(n:w.heap[E]? =some (.cells d g (0,0)))(f:nb≠E)(A:d.size≠0):
 stepG prog X (G (b.at a (.inRegion Q (i::O)::k)) U) w=.go (G (b.at (a.put o.dst (.bool false)) (.inRegion Q O::k)) U) w #[]:=by
 have i:∀w,(Go.sizeOf 143).run prog w=.ok 2 w:=λw=>by
  rfl
 have b:∀(k:Nat),w.frozen? ⟨nb,k,none⟩=false:=λk=>by simp[World.frozen?,q]
 have e:w.shape? nb=some (j,h.size):=by simp[World.shape?,q]
 have c:w.shape? E=some (g,d.size):=by simp[World.shape?,n]
 have o:=Lib.run_overlaps_apart (P:=prog) w 115 4 143 dZ 2 i ⟨nb,0,none⟩ ⟨E,p,none⟩ la ca lb cb f j g h.size d.size e c A (b 0) (b _);refine stepG_entry (e:=Extern.SlicesOverlaps.overlaps #[115,115] #[4]) v t y l func85 ρ ρ ρ ρ (v:=.bool false) (w':=w) (evs:=#[]) ξ ?_ ψ;rw[show(#[s,x]:Array Operand).map a.eval=#[a.eval s,a.eval x]from by simp,u,r];have a:(nb !=E)=true:=ξ
 have g:(nb==E)=false:=ξ
 obtain⟨m,a⟩:∃m,d.size=m+1:=⟨d.size-1,ω⟩;rw[a]at c;have i:=b 0;have d:=b h.size;let⟨inf,z,j,_,h,_,a⟩:=lO;unfold Extern.SlicesOverlaps.overlaps;delta Extern.SlicesOverlaps.overlaps.match_4;dsimp -zeta only[Array.casesOn,Array.size,List.length,Array.getLit];have a:¬nb=E:=f;have b:∀(k:Nat),w.frozen? ⟨E,k,none⟩=false:=λk=>by simp[World.frozen?,n]
 simp[run_underlying dZ,sizeOf,typeInfo,j,h,g,a,noView,viewAt,mayBeOne,stringish,e,c,i,d,b,Result.evThen]
def aB.apart(F:aB prog X (DX Ok) Y)(m:Q[i]? =some o)(j:Region.wanted o (yielded Q a.tmps)=true)(n:b.kind≠.early)(s x:Operand)(c:o.op=.call {callee:=.value (.func 85),args:=#[s,x],argTypes:=ats}){p:Nat}{t f:gd}{r e:TypeId}(l:a.eval s=.slice (some ⟨nb,0,none⟩) la ca)(g:a.eval x=.slice (some ⟨E,p,none⟩) lb cb)(q:w.heap[nb]? =some (.cells t r (0,0)))(p:w.heap[E]? =some (.cells f e (0,0)))(e:nb≠E)(r:f.size≠0)(h:Y (G (b.at (a.put o.dst (.bool false)) (.inRegion Q O::k)) U) w):Y (G (b.at a (.inRegion Q (i::O)::k)) U) w:=by
 refine F.step _ _ rfl λd=>⟨_,w.at d,#[],sE m j n s x c l g q p e r,F.idle _ _,F.at' _ _ _ h,λz v _ _=>?_⟩
 have a:(Yq z v E f).size=f.size:=by unfold Yq;grind
 exact sE m j n s x c l g (vF (w:=w.at d) z v q) (vF (w:=w.at d) z v p) e ω
end
def l6(w:aj){H:Nat}{L:Nat}(d:l=L)(b:L<=q)(e:q<=H):(Instr.sliceAt 115 (.slice (some ⟨E,off,none⟩) q H) (some (.int .i64 l)) none none).run prog w=.ok (.slice (some (if H=L then⟨E,off,none⟩else⟨E,off+L*2,none⟩)) (q-L) (H-L)) w/\
 (Instr.sliceAt 115 (.slice (some ⟨E,off,none⟩) q H) (some (.int .i64 l)) none none).events prog w #[]=#[]:=by
 let⟨inf,z,a,_,c,_,e⟩:=lO;subst d;have d:(L:Int)<=(q:Int):=ω
 constructor
 .simp[Instr.sliceAt,run_underlying dZ,Instr.slice,Instr.sliceBounds,Instr.sliceBound,asIntOf,sizeOf,typeInfo,a,c,b,ey];grind
 .simp[Instr.sliceAt,run_underlying dZ,Instr.slice,Instr.sliceBounds,Instr.sliceBound,asIntOf,sizeOf,typeInfo,a,b]
def Ki(w:aj){b:Addr}{H:Nat}{L:Nat}(d:l=L)(c:L<=H):(Instr.sliceAt 115 (.slice (some b) q H) none (some (.int .i64 l)) none).run prog w=.ok (.slice (some b) L H) w/\
 (Instr.sliceAt 115 (.slice (some b) q H) none (some (.int .i64 l)) none).events prog w #[]=#[]:=by
 let⟨inf,z,a,_,_,_,e⟩:=lO;subst d;have d:(L:Int)<=(H:Int):=ω
 have d:b.add 0=b:=φ
 constructor
 .simp[Instr.sliceAt,run_underlying dZ,Instr.slice,Instr.sliceBounds,Instr.sliceBound,asIntOf,sizeOf,typeInfo,a,c,d]
 .simp[Instr.sliceAt,run_underlying dZ,Instr.slice,Instr.sliceBounds,Instr.sliceBound,asIntOf,sizeOf,typeInfo,a,c]
def pP(R:gd)(p:Nat)(vs:iO):Array Value:=(R.toList.take p++vs++R.toList.drop (p+vs.length)).toArray
def jL{p:Nat}(h:p+vs.length<=R.size):(pP R p vs).size=R.size:=pO R p vs h
def Bh{R1 R2:gd}{o:Nat}{a:iO}(b:xs.length=2*q)(b:i<=q)(b:a.length=2)(b:o+2*(q+1)<=R.size)(b:∀(j:Nat)(u:ay),j<2*i->xs[j]? =some u->R[o+j]? =some u)(h:(R1=pP R (o+i*2) a/\R2=pP R1 (o+(i+1)*2) (xs.drop (2*i)))\/(R1=pP R (o+(i+1)*2) (xs.drop (2*i))/\R2=pP R1 (o+i*2) a)):
 ∀(j:Nat)(u:ay),(xs.take (2*i)++(a++xs.drop (2*i)))[j]? =some u->R2[o+j]? =some u:=by
 have c:(xs.drop (2*i)).length=2*q-2*i:=θ
 have f:(xs.take (2*i)).length=2*i:=θ
 intro j u e;have key:R2[o+j]? =if j<2*i then R[o+j]? else if j<2*i+2 then a[j-2*i]? else if j<2*q+2 then(xs.drop (2*i))[j-(2*i+2)]? else R[o+j]? :=by
  rcases h with ⟨rfl,rfl⟩|⟨rfl,rfl⟩
  .have d:(pP R (o+i*2) a).size=R.size:=jL ω;rw[pP,eE _ _ _ ω,c];by_cases a:j<2*i
   .rw[sJ ω,sJ a,pP,eE _ _ _ ω,sJ ω]
   .rw[af a];by_cases b:j<2*i+2
    .rw[sJ ω,sJ b,pP,eE _ _ _ ω,af ω,sJ ω];grind
    .rw[af ω,af b];by_cases c3:j<2*q+2
     .rw[sJ ω,sJ c3];congr 1;omega
     grind
  .have d:(pP R (o+(i+1)*2) (xs.drop (2*i))).size=R.size:=jL ω;rw[pP,eE _ _ _ ω];by_cases a:j<2*i
   .rw[sJ ω,sJ a,pP,eE _ _ _ ω,sJ ω]
   .rw[af ω,af a];by_cases b:j<2*i+2
    .grind
    .rw[af ω,af b,pP,eE _ _ _ ω,af ω,c];by_cases c3:j<2*q+2
     .rw[sJ ω,sJ c3];congr 1;omega
     grind
 rw[key];by_cases a:j<2*i
 .grind
 .rw[af a];rw[vf ω,f]at e;grind
def yf(es:jl)(i:Nat)(t:Int)(f:ay):flat (es.take i++(t,f)::es.drop i)=(flat es).take (2*i)++([.int .i64 t,f]++(flat es).drop (2*i)):=by
 rw[lS,uJ,show flat ((t,f)::es.drop i)=.int .i64 t::f::flat (es.drop i)from rfl,uK];rfl
def IP{es:jl}(h:∀e∈es,e.2.oneCell'=true){f:ay}(a:f.oneCell'=true)(i:Nat)(t:Int):∀e∈es.take i++(t,f)::es.drop i,e.2.oneCell'=true:=λe a=>by
 grind
def qL(es:jl)(i:Nat)(t:Int)(f:ay)(h:i<=es.length):(es.take i++(t,f)::es.drop i).length=es.length+1:=θ
def Kp.setRow(w:aj)(E:Nat)(U:gd):Kp [E] w (w.setRow E U):=by
 have:=Kp.grown (v:=.slice (some ⟨E,0,none⟩) 0 0) (w:=w) (w':=w.setRow E U) ⟨rfl,rfl,rfl,ψ,λk _ a=>setRow_other w E k _ (λe=>a (by simp[Value.ownBlock,e]))⟩;simpa [cw,Value.ownBlock]using this
def nS{x:Int}(a:0<=x)(a:x<1000000000):IntKind.i64.wrap x=x:=by rw[IntKind.wrap_i64];omega
def rT{w:aj}{t:Int}{f:ay}{a:TypeId}(h:w.heap[nb]? =some (.cells #[.int .i64 t,f] a (0,0))):∀j u,([.int .i64 t,f]:iO)[j]? =some u->w.cell? ((⟨nb,0,none⟩:Addr).add j)=some u:=λj u a=>by
 rw[ey,oz h,bK,Hz];exact a
def NT(w:aj)(b:eP)(c:Nat):(Instr.sliceAt 115 (.slice b 0 c) (some (.int .i64 0)) none none).events prog w #[]=#[]:=by
 rfl
def CE(N nb i:Nat)(t:Int)(f:ay)(tb:TypeId)(D:aj)(es:jl)(To:es.length<1000000)(hi:i<=es.length)(hN:N<=D.heap.size){en:ay}(M:fZ N D en es)(o8:D.heap[nb]? =some (.cells #[.int .i64 t,f] tb (0,0)))(hf:f.oneCell'=true)(qM:nb∉cw en)(W7:∀(B:Addr)(wr:Bool),B.block∈cw en\/D.heap.size<=B.block->Ok B wr)(R:∀B:Addr,B.block=nb->Ok B false):
 fG prog X (DX Ok) 59 #[en,.int .i64 i,.slice (some ⟨nb,0,none⟩) 1 1] D λI w'=>fZ N w' I (es.take i++(t,f)::es.drop i)/\Kp (cw en) D w'/\∀g∈cw I,g∈cw en\/D.heap.size<=g:=by
 have U6:nb<D.heap.size:=(cU.1 o8).1;have Tr:=rT o8;intro Y F c U hc;simp only[enter_at _ func59 rfl,ntmps59];walk_nrm;rcases id M.2 with ⟨rfl,rfl⟩|⟨E,off,H,T,rfl,hle,hE,C,VC,Qb⟩
 .obtain rfl:i=0:=ξ
  refine F.sr ?_;simp only[rg];refine F.aJ ?_;refine F.re ?_;refine F.cF ?_;iterate 2 (refine F.aJ ?_)
  refine F.AZ rfl rfl δ (λ_=>φ) (λd K x=>?_);go_simp;refine x _ ?_;clear x K d;try walk_nrm
  refine F.dA ?_;iterate 3 (refine F.aJ ?_)
  refine F.es ?_;refine F.cF ?_;iterate 2 (refine F.aJ ?_)
  refine F.re ?_;refine F.cf rfl ?_;refine F.sk ?_;refine F.cF ?_;iterate 3 (refine F.aJ ?_)
  refine F.es ?_;refine F.cF ?_;iterate 3 (refine F.aJ ?_)
  refine F.re ?_;refine F.ct rfl ?_;refine F.cF ?_;iterate 2 (refine F.aJ ?_)
  refine F.BQ rfl rfl δ (.tmp 23) (.tmp 24) rfl (N:=N) (nb:=nb) (v:=.slice none 0 0) (es:=[]) (t:=t) (f:=f) δ hN rfl rfl M (Tr 0 _ rfl) (Tr 1 _ rfl) hf (λB wr h=>by cases h) R ?_;intro I w' ho hg hb;try walk_nrm
  refine F.aJ ?_;refine F.tC func59 ?_;refine hc _ _ ⟨ho,Kp.grown hg,λg (h:g∈cw I)=>.inr ?_⟩;rw[bS]at h;rcases hb with y|y;rw[y]at h;cases h;simp_all
 have XV:E<D.heap.size:=(cU.1 C).1;have n:=M.1;have S:∀(B:Addr)(wr:Bool),B.block=E->Ok B wr:=λB wr h=>W7 B wr (.inl (by simp[cw,Value.ownBlock,h]));have W:∀(B:Addr)(wr:Bool),D.heap.size<=B.block->Ok B wr:=λB wr h=>W7 B wr (.inr h);replace qM:nb≠E:=λh=>qM (by simp[cw,Value.ownBlock,h]);replace hc:∀I w',fZ N w' I (es.take i++(t,f)::es.drop i)/\Kp [E] D w'/\(∀g∈cw I,g=E\/D.heap.size<=g)->Y (G (c.finish I) U) w':=λv w h=>hc v w ⟨h.1,h.2.1,λg hg=>(h.2.2 g hg).imp (λe=>by simp[cw,Value.ownBlock,e]) id⟩;have QM:=ia es;have h1c:∀u∈([.int .i64 t,f]:iO),u.oneCell'=true:=by intro u P;simp at P;rcases P with rfl|rfl;rfl;exact hf
 have U0:=yd es n;generalize hq:es.length=q at To hi hle QM M hc;have c:(q:Int)+1<=1000001:=ω
 have c:IntKind.i64.wrap ((q:Int)+1)=(q:Int)+1:=nS ω ω;have c:IntKind.i64.wrap ((i:Int)+1)=(i:Int)+1:=nS ω ω;have wn:IntKind.i64.wrap ((q:Int)+1-(i:Int))=((q+1-i:Nat):Int):=by rw[nS ω ω];omega
 have c:∀w,(Instr.sliceAt 115 (.slice (some ⟨E,off,none⟩) q H) (some (.int .i64 i)) none none).events prog w #[]=#[]:=λw=>(l6 w rfl hi hle).2;by_cases c:i=q
 .have c1:((i:Int)==(q:Int))=true:=θ
  have e:i<=q/\q<=i:=⟨hi,pK c.symm⟩;clear c;have c:es.take i++(t,f)::es.drop i=es++[(t,f)]:=by rw[List.take_of_length_le ω,List.drop_of_length_le ω]
  refine F.sr ?_;simp only[rg];refine F.aJ ?_;refine F.dA ?_;iterate 3 (refine F.oq rfl rfl rfl (λ_=>by first|(simp[go_sem];done)|simp[go_sem, *]) λd K x=>?_;go_simp;refine x _ ?_;clear x K d;try walk_nrm)
  refine F.dA ?_;iterate 3 (refine F.aJ ?_)
  refine F.es ?_;refine F.cF ?_;iterate 2 (refine F.aJ ?_)
  refine F.re ?_;refine F.cf rfl ?_;refine F.sk ?_;refine F.cF ?_;iterate 3 (refine F.aJ ?_)
  refine F.es ?_;refine F.cF ?_;iterate 3 (refine F.aJ ?_)
  refine F.re ?_;refine F.ct rfl ?_;refine F.cF ?_;iterate 2 (refine F.aJ ?_)
  refine F.BQ rfl rfl δ (.tmp 23) (.tmp 24) rfl (N:=N) (nb:=nb) (v:=.slice (some ⟨E,off,none⟩) q H) (es:=es) (t:=t) (f:=f) ω hN rfl rfl M (Tr 0 _ rfl) (Tr 1 _ rfl) hf (λB wr h=>S B wr (Option.some.inj h)) R ?_;intro I w' ho hg hb;try walk_nrm
  refine F.aJ ?_;refine F.tC func59 ?_;refine hc _ _ ⟨ξ,?_,λg h=>?_⟩
  .have:=Kp.grown hg;simpa [cw,Value.ownBlock]using this
  .rw[bS]at h;rcases hb with y|y
   .exact .inl (Option.some.inj (h.symm.trans y))
   simp_all
 have c1:((i:Int)==(q:Int))=false:=θ
 have c:(H=i)=False:=θ
 have c:i<q:=ω
 have hpn:i+(q+1-i)=q+1:=ω
 have Xw:=IP n hf i t;have c:(i:Int)<=(H:Int):=ω
 have c:i<=H:=ω
 have c:∀w,(Builtin.cap_ #[115] 3 #[.slice (some ⟨E,off,none⟩) q H]).events prog w #[]=#[]:=λw=>φ
 have c:((i:Int)+1).toNat=i+1:=ω
 have c:((q:Int)+1).toNat=q+1:=ω
 have ip:(0:Int)<=(i:Int)+1:=ω
 have c:(0:Int)<=(q:Int)+1:=ω
 have c:(i:Int)<=(q:Int):=ω
 have c:(i:Int)+1<=(q:Int)+1:=ω
 have hxt:((flat es).take (2*i)).length=2*i:=θ
 have Uy:((flat es).drop (2*i)).length=2*(q-i):=θ
 have Qj:∀j u,((flat es).drop (2*i))[j]? =some u->T[off+i*2+j]? =some u:=λj u P=>by
  grind
 have RO:∀u∈(flat es).drop (2*i),u.oneCell'=true:=λu P=>U0 u (JA P);refine F.sr ?_;simp only[rg];refine F.aJ ?_;refine F.dA ?_;iterate 3 (refine F.oq rfl rfl rfl (λ_=>by first|(simp[go_sem];done)|simp[go_sem, *]) λd K x=>?_;go_simp;refine x _ ?_;clear x K d;try walk_nrm)
 refine F.dA ?_;iterate 3 (refine F.aJ ?_)
 refine F.es ?_;refine F.cF ?_;iterate 2 (refine F.aJ ?_)
 refine F.re ?_;refine F.cf rfl ?_;refine F.sk ?_;refine F.cF ?_;iterate 3 (refine F.aJ ?_)
 refine F.es ?_;refine F.cF ?_;iterate 3 (refine F.aJ ?_)
 refine F.re ?_;refine F.cf rfl ?_;refine F.sk ?_;refine F.sq ?_;refine F.cF ?_;iterate 6 (refine F.oq rfl rfl rfl (λ_=>by first|(simp[go_sem];done)|simp[go_sem, *]) λd K x=>?_;go_simp;refine x _ ?_;clear x K d;try walk_nrm)
 refine F.re ?_;by_cases c:q+1<=H
 .have c3:((H:Int)<(q:Int)+1)=False:=θ
  have e:(q:Int)+1<=(H:Int):=ω
  have e:(H=i+1)=False:=θ
  have UN:(i:Int)<=(q:Int)+1:=ω
  have Qs:q+1-(i+1)=q-i:=ω
  have e:∀w,(Instr.sliceAt 115 (.slice (some ⟨E,off,none⟩) q H) none (some (.int .i64 ((q:Int)+1))) none).events prog w #[]=#[]:=λw=>(Ki w (L:=q+1) ω c).2;have c:∀w,(Instr.sliceAt 115 (.slice (some ⟨E,off,none⟩) (q+1) H) (some (.int .i64 ((i:Int)+1))) none none).events prog w #[]=#[]:=λw=>(l6 w (L:=i+1) ω ω ω).2;have c:∀w,(Instr.sliceAt 115 (.slice (some ⟨E,off,none⟩) (q+1) H) (some (.int .i64 i)) none none).events prog w #[]=#[]:=λw=>(l6 w rfl ω ω).2;simp only[c3,decide_false];refine F.cf rfl ?_;refine F.sk ?_;refine F.cF ?_;iterate 6 (refine F.oq rfl rfl rfl (λ_=>by first|(simp[go_sem];done)|simp[go_sem, *]) λd K x=>?_;go_simp;refine x _ ?_;clear x K d;try walk_nrm)
  refine F.es ?_;refine F.cF ?_;iterate 6 (refine F.oq rfl rfl rfl (λ_=>by first|(simp[go_sem];done)|simp[go_sem, *]) λd K x=>?_;go_simp;refine x _ ?_;clear x K d;try walk_nrm)
  refine F.apart rfl rfl δ (.tmp 61) (.tmp 66) rfl (nb:=nb) (E:=E) rfl rfl o8 C qM ω ?_;try walk_nrm
  refine F.oq rfl rfl rfl (λ_=>φ) λd K x=>?_;go_simp;refine x _ ?_;clear x K d;try walk_nrm
  refine F.re ?_;refine F.ct rfl ?_;refine F.sq ?_;refine F.yw (γ:=Unit) (n:=9) mixed [[],[],[],[1,2],[0,3],[],[],[5,6],[4,7]] rfl ρ (λb g=>[(69,dB (b 0) (.slice (some ⟨E,off,none⟩) (q+1) H) (undef)),(70,dB (b 1) (.int .i64 i) (undef)),(71,dB (b 2) (.int .i64 1) (undef)),(72,dB (b 3) (.int .i64 ((i:Int)+1)) (undef)),(73,dB (b 4) (.slice (some ⟨E,off+(i+1)*2,none⟩) (q-i) (H-(i+1))) (undef)),(74,dB (b 5) (.slice (some ⟨E,off,none⟩) (q+1) H) (undef)),(75,dB (b 6) (.int .i64 i) (undef)),(76,dB (b 7) (.slice (some ⟨E,off+i*2,none⟩) (q+1-i) (H-i)) (undef)),(77,dB (b 8) (.int .i64 ((q-i:Nat):Int)) (undef))]) (λb g w=>(b 8=false->w=D)/\(b 8=true->(D.setRow E (pP T (off+(i+1)*2) ((flat es).drop (2*i)))=w))) (()) (by simp only[pu]) (⟨λ_=>rfl,λh=>by cases h⟩) (all_cons ?_ (all_cons ?_ (all_cons ?_ (all_cons ?_ (all_cons ?_ (all_cons ?_ (all_cons ?_ (all_cons ?_ (all_cons ?_ (all_nil)))))))))) ?_
  .intro b g w z l a r O A o;let⟨m,s⟩:=z;replace a:b 0=false:=a;have gD:=dy (l 4 0 rfl) a;have dG:=dy (l 8 4 rfl) gD;have p:=(m dG).symm;subst p;simp only[gD,dG,a,pu];refine F.aJ ?_;have k:=o g _ ⟨λ_=>rfl,λh=>no dG h⟩;simp only[gD,dG,a,pu,Nat.reduceEqDiff,reduceIte]at k;exact k
  .intro b g w z l a r O A o;let⟨m,s⟩:=z;replace a:b 1=false:=a;have Yl:=dy (l 3 1 rfl) a;have gD:=dy (l 4 3 rfl) Yl;have dG:=dy (l 8 4 rfl) gD;have p:=(m dG).symm;subst p;simp only[Yl,gD,dG,a,pu];refine F.aJ ?_;have k:=o g _ ⟨λ_=>rfl,λh=>no dG h⟩;simp only[Yl,gD,dG,a,pu,Nat.reduceEqDiff,reduceIte]at k;exact k
  .intro b g w z l a r O A o;let⟨m,s⟩:=z;replace a:b 2=false:=a;have Yl:=dy (l 3 2 rfl) a;have gD:=dy (l 4 3 rfl) Yl;have dG:=dy (l 8 4 rfl) gD;have p:=(m dG).symm;subst p;simp only[Yl,gD,dG,a,pu,Nat.reduceAdd];refine F.aJ ?_;have k:=o g _ ⟨λ_=>rfl,λh=>no dG h⟩;simp only[Yl,gD,dG,a,pu,Nat.reduceAdd,Nat.reduceEqDiff,reduceIte]at k;exact k
  .intro b g w z l a r O A o;let⟨m,s⟩:=z;replace a:b 3=false:=a;have d1:=r 1 rfl;have d2:=r 2 rfl;have gD:=dy (l 4 3 rfl) a;have dG:=dy (l 8 4 rfl) gD;have p:=(m dG).symm;subst p;simp only[d1,d2,gD,dG,a,pu,Nat.reduceAdd];refine F.aJ ?_;have k:=o g _ ⟨λ_=>rfl,λh=>no dG h⟩;simp only[d1,d2,gD,dG,a,pu,Nat.reduceAdd,Nat.reduceEqDiff,reduceIte]at k;exact k
  .intro b g w z l a r O A o;let⟨m,s⟩:=z;replace a:b 4=false:=a;have d0:=r 0 rfl;have d3:=r 3 rfl;have dG:=dy (l 8 4 rfl) a;have p:=(m dG).symm;subst p;simp only[d0,d3,dG,a,pu,Nat.reduceAdd];refine F.oq rfl rfl rfl (λ_=>by first|(simp[go_sem];done)|simp[go_sem, *]) λd K x=>?_;go_simp;refine x _ ?_;clear x K d;try walk_nrm
   have k:=o g _ ⟨λ_=>rfl,λh=>no dG h⟩;simp only[d0,d3,dG,a,pu,Nat.reduceAdd,Nat.reduceEqDiff,reduceIte]at k;exact k
  .intro b g w z l a r O A o;let⟨m,s⟩:=z;replace a:b 5=false:=a;have vN:=dy (l 7 5 rfl) a;have dG:=dy (l 8 7 rfl) vN;have p:=(m dG).symm;subst p;simp only[vN,dG,a,pu,Nat.reduceAdd];refine F.aJ ?_;have k:=o g _ ⟨λ_=>rfl,λh=>no dG h⟩;simp only[vN,dG,a,pu,Nat.reduceAdd,Nat.reduceEqDiff,reduceIte]at k;exact k
  .intro b g w z l a r O A o;let⟨m,s⟩:=z;replace a:b 6=false:=a;have vN:=dy (l 7 6 rfl) a;have dG:=dy (l 8 7 rfl) vN;have p:=(m dG).symm;subst p;simp only[vN,dG,a,pu,Nat.reduceAdd];refine F.aJ ?_;have k:=o g _ ⟨λ_=>rfl,λh=>no dG h⟩;simp only[vN,dG,a,pu,Nat.reduceAdd,Nat.reduceEqDiff,reduceIte]at k;exact k
  .intro b g w z l a r O A o;let⟨m,s⟩:=z;replace a:b 7=false:=a;have d5:=r 5 rfl;have d6:=r 6 rfl;have dG:=dy (l 8 7 rfl) a;have p:=(m dG).symm;subst p;simp only[d5,d6,dG,a,pu,Nat.reduceAdd];refine F.oq rfl rfl rfl (λ_=>by first|(simp[go_sem];done)|simp[go_sem, *]) λd K x=>?_;go_simp;refine x _ ?_;clear x K d;try walk_nrm
   have k:=o g _ ⟨λ_=>rfl,λh=>no dG h⟩;simp only[d5,d6,dG,a,pu,Nat.reduceAdd,Nat.reduceEqDiff,reduceIte]at k;exact k
  .intro b g w z l a r O A o;let⟨m,s⟩:=z;replace a:b 8=false:=a;have d4:=r 4 rfl;have d7:=r 7 rfl;have p:=(m a).symm;subst p;simp only[d4,d7,a,pu,Nat.reduceAdd];refine F.BH rfl rfl δ (.tmp 73) (.tmp 76) rfl (E:=E) (p:=off+(i+1)*2) (n:=q-i) (vs:=(flat es).drop (2*i)) (bb:=⟨E,off+i*2,none⟩) rfl rfl C (Nat.min_eq_right ω).symm Uy ω (oA C Qj) RO S (λB h=>S B false h) XV ?_;intro w3 V;try walk_nrm
   have k:=o g _ ⟨λh=>by simp[tick]at h,λ_=>V⟩;simp only[d4,d7,a,pu,Nat.reduceAdd,Nat.reduceEqDiff,reduceIte]at k;exact k
  intro b g w z n;let⟨m,s⟩:=z;simp only[n 0 δ,n 1 δ,n 2 δ,n 3 δ,n 4 δ,n 5 δ,n 6 δ,n 7 δ,n 8 δ,pu,Nat.reduceAdd,Nat.reduceEqDiff,reduceIte];have J:=s (n 8 δ);have s1:(pP T (off+(i+1)*2) ((flat es).drop (2*i))).size=T.size:=jL ω;have Z:w.heap[E]? =some (.cells (pP T (off+(i+1)*2) ((flat es).drop (2*i))) 143 (0,0)):=by rw[<-J];exact setRow_heap D E _ _ 143 _ C
  have W2:w.heap[nb]? =some (.cells #[.int .i64 t,f] tb (0,0)):=by rw[<-J,setRow_other _ E nb _ qM];exact o8
  have c:w.heap.size=D.heap.size:=by rw[<-J];simp
  refine F.dA ?_;iterate 4 (refine F.oq rfl rfl rfl (λ_=>by first|(simp[go_sem];done)|simp[go_sem, *]) λd K x=>?_;go_simp;refine x _ ?_;clear x K d;try walk_nrm)
  refine F.BH rfl rfl δ (.tmp 80) (.tmp 81) rfl (E:=E) (p:=off+i*2) (n:=1) (vs:=[.int .i64 t,f]) (bb:=⟨nb,0,none⟩) rfl rfl Z (Nat.min_eq_left ω).symm rfl χ (rT W2) h1c S R χ ?_;intro w2 Q;try walk_nrm
  refine F.dA ?_;iterate 2 (refine F.aJ ?_)
  refine F.tC func59 ?_;have OH:w2.heap[E]? =some (.cells (pP (pP T (off+(i+1)*2) ((flat es).drop (2*i))) (off+i*2) [.int .i64 t,f]) 143 (0,0)):=by rw[<-Q];exact setRow_heap w E _ _ 143 _ Z
  refine hc _ _ ⟨⟨Xw,.inr ⟨E,off,H,_,by rw[qL es i t f ω,hq];rfl,χ,hE,OH,?_,λj u P=>?_⟩⟩,?_,λg hg=>?_⟩
  .rw[jL χ,s1];exact VC
  .rw[yf]at P;exact Bh (R:=T) (o:=off) (i:=i) (q:=q) QM ω rfl ω (λj u hj P=>Qb j u P) (.inr ⟨rfl,rfl⟩) j u P
  .have k1:Kp [E] D w:=J▸Kp.setRow D E _;exact k1.pX (Q▸Kp.setRow w E _) ψ ψ
  .rw[bS]at hg;simp[Value.ownBlock]at hg;omega
 have c3:((H:Int)<(q:Int)+1)=True:=θ
 have c:∀w,(Instr.sliceAt 115 (.slice (some ⟨E,off,none⟩) q H) none (some (.int .i64 i)) none).events prog w #[]=#[]:=λw=>(Ki w rfl ω).2;simp only[c3,decide_true];refine F.ct rfl ?_;refine F.cF ?_;iterate 8 (refine F.oq rfl rfl rfl (λ_=>by first|(simp[go_sem];done)|simp[go_sem, *]) λd K x=>?_;go_simp;refine x _ ?_;clear x K d;try walk_nrm)
 refine F.MC rfl rfl δ (.tmp 34) (.tmp 39) rfl (p:=i) (n:=q+1-i) (xs:=(flat es).take (2*i)) rfl rfl C hxt (λj u P=>Qb j u χ) ω ω ω (λB h=>S B false h) ?_;intro c' rs w1 I9 c J;rw[hpn]at I9 ⊢;try walk_nrm
 generalize CH:D.heap.size=L at XV U6 W hN hc ⊢;have Z:w1.heap[L]? =some (.cells (((flat es).take (2*i)).toArray++rs) 143 (0,0)):=by subst J;rw[<-CH];exact ny (w:=D) rfl rfl
 have QV:w1.heap[E]? =some (.cells T 143 (0,0)):=by subst J;rw[Below.heap_alloc _ _ _ ω];exact C
 have W2:w1.heap[nb]? =some (.cells #[.int .i64 t,f] tb (0,0)):=by subst J;rw[Below.heap_alloc _ _ _ ω];exact o8
 have T8:w1.heap.size=L+1:=by subst J;simp[CH]
 have c:(c'=i)=False:=θ
 have c:(c'=i+1)=False:=θ
 have c:∀w,(Instr.sliceAt 115 (.slice (some ⟨L,0,none⟩) (q+1) c') (some (.int .i64 i)) none none).events prog w #[]=#[]:=λw=>(l6 w rfl ω ω).2;have c:∀w,(Instr.sliceAt 115 (.slice (some ⟨L,0,none⟩) (q+1) c') (some (.int .i64 ((i:Int)+1))) none none).events prog w #[]=#[]:=λw=>(l6 w (L:=i+1) ω ω ω).2;have UN:(i:Int)<=(q:Int)+1:=ω
 have c:(i:Int)+1<=((q+1:Nat):Int):=ω
 refine F.aJ ?_;refine F.dA ?_;iterate 4 (refine F.oq rfl rfl rfl (λ_=>by first|(simp[go_sem];done)|simp[go_sem, *]) λd K x=>?_;go_simp;refine x _ ?_;clear x K d;try walk_nrm)
 refine F.BH rfl rfl δ (.tmp 43) (.tmp 44) rfl (E:=L) (p:=i*2) (n:=1) (vs:=[.int .i64 t,f]) (bb:=⟨nb,0,none⟩) rfl rfl Z (Nat.min_eq_left ω).symm rfl χ (rT W2) h1c (λB wr h=>W B wr ω) R χ ?_;intro w2 Q;try walk_nrm
 have T9:(pP (((flat es).take (2*i)).toArray++rs) (i*2) [.int .i64 t,f]).size=(((flat es).take (2*i)).toArray++rs).size:=jL χ;have Tb:(((flat es).take (2*i)).toArray++rs).size=2*c':=χ
 have OH:w2.heap[L]? =some (.cells (pP (((flat es).take (2*i)).toArray++rs) (i*2) [.int .i64 t,f]) 143 (0,0)):=by rw[<-Q];exact setRow_heap w1 L _ _ 143 _ Z
 have QU:w2.heap[E]? =some (.cells T 143 (0,0)):=by rw[<-Q,setRow_other _ L E _ ω];exact QV
 have c:w2.heap.size=L+1:=by rw[<-Q];simp[T8]
 have Qs:q+1-(i+1)=q-i:=ω
 refine F.es ?_;refine F.yw (γ:=Unit) (n:=9) mixed [[],[],[],[1,2],[0,3],[],[],[5,6],[4,7]] rfl ρ (λb g=>[(46,dB (b 0) (.slice (some ⟨L,0,none⟩) (q+1) c') (undef)),(47,dB (b 1) (.int .i64 i) (undef)),(48,dB (b 2) (.int .i64 1) (undef)),(49,dB (b 3) (.int .i64 ((i:Int)+1)) (undef)),(50,dB (b 4) (.slice (some ⟨L,(i+1)*2,none⟩) (q-i) (c'-(i+1))) (undef)),(51,dB (b 5) (.slice (some ⟨E,off,none⟩) q H) (undef)),(52,dB (b 6) (.int .i64 i) (undef)),(53,dB (b 7) (.slice (some ⟨E,off+i*2,none⟩) (q-i) (H-i)) (undef)),(54,dB (b 8) (.int .i64 ((q-i:Nat):Int)) (undef))]) (λb g w=>(b 8=false->w=w2)/\(b 8=true->(w2.setRow L (pP (pP (((flat es).take (2*i)).toArray++rs) (i*2) [.int .i64 t,f]) ((i+1)*2) ((flat es).drop (2*i)))=w))) (()) (by simp only[pu]) (⟨λ_=>rfl,λh=>by cases h⟩) (all_cons ?_ (all_cons ?_ (all_cons ?_ (all_cons ?_ (all_cons ?_ (all_cons ?_ (all_cons ?_ (all_cons ?_ (all_cons ?_ (all_nil)))))))))) ?_
 .intro b g w z l a r O A o;let⟨m,s⟩:=z;replace a:b 0=false:=a;have gD:=dy (l 4 0 rfl) a;have dG:=dy (l 8 4 rfl) gD;have p:=(m dG).symm;subst p;simp only[gD,dG,a,pu];refine F.aJ ?_;have k:=o g _ ⟨λ_=>rfl,λh=>no dG h⟩;simp only[gD,dG,a,pu,Nat.reduceEqDiff,reduceIte]at k;exact k
 .intro b g w z l a r O A o;let⟨m,s⟩:=z;replace a:b 1=false:=a;have Yl:=dy (l 3 1 rfl) a;have gD:=dy (l 4 3 rfl) Yl;have dG:=dy (l 8 4 rfl) gD;have p:=(m dG).symm;subst p;simp only[Yl,gD,dG,a,pu];refine F.aJ ?_;have k:=o g _ ⟨λ_=>rfl,λh=>no dG h⟩;simp only[Yl,gD,dG,a,pu,Nat.reduceEqDiff,reduceIte]at k;exact k
 .intro b g w z l a r O A o;let⟨m,s⟩:=z;replace a:b 2=false:=a;have Yl:=dy (l 3 2 rfl) a;have gD:=dy (l 4 3 rfl) Yl;have dG:=dy (l 8 4 rfl) gD;have p:=(m dG).symm;subst p;simp only[Yl,gD,dG,a,pu,Nat.reduceAdd];refine F.aJ ?_;have k:=o g _ ⟨λ_=>rfl,λh=>no dG h⟩;simp only[Yl,gD,dG,a,pu,Nat.reduceAdd,Nat.reduceEqDiff,reduceIte]at k;exact k
 .intro b g w z l a r O A o;let⟨m,s⟩:=z;replace a:b 3=false:=a;have d1:=r 1 rfl;have d2:=r 2 rfl;have gD:=dy (l 4 3 rfl) a;have dG:=dy (l 8 4 rfl) gD;have p:=(m dG).symm;subst p;simp only[d1,d2,gD,dG,a,pu,Nat.reduceAdd];refine F.aJ ?_;have k:=o g _ ⟨λ_=>rfl,λh=>no dG h⟩;simp only[d1,d2,gD,dG,a,pu,Nat.reduceAdd,Nat.reduceEqDiff,reduceIte]at k;exact k
 .intro b g w z l a r O A o;let⟨m,s⟩:=z;replace a:b 4=false:=a;have d0:=r 0 rfl;have d3:=r 3 rfl;have dG:=dy (l 8 4 rfl) a;have p:=(m dG).symm;subst p;simp only[d0,d3,dG,a,pu,Nat.reduceAdd];refine F.oq rfl rfl rfl (λ_=>by first|(simp[go_sem];done)|simp[go_sem, *]) λd K x=>?_;go_simp;refine x _ ?_;clear x K d;try walk_nrm
  have k:=o g _ ⟨λ_=>rfl,λh=>no dG h⟩;simp only[d0,d3,dG,a,pu,Nat.reduceAdd,Nat.reduceEqDiff,reduceIte]at k;exact k
 .intro b g w z l a r O A o;let⟨m,s⟩:=z;replace a:b 5=false:=a;have vN:=dy (l 7 5 rfl) a;have dG:=dy (l 8 7 rfl) vN;have p:=(m dG).symm;subst p;simp only[vN,dG,a,pu,Nat.reduceAdd];refine F.aJ ?_;have k:=o g _ ⟨λ_=>rfl,λh=>no dG h⟩;simp only[vN,dG,a,pu,Nat.reduceAdd,Nat.reduceEqDiff,reduceIte]at k;exact k
 .intro b g w z l a r O A o;let⟨m,s⟩:=z;replace a:b 6=false:=a;have vN:=dy (l 7 6 rfl) a;have dG:=dy (l 8 7 rfl) vN;have p:=(m dG).symm;subst p;simp only[vN,dG,a,pu,Nat.reduceAdd];refine F.aJ ?_;have k:=o g _ ⟨λ_=>rfl,λh=>no dG h⟩;simp only[vN,dG,a,pu,Nat.reduceAdd,Nat.reduceEqDiff,reduceIte]at k;exact k
 .intro b g w z l a r O A o;let⟨m,s⟩:=z;replace a:b 7=false:=a;have d5:=r 5 rfl;have d6:=r 6 rfl;have dG:=dy (l 8 7 rfl) a;have p:=(m dG).symm;subst p;simp only[d5,d6,dG,a,pu,Nat.reduceAdd];refine F.oq rfl rfl rfl (λ_=>by first|(simp[go_sem];done)|simp[go_sem, *]) λd K x=>?_;go_simp;refine x _ ?_;clear x K d;try walk_nrm
  have k:=o g _ ⟨λ_=>rfl,λh=>no dG h⟩;simp only[d5,d6,dG,a,pu,Nat.reduceAdd,Nat.reduceEqDiff,reduceIte]at k;exact k
 .intro b g w z l a r O A o;let⟨m,s⟩:=z;replace a:b 8=false:=a;have d4:=r 4 rfl;have d7:=r 7 rfl;have p:=(m a).symm;subst p;simp only[d4,d7,a,pu,Nat.reduceAdd];refine F.BH rfl rfl δ (.tmp 50) (.tmp 53) rfl (E:=L) (p:=(i+1)*2) (n:=q-i) (vs:=(flat es).drop (2*i)) (bb:=⟨E,off+i*2,none⟩) rfl rfl OH (Nat.min_self _).symm Uy ω (oA QU Qj) RO (λB wr h=>W B wr ω) (λB h=>S B false h) χ ?_;intro w3 V;try walk_nrm
  have k:=o g _ ⟨λh=>by simp[tick]at h,λ_=>V⟩;simp only[d4,d7,a,pu,Nat.reduceAdd,Nat.reduceEqDiff,reduceIte]at k;exact k
 intro b g w z n;let⟨m,s⟩:=z;simp only[n 0 δ,n 1 δ,n 2 δ,n 3 δ,n 4 δ,n 5 δ,n 6 δ,n 7 δ,n 8 δ,pu];have V:=s (n 8 δ);refine F.dA ?_;iterate 2 (refine F.aJ ?_)
 refine F.tC func59 ?_;have b:w.heap[L]? =some (.cells (pP (pP (((flat es).take (2*i)).toArray++rs) (i*2) [.int .i64 t,f]) ((i+1)*2) ((flat es).drop (2*i))) 143 (0,0)):=by rw[<-V];exact setRow_heap w2 L _ _ 143 _ OH
 refine hc _ _ ⟨⟨Xw,.inr ⟨L,0,c',_,by rw[qL es i t f ω,hq];rfl,χ,hN,b,?_,λj u P=>?_⟩⟩,?_,λg hg=>?_⟩
 .rw[jL ω,T9,Tb];omega
 .rw[yf]at P;refine Bh (R:=((flat es).take (2*i)).toArray++rs) (R1:=pP (((flat es).take (2*i)).toArray++rs) (i*2) [.int .i64 t,f]) (o:=0) (i:=i) (q:=q) QM ω rfl ω (λj u hj P=>?_) (.inl ⟨ψ,ψ⟩) j u P;grind
 .have k1:Kp [E] D w1:=Kp.alloc J;have b:Kp [E] D w2:=k1.pX (Q▸Kp.setRow w1 L _) θ ψ;exact b.pX (V▸Kp.setRow w2 L _) θ ψ
 .rw[bS]at hg;simp[Value.ownBlock]at hg;omega
structure iM(es:jl)(t:Int)(i:Nat):Prop where
 gt:∀j e,i<=j->es[j]? =some e->t<e.1
 le:∀e,0<i->es[i-1]? =some e->e.1<=t
def IE(f:Func):Code:=match f.body with|some (.seq _ (.seq (.block _ (.loop b)) _))=>b|_=>.skip
def Ml(f:Func):Code:=match f.body with|some (.seq _ (.seq _ r))=>r|_=>.skip
def Qg:∀(es:jl)(j:Nat),j<es.length->(flat es)[2*j]? =some (.int .i64 (es.getD j (0,.nilFunc)).1)
 |e::es,0,_=>rfl
 |e::es,j+1,h=>by
  have a:=Qg es j ξ;rw[show 2*(j+1)=2*j+1+1 by omega];simpa [flat]using a
def P6(w:aj){H p:Nat}(h:p<q):(Instr.indexAt 115 (.slice (some ⟨E,off,none⟩) q H) (.int .i64 (p:Int))).events prog w #[]=#[]:=by
 let⟨inf,z,a,_,_,_,b⟩:=lO;have b:(p:Int)<(q:Int):=ω
 simp[Instr.indexAt,run_underlying dZ,asIntOf,sizeOf,typeInfo,a,h]
def EW(F:aB prog X (DX Ok) Y)(A:Nat)(t:Int)(fv:ay)(w0:aj){b:eP}{H:Nat}(To:q<1000000)(hb:0<q->b=some ⟨E,off,none⟩)(TG:w0.cell? ⟨A,1,none⟩=some (.slice b q H))(b:Ok ⟨A,1,none⟩ false)(ts:Nat->Int)(hx:∀j,j<q->w0.cell? ⟨E,off+j*2,none⟩=some (.int .i64 (ts j))/\Ok ⟨E,off+j*2,none⟩ false)(c:aC)(U:cO)(hk:∀i:Nat,i<=q->(∀j,i<=j->j<q->t<ts j)->(0<i->¬t<ts (i-1))->∀y3 y4 y5 y7 y8 y9 SX Z W V T S R Q P O N M L J I D C B y v u s r o n m l k h g f a:Value,Y (G ((base 47).at ⟨List.toArray (.pointer (some ⟨A,0,none⟩)::.int .i64 t::fv::y3::y4::y5::.int .i64 (i:Int)::y7::y8::y9::SX::Z::W::V::T::S::R::Q::P::O::N::M::L::J::I::D::C::B::y::v::u::s::r::o::n::m::l::k::h::g::f::a::[]),[]⟩ [.code (Ml f47)]) (c::U)) w0):
 ∀p:Nat,p<=q->(∀j,p<=j->j<q->t<ts j)->∀y3 y4 y5 y7 y8 y9 SX Z W V T S R Q P O N M L J I D C B y v u s r o n m l k h g f a:Value,Y (G ((base 47).at ⟨List.toArray (.pointer (some ⟨A,0,none⟩)::.int .i64 t::fv::y3::y4::y5::.int .i64 (p:Int)::y7::y8::y9::SX::Z::W::V::T::S::R::Q::P::O::N::M::L::J::I::D::C::B::y::v::u::s::r::o::n::m::l::k::h::g::f::a::[]),[]⟩ [.code (IE f47),.inLoop (IE f47),.inBlock 0,.code (Ml f47)]) (c::U)) w0:=by
 intro p;induction p with
 |zero=>
  intro hp hgt y3 y4 y5 y7 y8 y9 SX Z W V T S R Q P O N M L J I D C B y v u s r o n m l k h g f a;simp only[IE,f47];refine F.sq ?_;refine F.cF ?_;iterate 3 (refine F.aJ ?_)
  refine F.dK ?_;refine F.dK ?_;refine F.dK ?_;refine F.dK ?_;refine F.dK ?_;refine F.dK ?_;refine F.dK ?_;refine F.dK ?_;refine F.dK ?_;refine F.dK ?_;refine F.dK ?_;refine F.aJ ?_;refine F.re ?_;refine F.cf rfl ?_;refine F.ctl (λ_=>stepG_exit rfl) ?_;exact hk 0 hp hgt (λz=>absurd z δ) _ _ _ _ _ _ _ _ _ _ _ _ _ _ _ _ _ _ _ _ _ _ _ _ _ _ _ _ _ _ _ _ _ _ _ _ _ _
 |succ p ih=>
  intro hp hgt y3 y4 y5 y7 y8 y9 SX Z W V T S R Q P O N M L J I D C B y v u s r o n m l k h g f a;let⟨Nc,a⟩:=hx p hp;obtain rfl:=hb ω;generalize ZZ:ts p=x at Nc;have wp:IntKind.i64.wrap (p:Int)=(p:Int):=nS ω ω;have pp:((0:Int)<(p:Int)+1)=True:=propext ⟨λ_=>trivial,λ_=>ω⟩;have a:(p:Int)<(q:Int):=ω
  have a:p<q:=hp;rw[show(((p+1:Nat):Int))=(p:Int)+1 from by omega];have b:(p:Int)+1-1=(p:Int):=ω
  simp only[IE,f47];refine F.sq ?_;refine F.cF ?_;iterate 6 (refine F.aJ ?_)
  refine F.ow ?_;iterate 2 (refine F.aJ ?_)
  have b:∀w,(Instr.indexAt 115 (.slice (some ⟨E,off,none⟩) q H) (.int .i64 (p:Int))).events prog w #[]=#[]:=λw=>P6 w a;refine F.AZ rfl rfl δ (λd=>by simp[go_sem,b]) (λd K a=>?_);go_simp;refine a _ ?_;clear a K d;try walk_nrm
  refine F.aJ ?_;refine F.ow ?_;iterate 3 (refine F.aJ ?_)
  refine F.re ?_;by_cases ht:t<x
  .simp only[ht,decide_true];refine F.ct rfl ?_;refine F.sk ?_;refine F.bl ?_;refine F.zA ?_;iterate 3 (refine F.aJ ?_)
   refine F.re ?_;refine F.ib ?_;refine F.ctl (λ_=>stepG_inLoop) ?_;exact ih (Nat.le_of_succ_le hp) (λj a h2=>by rcases Lz a with e|e;subst e;rw[ZZ];exact ht;exact hgt j e h2) _ _ _ _ _ _ _ _ _ _ _ _ _ _ _ _ _ _ _ _ _ _ _ _ _ _ _ _ _ _ _ _ _ _ _ _ _ _
  .simp only[ht,decide_false];refine F.cf rfl ?_;refine F.ctl (λ_=>stepG_exit rfl) ?_;exact hk (p+1) hp hgt (λ_=>ξ) _ _ _ _ _ _ _ _ _ _ _ _ _ _ _ _ _ _ _ _ _ _ _ _ _ _ _ _ _ _ _ _ _ _ _ _ _ _
def EX(N A:Nat)(t:Int)(fn:Fn)(fst k:gd)(u:ay)(es:jl)(m:aj)(hN:N<=m.heap.size)(lA:A<N)(Q:es.length<1000000)(L:fZ N m u es)(l:m.cell? ⟨A,1,none⟩=some u)(B:m.frozen? ⟨A,1,none⟩=false)(okr:Ok ⟨A,1,none⟩ false)(okw:Ok ⟨A,1,none⟩ true)(D:∀(a:Addr)(wr:Bool),a.block∈cw u\/m.heap.size<=a.block->Ok a wr):
 fG prog X (DX Ok) 47 #[.pointer (some ⟨A,0,none⟩),.int .i64 t,.func fn fst k] m λr w'=>r=.tuple #[]/\Kp (cw u) m w' [⟨A,1,none⟩]/\∃I i,i<=es.length/\iM es t i/\w'.cell? ⟨A,1,none⟩=some I/\w'.frozen? ⟨A,1,none⟩=false/\fZ N w' I (es.take i++(t,.func fn fst k)::es.drop i)/\∀g∈cw I,g∈cw u\/m.heap.size<=g:=by
 have V:A∉cw u:=λz=>by have:=(L.lt (bS.1 z)).1;omega
 have okF:∀(C:Addr)(wr:Bool),m.heap.size<=C.block->Ok C wr:=λC wr h=>D C wr (.inr h);obtain⟨b,E,off,H,Z,hb,M⟩:∃b E off H,u=.slice b es.length H/\(0<es.length->b=some ⟨E,off,none⟩)/\∀j,j<es.length->m.cell? ⟨E,off+j*2,none⟩=some (.int .i64 (es.getD j (0,.nilFunc)).1)/\Ok ⟨E,off+j*2,none⟩ false:=by
  rcases L.2 with ⟨rfl,rfl⟩|⟨E,off,H,T,rfl,r,r,p,r,Qb⟩
  .simp
  .exact⟨_,E,off,H,rfl,λ_=>rfl,λj r=>⟨by rw[oz p,show off+j*2=off+2*j by omega];exact Qb _ _ (Qg es j r),D _ _ (.inl (by simp[cw,Value.ownBlock]))⟩⟩
 have p:∀g∈cw u,g<m.heap.size:=λg J=>by let⟨_,T,h⟩:=L.lt (bS.1 J);grind
 intro Y F c U hc;have p:m.cell? ⟨A,1,none⟩=some (.slice b es.length H):=Z▸l;clear l;simp only[enter_at _ func47 rfl,ntmps47];walk_nrm;refine F.cF ?_;iterate 3 (refine F.aJ ?_)
 refine F.ow ?_;iterate 2 (refine F.aJ ?_)
 refine F.es ?_;refine F.bl ?_;refine F.ctl (λ_=>stepG_loop) ?_;refine EW F A t (.func fn fst k) m (q:=es.length) Q hb p okr (λj=>(es.getD j (0,.nilFunc)).1) M c U ?_ es.length (az _) (λj E r=>ω) _ _ _ _ _ _ _ _ _ _ _ _ _ _ _ _ _ _ _ _ _ _ _ _ _ _ _ _ _ _ _ _ _ _ _ _ _ _;clear M;intro i hi c b M M M M M M M M M M M M M M M M M M M M M M M M M M M M M M M M M M M M M M;have UT:iM es t i:=⟨λj e E r=>χ,λe E r=>ξ⟩;clear c b;simp only[Ml,f47];have l:=p;clear p;refine F.zA ?_;iterate 4 (refine F.aJ ?_)
 refine F.ow ?_;iterate 4 (refine F.aJ ?_)
 refine F.GV ?_;generalize f:World.alloc m _=w1;generalize n:(World.heap m).size=n1;have b:=gH f n;replace B:=dP B l f;replace l:=bN l f;have S:=aY (i:=0) f n rfl;have ze0:=cy f n 0;have R:=aY (i:=1) f n rfl;have ze1:=cy f n 1;try simp only[sS,sW,sV]at S R
 have G:Kp (cw u) m m [⟨A,1,none⟩]:=Kp.refl _;replace G:=G.yT f;have c:fZ N w1 u es:=(Kp.alloc (L:=[]) f).bA L (λg J=>⟨ψ,ψ⟩);have b:w1.heap[n1]? =some (.cells #[.int .i64 t,.func fn fst k] 143 (0,0)):=by rw[<-n];exact ny f rfl
 refine F.uO func59 ?_;refine CE N n1 i t (.func fn fst k) 143 w1 es Q hi ω (Z▸c) b rfl (λz=>χ) (λC wr h=>D C wr (Z▸h.imp id λh=>ω)) (λC h=>okF C false ω) _ F _ _ (λv w' b=>?_);let⟨ho,W,P⟩:=b;rw[<-Z]at W P;generalize Y7:es.take i++(t,.func fn fst k)::es.drop i=b at ho hc;rw[bQ];try walk_nrm
 have q:=W.cell _ _ V l;have o:=(W.V7 _ _ V l).trans B;replace G:=G.RY W (λx b=>.inl b);let⟨_,_,Uz,b⟩:=id ho.form;have Tp:A∉cw v:=λz=>χ
 have O:∀g∈cw v,g∈cw u\/m.heap.size<=g:=λg J=>(P g J).imp id λy=>ω
 subst Uz;have iL:∀(w:aj)(d:Nat),(w.at d).heap.size=w.heap.size:=λ_ _=>rfl;have size_set:∀(w:aj)(a:Addr)(v:ay),(w.setCell a v).heap.size=w.heap.size:=λw a v=>ψ
 clear l B S R ze0 ze1;iterate 2 (refine F.aJ ?_)
 refine F.op rfl rfl δ (λd K hK=>?_);go_simp;rw[setCell_at'];refine hK _ _ ⟨DX.set _ (by(first|assumption|(apply Hh<;>dsimp only<;>omega))) (λe L=>?_),?_⟩
 .have hm:=mem_listed L;simp[go_sem,storedEv,fD, *]at hm;subst hm;exact .inl ⟨_,rfl,rfl,by(first|assumption|(apply Hh<;>dsimp only<;>omega)),by simp only[iL,size_set];first|omega|exact au (by assumption)⟩
 clear hK K d;try walk_nrm
 generalize s:World.setCell w' _ _=a;have a:=lu s;replace o:=eF o s;replace q:=kP q s;replace G:=G.EH s ψ;refine F.Du func47 ?_;refine hc _ _ ⟨rfl,G,_,i,hi,UT,q,o,?_,O⟩;rw[Y7];exact(Kp.H8 s).bA ho (λg J=>⟨ψ,by simp;exact λz=>Tp (z▸J)⟩)
end Go.Proofs.YtobagnjnbmgidabGreatDoor
