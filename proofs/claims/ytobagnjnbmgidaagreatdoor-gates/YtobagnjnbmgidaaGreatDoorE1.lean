import Derived.Test.YtobagnjnbmgidaaGreatDoorQ0
set_option linter.all false
set_option maxRecDepth 100000
namespace Go.Proofs.YtobagnjnbmgidaaGreatDoor
open Go.Conc Go.RowKit
variable{a:Addr}{B i:Nat}{α:Type}{es:dL}{v:ay}{P:aI}
variable{Ok:dw}{w:aj}
abbrev Env:=List (Nat×Value)
def look:Env->Nat->Option Value
 |[],_=>none
 |(k,v)::E,n=>bif k==n then some v else look E n
def ev(E:Env):Operand->Value
 |.tmp t=>(look E t).getD undef
 |.const v=>v
 |.global g=>.pointer (some ⟨g,0,none⟩)
 |.func f=>.func (.func f) #[] #[]
def kn(E:Env):Operand->Bool
 |.tmp t=>(look E t).isSome
 |_=>true
abbrev Ix:=Nat×Nat
structure aJ where
 ad:Ix->Addr
 vs:List Value
 vl:Nat->Nat->Value
 n:Nat
 k:Nat
 wr:Bool
 row:Option (Nat×TypeId×Nat)
abbrev aX:=List aJ
def aJ.has(r:aJ)(j:Ix):Prop:=j.1<r.n/\j.2<r.k
def nth:List aJ->Nat->Option aJ
 |[],_=>none
 |r::_,0=>some r
 |_::l,n+1=>nth l n
def cD:List aJ->Nat->aJ->List aJ
 |[],_,_=>[]
 |_::l,0,r=>r::l
 |x::l,n+1,r=>x::cD l n r
def plain:Value->Bool
 |.agg _=>false
 |.tuple _=>false
 |_=>true
def eH(f:Nat->Nat->Value)(j l:Nat)(x:ay):Nat->Nat->Value:=λa b=>bif b==l&&a==j then x else f a b
def aJ.get(r:aJ)(j:Ix):Value:=match r.vs with
 |[]=>r.vl j.1 j.2
 |v::vs=>(v::vs).getD j.2 undef
def aJ.set(r:aJ)(j:Ix)(x:ay):aJ:=match r.vs with
 |[]=>⟨r.ad,[],eH r.vl j.1 j.2 x,r.n,r.k,r.wr,r.row⟩
 |v::vs=>⟨r.ad,(v::vs).set j.2 x,r.vl,r.n,r.k,r.wr,r.row⟩
def aJ.may(r:aJ)(j:Ix):Bool:=match r.vs with
 |[]=>true
 |v::vs=>Nat.blt j.2 (v::vs).length&&r.n==1
theorem aJ.zP(r:aJ)(j:Ix)(x:ay):(r.set j x).ad=r.ad:=by unfold aJ.set;split<;>rfl
theorem aJ.Rc(r:aJ)(j:Ix)(x:ay):(r.set j x).n=r.n:=by unfold aJ.set;split<;>rfl
theorem aJ.Re(r:aJ)(j:Ix)(x:ay):(r.set j x).k=r.k:=by unfold aJ.set;split<;>rfl
theorem aJ.Fq(r:aJ)(j:Ix)(x:ay):(r.set j x).wr=r.wr:=by unfold aJ.set;split<;>rfl
theorem aJ.I6(r:aJ)(j:Ix)(x:ay):(r.set j x).row=r.row:=by unfold aJ.set;split<;>rfl
theorem aJ.vH(r:aJ)(j:Ix)(x:ay)(k:Ix):(r.set j x).has k↔r.has k:=by unfold aJ.has;rw[aJ.Rc,aJ.Re]
theorem aJ.J8(r:aJ)(j k:Ix)(x:ay)(s:r.may j=true)(hj:r.has j)(hk:r.has k):(r.set j x).get k=if k=j then x else r.get k:=by
 obtain⟨l,b⟩:=j;obtain⟨h,d⟩:=k;obtain⟨ad,vs,vl,n,c,wr,m⟩:=r;cases vs with
 |nil=>
  simp only[aJ.set,aJ.get,eH]
  by_cases e:h=l/\d=b
  .obtain⟨rfl,rfl⟩:=e;simp
  .have C:(d==b&&h==l)=false:=by
    cases q:(h==l)with
    |false=>simp
    |true=>cases o:(d==b)with
     |false=>rfl
     |true=>exact absurd ⟨by simpa using q,by simpa using o⟩ e
   rw[C,af (by simpa using e)];rfl
 |cons v vs=>
  simp only[aJ.may,cq]at s;obtain⟨q,o⟩:=s;have p:b<(v::vs).length:=by simpa using q
  have D:n=1:=by simpa using o
  have A:l=0:=by have:=hj.1;simp at this;omega
  have y:h=0:=by have:=hk.1;simp at this;omega
  subst A;subst y;have f:∃u us,(v::vs).set b x=u::us:=by cases b<;>exact⟨_,_,rfl⟩
  obtain⟨u,us,t⟩:=f
  have g:(aJ.set ⟨ad,v::vs,vl,n,c,wr,m⟩ (0,b) x).get (0,d)=((v::vs).set b x).getD d undef:=by
   simp only[aJ.set,aJ.get,t]
  rw[g]
  by_cases e2:d=b
  .subst e2;rw[ah rfl,o8,List.getElem?_set_self p];rfl
  .rw[af (by simp[e2])]
   simp only[aJ.get,o8,List.getElem?_set_ne (λz=>e2 z.symm)]
abbrev Hint:=Nat×Ix×Bool
structure l6 where
 hs:List Hint
 M:List aJ
 c:Nat
 eqs:List (Addr×Addr)
 cT:List (Nat×Nat)
def l6.zl(m:l6)(hs:List Hint)(M:List aJ)(a b:Addr)(l:Bool)(j n:Nat):l6:=⟨hs,M,m.c,(a,b)::m.eqs,bif l then m.cT else(j,n)::m.cT⟩
def lf(b:Nat)(t:TypeId)(cs:fW):aJ:=⟨λj=>⟨b,j.2,none⟩,cs.toList,λ_ _=>undef,1,cs.size,true,match cs.toList with|[]=>none|_::_=>some (b,t,cs.size)⟩
def dy{α:Type}(P:aI)(B:Nat):Sem α->l6->Option (α×l6)
 |.pure a,s=>some (a,s)
 |.load _ a k,s=>match s.hs with
  |(i,j,l)::hs=>match nth s.M i with
   |some r=>bif Nat.blt j.2 r.k&&(!l||Nat.blt j.1 r.n)then dy P B (k (r.get j)) (s.zl hs s.M a (r.ad j) l j.1 r.n)else none
   |none=>none
  |[]=>none
 |.store _ a v k,s=>match s.hs with
  |(i,j,l)::hs=>match nth s.M i with
   |some r=>bif r.wr&&plain v&&r.may j&&(Nat.blt j.2 r.k&&(!l||Nat.blt j.1 r.n))then dy P B k (s.zl hs (cD s.M i (r.set j v)) a (r.ad j) l j.1 r.n)else none
   |none=>none
  |[]=>none
 |.new o k,s=>match o with
  |.cells cs t (0,0)=>dy P B (k (B+s.c)) {s with M:=lf (B+s.c) t cs::s.M,c:=s.c+1}
  |_=>none
 |.program k,s=>dy P B (k P) s
 |.mark (.extern _) k,s=>dy P B k s
 |_,_=>none
def cS{α:Type}(P:aI):Sem α->Option α
 |.pure a=>some a
 |.program k=>cS P (k P)
 |_=>none
def p8(w:aj)(g:Nat)(e:TypeId)(n:Nat):Prop:=∃cur,w.heap[g]? =some (.cells cur e (0,0))/\cur.size=n
theorem p8.set{g n:Nat}{e:TypeId}(h:p8 w g e n)(a:Addr)(v:ay):p8 (w.setCell a v) g e n:=by
 obtain⟨cur,c,b⟩:=h;unfold p8;simp only[World.setCell,rA,c]
 split
 .refine⟨_,rfl,?_⟩
  split
  .exact b
  .rw[zD];exact b
 .exact⟨cur,rfl,b⟩
theorem p8.alloc{w:aj}{g n:Nat}{e:TypeId}(h:p8 w g e n)(o:Obj):p8 (w.alloc o) g e n:=by
 obtain⟨cur,b,c⟩:=h;exact⟨cur,by rw[Below.heap_alloc _ _ _ ((cH.1 b).1)];exact b,c⟩
structure Sat(Ok:dw)(w:aj)(M:List aJ):Prop where
 val:∀i r,nth M i=some r->∀j,r.has j->w.cell? (r.ad j)=some (r.get j)
 ok:∀i r,nth M i=some r->∀j,r.has j->Ok (r.ad j) false/\(r.wr=true->Ok (r.ad j) true/\w.frozen? (r.ad j)=false)
 sep:∀i r i' r',nth M i=some r->nth M i'=some r'->r.wr=true->∀j j',r.has j->r'.has j'->r.ad j=r'.ad j'->i=i'/\j=j'
 row:∀i r,nth M i=some r->∀g e n,r.row=some (g,e,n)->r.has (0,0)/\(r.ad (0,0)).block=g/\p8 w g e n
def Wr(M:List aJ)(a:Addr):Prop:=∃i r j,nth M i=some r/\r.wr=true/\r.has j/\r.ad j=a
structure Fr(W:Addr->Prop)(w w':aj):Prop where
 size:w.heap.size<=w'.heap.size
 cell:∀a:Addr,a.block<w.heap.size->¬W a->w'.cell? a=w.cell? a/\w'.frozen? a=w.frozen? a
 blk:∀k:Nat,k<w.heap.size->(∀a:Addr,a.block=k->¬W a)->w'.heap[k]? =w.heap[k]?
 obj:∀(c:Nat)(o:Obj),w.heap[c]? =some o->(∀cs t f,o≠Obj.cells cs t f)->w'.heap[c]? =some o
 row:∀g e n,p8 w g e n->p8 w' g e n
theorem Fr.refl(W:Addr->Prop)(w:aj):Fr W w w:=⟨az _,λ_ _ _=>⟨rfl,rfl⟩,λ_ _ _=>rfl,λ_ _ h _=>h,λ_ _ _ h=>h⟩
theorem Fr.trans{W r:Addr->Prop}{w l j:aj}(h:Fr W w l)(d:Fr r l j)(m:∀a,r a->W a\/w.heap.size<=a.block):Fr W w j:=by
 refine⟨aT h.size d.size,λa f b=>?_,λk hk b=>?_,λc o ho b=>d.obj c o (h.obj c o ho b) b,λg e n z=>d.row g e n (h.row g e n z)⟩
 .have q:=h.cell a f b
  have p:=d.cell a (c7 f h.size) (λx=>(m a x).elim b (by omega));exact⟨p.1.trans q.1,p.2.trans q.2⟩
 .rw[<-h.blk k hk b]
  exact d.blk k (c7 hk h.size) (λa f x=>(m a x).elim (b a f) (by omega))
theorem DX.trans{Ok:dw}{w l j:aj}{e1 e2:dL}(h:DX Ok w l e1)(b:DX Ok l j e2):DX Ok w j (e1++e2):=by
 refine⟨λe n=>?_,aT h.size b.size,λc o ho d=>b.obj c o (h.obj c o ho d) d,λa d m=>?_,λk hk d=>?_,?_⟩
 .rcases nU.1 n with x|x
  .rcases h.ev e x with ⟨a,g,f,q,p⟩|y
   .exact .inl ⟨a,g,f,q,c7 p b.size⟩
   .exact .inr y
  .exact b.ev e x
 .have g:=h.cell a d m
  have f:=b.cell a d (c7 m h.size);exact⟨f.1.trans g.1,f.2.trans g.2⟩
 .rw[<-h.blk k hk d]
  exact b.blk k (c7 hk h.size) d
 .exact⟨b.rest.1.trans h.rest.1,b.rest.2.1.trans h.rest.2.1,b.rest.2.2.trans h.rest.2.2⟩
theorem dP:∀(M:List aJ)(i:Nat)(r:aJ)(k:Nat),nth (cD M i r) k=if k=i then(nth M i).map (λ_=>r)else nth M k
 |[],i,r,k=>by simp[cD,nth]
 |x::l,0,r,k=>by cases k<;>simp[cD,nth]
 |x::l,i+1,r,k=>by
  cases k with
  |zero=>simp[cD,nth]
  |succ k=>simp[cD,nth,dP l i r k]
theorem cB{M:List aJ}{R s:aJ}{k:Nat}(h:nth (R::M) k=some s):(∃b,k=b+1/\nth M b=some s)\/(k=0/\s=R):=by
 cases k with
 |zero=>simp[nth]at h;exact .inr ⟨rfl,h.symm⟩
 |succ k=>exact .inl ⟨k,rfl,h⟩
theorem qO:∀(M:List aJ)(k:Nat)(r:aJ),nth M k=some r->k<M.length
 |[],k,r=>by simp[nth]
 |x::l,0,r=>by simp
 |x::l,k+1,r=>λh=>by have:=qO l k r h;simp;omega
section
variable{M:List aJ}
theorem Sat.lt(h:Sat Ok w M){r:aJ}(b:nth M i=some r){j:Ix}(hj:r.has j):(r.ad j).block<w.heap.size:=au (h.val i r b j hj)
theorem Sat.set(h:Sat Ok w M){i:Nat}{r:aJ}(o:nth M i=some r)(H:r.wr=true){j:Ix}(hj:r.has j)(L:r.may j=true)(v:ay):
 Sat Ok (w.setCell (r.ad j) v) (cD M i (r.set j v)):=by
 have key:∀k s,nth (cD M i (r.set j v)) k=some s->∃b,nth M k=some b/\s.ad=b.ad/\(∀l,s.has l->b.has l)/\s.wr=b.wr/\(k=i->s=r.set j v/\b=r)/\(k≠i->s=b):=by
  intro k s hk;rw[dP]at hk
  split at hk
  .rename_i e;subst e;rw[o]at hk;simp at hk;subst hk
   exact⟨r,o,aJ.zP ..,λl h=>(aJ.vH ..).1 h,aJ.Fq ..,λ_=>⟨rfl,rfl⟩,λx=>absurd rfl x⟩
  .rename_i e;exact⟨s,hk,rfl,λ_ h=>h,rfl,λx=>absurd x e,λ_=>rfl⟩
 have hc:=h.val i r o j hj;refine⟨λk s hk l hl=>?_,λk s hk l hl=>?_,λk s G K hk D A l F hl C I=>?_,λk s hk g e n E=>?_⟩
 .obtain⟨b,d,e1,e2,t,q,p⟩:=key k s hk
  by_cases c:k=i
  .obtain⟨f1,f2⟩:=q c;subst c;subst f2
   rw[e1,f1,aJ.J8 _ _ _ _ L hj (e2 l hl)]
   by_cases m:l=j
   .subst m
    rw[World.cell?_setCell_same' _ _ _ (by rw[hc];rfl)];simp
   .have f:b.ad j≠b.ad l:=λe=>m (h.sep k b k b o o H j l hj (e2 l hl) e).2.symm
    rw[qu _ _ _ _ f,af m];exact h.val k b o l (e2 l hl)
  .obtain rfl:=p c
   have f:r.ad j≠s.ad l:=λe=>c (h.sep i r k s o d H j l hj hl e).1.symm
   rw[qu _ _ _ _ f];exact h.val k s d l hl
 .obtain⟨b,d,e1,e2,t,q,p⟩:=key k s hk
  rw[e1,t,rB];exact h.ok k b d l (e2 l hl)
 .obtain⟨b,d,e1,e2,t,q,p⟩:=key k s hk
  obtain⟨J,N,f1,f2,f3,f4,f5⟩:=key G K D;rw[e1,f1]at I;exact h.sep k b G J d N (by rw[<-t];exact A) l F (e2 l hl) (f2 F C) I
 .obtain⟨b,d,e1,e2,t,q,p⟩:=key k s hk
  by_cases c:k=i
  .obtain⟨f1,f2⟩:=q c;subst c;subst f2;subst f1
   rw[aJ.I6]at E;obtain⟨z,y,u⟩:=h.row k b d g e n E;exact⟨(aJ.vH ..).2 z,by rw[aJ.zP];exact y,u.set _ _⟩
  .obtain rfl:=p c
   obtain⟨z,y,u⟩:=h.row k s d g e n E;exact⟨z,y,u.set _ _⟩
theorem Sat.new(h:Sat Ok w M)(cs:fW)(t:TypeId)(m:∀(a:Addr)(wr:Bool),w.heap.size<=a.block->Ok a wr):Sat Ok (w.alloc (.cells cs t (0,0))) (lf w.heap.size t cs::M):=by
 refine⟨λk s hk l hl=>?_,λk s hk l hl=>?_,λk s H C hk o q l u hl b p=>?_,λk s hk g e n f=>?_⟩
 .rcases cB hk with ⟨d,_,c⟩|⟨_,rfl⟩
  .rw[Iv _ _ _ (h.lt c hl)];exact h.val d s c l hl
  .have b:l.2<cs.size:=hl.2
   show(w.alloc (.cells cs t (0,0))).cell? ⟨w.heap.size,l.2,none⟩=some (aJ.get (lf w.heap.size t cs) l)
   have f:aJ.get (lf w.heap.size t cs) l=cs.toList.getD l.2 undef:=by
    cases hc:cs.toList with
    |nil=>have:cs.toList.length=0:=by rw[hc];rfl
          rw[xp]at this;omega
    |cons v vs=>simp only[lf,aJ.get,hc]
   rw[World.cell?_alloc_mark,f];simp[b]
 .rcases cB hk with ⟨d,_,c⟩|⟨_,rfl⟩
  .have D:(w.alloc (.cells cs t (0,0))).frozen? (s.ad l)=w.frozen? (s.ad l):=World.frozen?_alloc_past _ _ _ (h.lt c hl)
   rw[D];exact h.ok d s c l hl
  .refine⟨m _ _ (az _),λ_=>⟨m _ _ (az _),?_⟩⟩
   show(w.alloc (.cells cs t (0,0))).frozen? ⟨w.heap.size,l.2,none⟩=false
   rw[World.frozen?_alloc_mark];simp
 .rcases cB hk with ⟨d,I,c⟩|⟨e1,rfl⟩
  .rcases cB o with ⟨x,G,j⟩|⟨e2,rfl⟩
   .have:=h.sep d s x C c j q l u hl b p;exact⟨by omega,this.2⟩
   .have:=h.lt c hl
    rw[p]at this;exact absurd this (Bc _)
  .rcases cB o with ⟨x,G,j⟩|⟨e2,rfl⟩
   .have:=h.lt j b
    rw[<-p]at this;exact absurd this (Bc _)
   .refine⟨e1.trans e2.symm,?_⟩
    have E:l.2=u.2:=cP Addr.off p;have F:=hl.1;have r:=b.1;simp only[lf]at F r;exact uu (by omega) E
 .rcases cB hk with ⟨d,_,c⟩|⟨_,rfl⟩
  .obtain⟨A,z,y⟩:=h.row d s c g e n f
   exact⟨A,z,y.alloc _⟩
  .simp only[lf]at f
   split at f
   .cases f
   .rename_i v vs hc
    cases f
    have:cs.toList.length=vs.length+1:=by rw[hc];rfl
    rw[xp]at this;refine⟨⟨aG,by simp only[lf];omega⟩,rfl,cs,?_,rfl⟩
    show(w.heap.push (.cells cs t (0,0)))[w.heap.size]? =_
    rw[Array.getElem?_push_size]
end
theorem zU{m:Mode}{k:Sem α}{x:ay}(b:plain v=true)(hc:w.cell? a=some x)(c:w.frozen? a=false):
 (Sem.store m a v k).runT P w es=k.runT P (w.setCell a v) (es.push ⟨.cell a,true,m==.atomic⟩):=by
 cases v<;>first|(simp[plain]at b;done)|simp[Sem.runT,hc,c]
theorem aD{β:Type}{c:Bool}{x:Option β}{y:β}(h:(bif c then x else none)=some y):c=true/\x=some y:=by
 cases c with
 |false=>cases h
 |true=>exact⟨rfl,h⟩
theorem gA:∀(s:Sem α)(m e:l6)(x:α),dy P B s m=some (x,e)->(∀p∈m.eqs,p∈e.eqs)/\(∀p∈m.cT,p∈e.cT):=by
 have c:∀(m:l6)(q:List Hint)(M:List aJ)(a b:Addr)(l:Bool)(j n:Nat),(∀p∈m.eqs,p∈(m.zl q M a b l j n).eqs)/\(∀p∈m.cT,p∈(m.zl q M a b l j n).cT):=λm q M a b l j n=>
  ⟨λp d=>aO _ d,λp d=>by cases l<;>simp[l6.zl,d]⟩
 intro s
 induction s with
 |pure a=>intro m e x h;simp[dy]at h;obtain⟨rfl,rfl⟩:=h;exact⟨λ_ h=>h,λ_ h=>h⟩
 |load md a k f=>
  intro m e x h;simp only[dy]at h
  split at h
  .split at h
   .obtain⟨_,h⟩:=aD h
    have g:=f _ _ _ _ h;exact⟨λp d=>g.1 p ((c _ _ _ _ _ _ _ _).1 p d),λp d=>g.2 p ((c _ _ _ _ _ _ _ _).2 p d)⟩
   .cases h
  .cases h
 |store md a v k f=>
  intro m e x h;simp only[dy]at h
  split at h
  .split at h
   .obtain⟨_,h⟩:=aD h
    have g:=f _ _ _ h;exact⟨λp d=>g.1 p ((c _ _ _ _ _ _ _ _).1 p d),λp d=>g.2 p ((c _ _ _ _ _ _ _ _).2 p d)⟩
   .cases h
  .cases h
 |new o k f=>
  intro m e x h;simp only[dy]at h
  split at h
  .have g:=f _ _ _ _ h
   exact g
  .cases h
 |program k f=>intro m e x h;exact f _ _ _ _ h
 |mark mk k f=>
  intro m e x h;cases mk<;>simp only[dy]at h<;>first|exact f _ _ _ h|cases h
 |_=>intros;simp_all [dy]
structure Inv(Ok:dw)(B:Nat)(w:aj)(m:l6):Prop where
 sat:Sat Ok w m.M
 sz:w.heap.size=B+m.c
theorem Wr.put{M:List aJ}{r:aJ}{l:Ix}(g:nth M i=some r)(h:Wr (cD M i (r.set l v)) a):Wr M a:=by
 obtain⟨k,s,j,b,f,d,c⟩:=h;rw[dP]at b
 split at b
 .rename_i e;subst e;rw[g]at b;simp at b;subst b;rw[aJ.Fq]at f;rw[aJ.vH]at d;rw[aJ.zP]at c;exact⟨k,r,j,g,f,d,c⟩
 .exact⟨k,s,j,b,f,d,c⟩
theorem Wr.cons{M:List aJ}{b:Nat}{t:TypeId}{cs:fW}(h:Wr (lf b t cs::M) a):Wr M a\/b<=a.block:=by
 obtain⟨k,s,j,g,f,e,c⟩:=h;rcases cB g with ⟨d,_,l⟩|⟨_,rfl⟩
 .exact .inl ⟨d,s,j,l,f,e,c⟩
 .subst c;exact .inr (az _)
theorem ya{x:Event}{S:dL}(h:∀e∈es,e∈S\/jX e):∀e∈#[x]++es,e∈#[x]++S\/jX e:=λe b=>by
 rcases nU.1 b with z|z
 .exact .inl (nU.2 (.inl z))
 .exact(h e z).imp_left λy=>nU.2 (.inr y)
theorem BB(hB:∀(a:Addr)(wr:Bool),B<=a.block->Ok a wr):∀(s:Sem α)(m F:l6)(x:α),dy P B s m=some (x,F)->
 (∀p∈F.eqs,p.1=p.2)->(∀p∈F.cT,p.1<p.2)->∀(w:aj)(es:dL),Inv Ok B w m->
 ∃w' c S,Inv Ok B w' F/\(∀d,s.runT P (w.at d) es=(.ok x (w'.at d),es++c))/\((∀e∈c,e∈S\/jX e)/\∀d,DX Ok (w.at d) (w'.at d) S)/\Fr (Wr m.M) w w'/\(∀a,Wr F.M a->Wr m.M a\/w.heap.size<=a.block):=by
 intro s
 induction s with
 |pure a=>
  intro m F x h E q w es u;simp[dy]at h;obtain⟨rfl,rfl⟩:=h;exact⟨w,#[],#[],u,λd=>by simp[Sem.runT],⟨by simp,λd=>DX.still d (by simp)⟩,Fr.refl _ _,λ_ h=>.inl h⟩
 |load md a k I=>
  intro m F x h E q w es u;simp only[dy]at h
  split at h
  .rename_i i j l Z U
   split at h
   .rename_i r L
    obtain⟨hc,h⟩:=aD h;have C:=gA _ _ _ _ h;have ea:a=r.ad j:=E (a,r.ad j) (C.1 (a,r.ad j) (by simp[l6.zl]));simp only[cq]at hc
    have hj:r.has j:=by
     refine⟨?_,by simpa using hc.1⟩;cases l with
     |true=>simpa using hc.2
     |false=>exact q (j.1,r.n) (C.2 (j.1,r.n) (by simp[l6.zl]))
    subst ea;have N:=u.sat.val i r L j hj;obtain⟨w',c,S,A,y,D,K,J⟩:=I _ _ _ _ h E q w (es.push ⟨.cell (r.ad j),false,md==.atomic⟩) ⟨u.sat,u.sz⟩;refine⟨w',#[⟨.cell (r.ad j),false,md==.atomic⟩]++c,#[⟨.cell (r.ad j),false,md==.atomic⟩]++S,A,λd=>?_,⟨ya D.1,λd=>DX.trans (DX.still d (λe C=>?_)) (D.2 d)⟩,K,J⟩
    .have T:(w.at d).cell? (r.ad j)=some (r.get j):=N
     simp only[Sem.runT,T];rw[y d];simp[<-ry]
    .simp at C;subst C;exact jB N (u.sat.ok i r L j hj).1
   .cases h
  .cases h
 |store md a v k I=>
  intro m F x h E q w es u;simp only[dy]at h
  split at h
  .rename_i i j l Z U
   split at h
   .rename_i r L
    obtain⟨hc,h⟩:=aD h;have C:=gA _ _ _ _ h;have ea:a=r.ad j:=E (a,r.ad j) (C.1 (a,r.ad j) (by simp[l6.zl]));simp only[cq]at hc;obtain⟨⟨⟨R,hp⟩,O⟩,hc⟩:=hc
    have hj:r.has j:=by
     refine⟨?_,by simpa using hc.1⟩;cases l with
     |true=>simpa using hc.2
     |false=>exact q (j.1,r.n) (C.2 (j.1,r.n) (by simp[l6.zl]))
    subst ea;have N:=u.sat.val i r L j hj;have ho:=(u.sat.ok i r L j hj).2 R;have G:(w.setCell (r.ad j) v).heap.size=w.heap.size:=by simp[World.setCell]
    obtain⟨w',c,S,A,y,D,K,J⟩:=I _ _ _ h E q (w.setCell (r.ad j) v) (es.push ⟨.cell (r.ad j),true,md==.atomic⟩) ⟨u.sat.set L R hj O v,G.trans u.sz⟩;have Q:∀b,Wr (cD m.M i (r.set j v)) b->Wr m.M b:=λb q=>q.put L
    have V:Fr (Wr m.M) w (w.setCell (r.ad j) v):=by
     have H:=DX.set (Ok:=λa wr=>wr=true->Wr m.M a) (w:=w) (es:=#[]) (v:=v) 0 (a:=r.ad j) (λ_=>⟨i,r,j,L,R,hj,rfl⟩) (by simp);exact⟨H.size,λb A y=>H.cell b (λz=>y (z rfl)) A,λk A y=>H.blk k A (λb e z=>y b e (z rfl)),H.obj,λg e n z=>z.set _ _⟩
    refine⟨w',#[⟨.cell (r.ad j),true,md==.atomic⟩]++c,#[⟨.cell (r.ad j),true,md==.atomic⟩]++S,A,λd=>?_,⟨ya D.1,λd=>DX.trans (DX.set d ho.1 (λe C=>?_)) (D.2 d)⟩,V.trans K (λb q=>.inl (Q b q)),λb q=>(J b q).imp (Q b) (λz=>by rw[G]at z;exact z)⟩
    .rw[zU (P:=P) (w:=w.at d) hp (show(w.at d).cell? (r.ad j)=some (r.get j)from N) ho.2]
     show Sem.runT P k ((w.setCell (r.ad j) v).at d) _=_
     rw[y d];simp[<-ry]
    .simp at C;subst C
     exact jB (w:=w.setCell (r.ad j) v) (World.cell?_setCell_same' _ _ _ (by rw[N];rfl)) ho.1
   .cases h
  .cases h
 |new o k I=>
  intro m F x h E q w es u;simp only[dy]at h
  split at h
  .rename_i cs t
   have W:∀(a:Addr)(wr:Bool),w.heap.size<=a.block->Ok a wr:=λa wr z=>hB a wr (by rw[u.sz]at z;omega)
   have X:=u.sat.new cs t W;rw[u.sz]at X;have G:(w.alloc (.cells cs t (0,0))).heap.size=w.heap.size+1:=Array.size_push _;obtain⟨w',c,S,A,y,D,K,J⟩:=I _ _ _ _ h E q (w.alloc (.cells cs t (0,0))) es ⟨X,by rw[G,u.sz,Nat.add_assoc]⟩;have H:=DX.alloc (Ok:=Ok) (w:=w) (es:=#[])
   have V:Fr (Wr m.M) w (w.alloc (.cells cs t (0,0))):=by
    have H:=DX.alloc (Ok:=λa wr=>wr=true->Wr m.M a) (w:=w) (es:=#[]) 0 (.cells cs t (0,0)) (by simp);exact⟨H.size,λb A y=>H.cell b (λz=>y (z rfl)) A,λk A y=>H.blk k A (λb e z=>y b e (z rfl)),H.obj,λg e n z=>z.alloc _⟩
   have Q:∀b,Wr (lf (B+m.c) t cs::m.M) b->Wr m.M b\/w.heap.size<=b.block:=λb q=>(Wr.cons q).imp id (λz=>by rw[u.sz];exact z)
   refine⟨w',c,S,A,λd=>?_,⟨D.1,λd=>?_⟩,V.trans K Q,λb q=>(J b q).elim (Q b) (λz=>.inr (by rw[G]at z;omega))⟩
   .have Y:(w.at d).heap.size=B+m.c:=u.sz
    simp only[Sem.runT,Y];exact y d
   .have:=DX.trans (H d (.cells cs t (0,0)) (by simp)) (D.2 d)
    simpa using this
  .cases h
 |program k I=>
  intro m F x h E q w es u;obtain⟨w',c,S,A,y,D,K,J⟩:=I _ _ _ _ h E q w es u;exact⟨w',c,S,A,λd=>by simp only[Sem.runT];exact y d,D,K,J⟩
 |mark mk k I=>
  intro m F x h E q w es u;cases mk<;>try(simp only[dy]at h;cases h;done)
  rename_i f
  simp only[dy]at h;obtain⟨w',c,S,A,y,D,K,J⟩:=I _ _ _ h E q w (es.push ⟨.mark (.extern f),false,true⟩) u;refine⟨w',#[⟨.mark (.extern f),false,true⟩]++c,S,A,λd=>?_,⟨λe C=>?_,D.2⟩,K,J⟩
  .simp only[Sem.runT];rw[y d];simp[<-ry]
  .rcases nU.1 C with z|z
   .simp at z;rw[z];exact .inr (D7 f)
   .exact D.1 e z
 |_=>intros;simp_all [dy]
theorem fP:∀(s:Sem α)(x:α),cS P s=some x->∀(w:aj)(es:dL),s.runT P w es=(.ok x w,es):=by
 intro s
 induction s with
 |pure a=>intro x h w es;simp[cS]at h;subst h;simp[Sem.runT]
 |program k b=>intro x h w es;simp only[Sem.runT];exact b _ _ h w es
 |_=>intros;simp_all [cS]
end Go.Proofs.YtobagnjnbmgidaaGreatDoor
