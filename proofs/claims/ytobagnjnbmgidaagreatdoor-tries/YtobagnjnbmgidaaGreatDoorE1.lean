import Derived.Test.YtobagnjnbmgidaaGreatDoorQ0
set_option linter.all false
set_option maxRecDepth 100000
namespace Go.Proofs.YtobagnjnbmgidaaGreatDoor
open Go.Conc Go.RowKit
abbrev Env:=List (Nat×Value)
def look:Env→Nat→Option Value
 |[],_=>none
 |(k,v)::E,n=>bif k==n then some v else look E n
def ev(E:Env):Operand→Value
 |.tmp t=>(look E t).getD undef
 |.const v=>v
 |.global g=>.pointer (some ⟨g,0,none⟩)
 |.func f=>.func (.func f) #[] #[]
def kn(E:Env):Operand→Bool
 |.tmp t=>(look E t).isSome
 |_=>true
abbrev Ix:=Nat×Nat
structure ah where
 ad:Ix→Addr
 vs:List Value
 vl:Nat→Nat→Value
 n:Nat
 k:Nat
 wr:Bool
 row:Option (Nat×TypeId×Nat)
def ah.has(r:ah)(j:Ix):Prop:=j.1<r.n∧j.2<r.k
def nth:List ah→Nat→Option ah
 |[],_=>none
 |r::_,0=>some r
 |_::l,n+1=>nth l n
def gM:List ah→Nat→ah→List ah
 |[],_,_=>[]
 |_::l,0,r=>r::l
 |x::l,n+1,r=>x::gM l n r
def plain:Value→Bool
 |.agg _=>false
 |.tuple _=>false
 |_=>true
def vf(f:Nat→Nat→Value)(j l:Nat)(x:Value):Nat→Nat→Value:=fun a b=>bif a==j&&b==l then x else f a b
def ah.get(r:ah)(j:Ix):Value:=match r.vs with
 |[]=>r.vl j.1 j.2
 |v::vs=>(v::vs).getD j.2 undef
def ah.set(r:ah)(j:Ix)(x:Value):ah:=match r.vs with
 |[]=>⟨r.ad,[],vf r.vl j.1 j.2 x,r.n,r.k,r.wr,r.row⟩
 |v::vs=>⟨r.ad,(v::vs).set j.2 x,r.vl,r.n,r.k,r.wr,r.row⟩
def ah.may(r:ah)(j:Ix):Bool:=match r.vs with
 |[]=>true
 |v::vs=>Nat.blt j.2 (v::vs).length&&r.n==1
theorem ah.z8(r:ah)(j:Ix)(x:Value):(r.set j x).ad=r.ad:=by unfold ah.set;split<;>rfl
theorem ah.Qx(r:ah)(j:Ix)(x:Value):(r.set j x).n=r.n:=by unfold ah.set;split<;>rfl
theorem ah.Qy(r:ah)(j:Ix)(x:Value):(r.set j x).k=r.k:=by unfold ah.set;split<;>rfl
theorem ah.FQ(r:ah)(j:Ix)(x:Value):(r.set j x).wr=r.wr:=by unfold ah.set;split<;>rfl
theorem ah.Jo(r:ah)(j:Ix)(x:Value):(r.set j x).row=r.row:=by unfold ah.set;split<;>rfl
theorem ah.wx(r:ah)(j:Ix)(x:Value)(k:Ix):(r.set j x).has k↔r.has k:=by unfold ah.has;rw[ah.Qx,ah.Qy]
theorem ah.Ks(r:ah)(j k:Ix)(x:Value)(hm:r.may j=true)(hj:r.has j)(hk:r.has k):(r.set j x).get k=if k=j then x else r.get k:=by
 obtain⟨j1,j2⟩:=j;obtain⟨k1,k2⟩:=k;obtain⟨ad,vs,vl,n,c,wr,rw'⟩:=r;cases vs with
 |nil=>
  simp only[ah.set,ah.get,vf]
  by_cases e:k1=j1∧k2=j2
  ·obtain⟨rfl,rfl⟩:=e;simp
  ·have e':(k1==j1&&k2==j2)=false:=by
    cases h1:(k1==j1) with
    |false=>rfl
    |true=>cases h2:(k2==j2) with
     |false=>rfl
     |true=>exact absurd ⟨by simpa using h1,by simpa using h2⟩ e
   rw[e',if_neg (by simpa using e)];rfl
 |cons v vs=>
  simp only[ah.may,Bool.and_eq_true] at hm;obtain⟨h1,h2⟩:=hm;have iq:j2<(v::vs).length:=by simpa using h1
  have hn:n=1:=by simpa using h2
  have ej:j1=0:=by have:=hj.1;simp at this;omega
  have ek:k1=0:=by have:=hk.1;simp at this;omega
  subst ej;subst ek;have Wi:∃u us,(v::vs).set j2 x=u::us:=by cases j2<;>exact⟨_,_,rfl⟩
  obtain⟨u,us,hu⟩:=Wi
  have W1:(ah.set ⟨ad,v::vs,vl,n,c,wr,rw'⟩ (0,j2) x).get (0,k2)=((v::vs).set j2 x).getD k2 undef:=by
   simp only[ah.set,ah.get,hu]
  rw[W1]
  by_cases e2:k2=j2
  ·subst e2;rw[if_pos rfl,List.getD_eq_getElem?_getD,List.getElem?_set_self iq];rfl
  ·rw[if_neg (by simp[e2])]
   simp only[ah.get,List.getD_eq_getElem?_getD,List.getElem?_set_ne (fun z=>e2 z.symm)]
abbrev Hint:=Nat×Ix×Bool
structure mJ where
 hs:List Hint
 M:List ah
 c:Nat
 eqs:List (Addr×Addr)
 aZ:List (Nat×Nat)
def mJ.zE(m:mJ)(hs:List Hint)(M:List ah)(a b:Addr)(l:Bool)(j n:Nat):mJ:=⟨hs,M,m.c,(a,b)::m.eqs,bif l then m.aZ else(j,n)::m.aZ⟩
def lK(b:Nat)(t:TypeId)(cs:Array Value):ah:=⟨fun j=>⟨b,j.2,none⟩,cs.toList,fun _ _=>undef,1,cs.size,true,match cs.toList with|[]=>none|_::_=>some (b,t,cs.size)⟩
def dK{α:Type}(P:Program)(B:Nat):Sem α→mJ→Option (α×mJ)
 |.pure a,s=>some (a,s)
 |.load _ a k,s=>match s.hs with
  |(i,j,l)::hs=>match nth s.M i with
   |some r=>bif Nat.blt j.2 r.k&&(!l||Nat.blt j.1 r.n) then dK P B (k (r.get j)) (s.zE hs s.M a (r.ad j) l j.1 r.n) else none
   |none=>none
  |[]=>none
 |.store _ a v k,s=>match s.hs with
  |(i,j,l)::hs=>match nth s.M i with
   |some r=>bif r.wr&&plain v&&r.may j&&(Nat.blt j.2 r.k&&(!l||Nat.blt j.1 r.n)) then dK P B k (s.zE hs (gM s.M i (r.set j v)) a (r.ad j) l j.1 r.n) else none
   |none=>none
  |[]=>none
 |.new o k,s=>match o with
  |.cells cs t (0,0)=>dK P B (k (B+s.c)) {s with M:=lK (B+s.c) t cs::s.M,c:=s.c+1}
  |_=>none
 |.program k,s=>dK P B (k P) s
 |.mark (.extern _) k,s=>dK P B k s
 |_,_=>none
def cY{α:Type}(P:Program):Sem α→Option α
 |.pure a=>some a
 |.program k=>cY P (k P)
 |_=>none
def qM(w:World)(g:Nat)(e:TypeId)(n:Nat):Prop:=∃cur,w.heap[g]? =some (.cells cur e (0,0))∧cur.size=n
theorem qM.set{w:World}{g n:Nat}{e:TypeId}(h:qM w g e n)(a:Addr)(v:Value):qM (w.setCell a v) g e n:=by
 obtain⟨cur,h1,h2⟩:=h;unfold qM;simp only[World.setCell,Array.getElem?_modify,h1]
 split
 ·refine⟨_,rfl,?_⟩
  split
  ·exact h2
  ·rw[Array.size_setIfInBounds];exact h2
 ·exact⟨cur,rfl,h2⟩
theorem qM.alloc{w:World}{g n:Nat}{e:TypeId}(h:qM w g e n)(o:Obj):qM (w.alloc o) g e n:=by
 obtain⟨cur,h1,h2⟩:=h;exact⟨cur,by rw[Below.heap_alloc _ _ _ ((Array.getElem?_eq_some_iff.1 h1).1)];exact h1,h2⟩
structure Sat(Ok:Addr→Bool→Prop)(w:World)(M:List ah):Prop where
 val:∀i r,nth M i=some r→∀j,r.has j→w.cell? (r.ad j)=some (r.get j)
 ok:∀i r,nth M i=some r→∀j,r.has j→Ok (r.ad j) false∧(r.wr=true→Ok (r.ad j) true∧w.frozen? (r.ad j)=false)
 sep:∀i r i' r',nth M i=some r→nth M i'=some r'→r.wr=true→∀j j',r.has j→r'.has j'→r.ad j=r'.ad j'→i=i'∧j=j'
 row:∀i r,nth M i=some r→∀g e n,r.row=some (g,e,n)→r.has (0,0)∧(r.ad (0,0)).block=g∧qM w g e n
def Wr(M:List ah)(a:Addr):Prop:=∃i r j,nth M i=some r∧r.wr=true∧r.has j∧r.ad j=a
structure Fr(W:Addr→Prop)(w w':World):Prop where
 size:w.heap.size≤w'.heap.size
 cell:∀a:Addr,a.block<w.heap.size→¬W a→w'.cell? a=w.cell? a∧w'.frozen? a=w.frozen? a
 blk:∀k:Nat,k<w.heap.size→(∀a:Addr,a.block=k→¬W a)→w'.heap[k]? =w.heap[k]?
 obj:∀(c:Nat)(o:Obj),w.heap[c]? =some o→(∀cs t f,o≠Obj.cells cs t f)→w'.heap[c]? =some o
 row:∀g e n,qM w g e n→qM w' g e n
theorem Fr.refl(W:Addr→Prop)(w:World):Fr W w w:=⟨Nat.le_refl _,fun _ _ _=>⟨rfl,rfl⟩,fun _ _ _=>rfl,fun _ _ h _=>h,fun _ _ _ h=>h⟩
theorem Fr.trans{W W':Addr→Prop}{w w1 w2:World}(h:Fr W w w1)(h':Fr W' w1 w2)(hW:∀a,W' a→W a∨w.heap.size≤a.block):Fr W w w2:=by
 refine⟨Nat.le_trans h.size h'.size,fun a ha hn=>?_,fun k hk hn=>?_,fun c o ho hn=>h'.obj c o (h.obj c o ho hn) hn,fun g e n z=>h'.row g e n (h.row g e n z)⟩
 ·have h1:=h.cell a ha hn
  have h2:=h'.cell a (Nat.lt_of_lt_of_le ha h.size) (fun x=>(hW a x).elim hn (by omega));exact⟨h2.1.trans h1.1,h2.2.trans h1.2⟩
 ·rw[←h.blk k hk hn]
  exact h'.blk k (Nat.lt_of_lt_of_le hk h.size) (fun a ha x=>(hW a x).elim (hn a ha) (by omega))
theorem DX.trans{Ok:Addr→Bool→Prop}{w w1 w2:World}{e1 e2:Array Event}(h:DX Ok w w1 e1)(h':DX Ok w1 w2 e2):DX Ok w w2 (e1++e2):=by
 refine⟨fun e he=>?_,Nat.le_trans h.size h'.size,fun c o ho hn=>h'.obj c o (h.obj c o ho hn) hn,fun a hn ha=>?_,fun k hk hn=>?_,?_⟩
 ·rcases Array.mem_append.1 he with x|x
  ·rcases h.ev e x with ⟨a,h1,h2,h3,h4⟩|y
   ·exact .inl ⟨a,h1,h2,h3,Nat.lt_of_lt_of_le h4 h'.size⟩
   ·exact .inr y
  ·exact h'.ev e x
 ·have h1:=h.cell a hn ha
  have h2:=h'.cell a hn (Nat.lt_of_lt_of_le ha h.size);exact⟨h2.1.trans h1.1,h2.2.trans h1.2⟩
 ·rw[←h.blk k hk hn]
  exact h'.blk k (Nat.lt_of_lt_of_le hk h.size) hn
 ·exact⟨h'.rest.1.trans h.rest.1,h'.rest.2.1.trans h.rest.2.1,h'.rest.2.2.trans h.rest.2.2⟩
theorem fP:∀(M:List ah)(i:Nat)(r:ah)(k:Nat),nth (gM M i r) k=if k=i then(nth M i).map (fun _=>r) else nth M k
 |[],i,r,k=>by simp[gM,nth]
 |x::l,0,r,k=>by cases k<;>simp[gM,nth]
 |x::l,i+1,r,k=>by
  cases k with
  |zero=>simp[gM,nth]
  |succ k=>simp[gM,nth,fP l i r k]
theorem cK{M:List ah}{R s:ah}{k:Nat}(h:nth (R::M) k=some s):(∃k',k=k'+1∧nth M k'=some s)∨(k=0∧s=R):=by
 cases k with
 |zero=>simp[nth] at h;exact .inr ⟨rfl,h.symm⟩
 |succ k=>exact .inl ⟨k,rfl,h⟩
theorem rZ:∀(M:List ah)(k:Nat)(r:ah),nth M k=some r→k<M.length
 |[],k,r=>by simp[nth]
 |x::l,0,r=>by simp
 |x::l,k+1,r=>fun h=>by have:=rZ l k r h;simp;omega
section
variable{Ok:Addr→Bool→Prop}{w:World}{M:List ah}
theorem Sat.lt(h:Sat Ok w M){i:Nat}{r:ah}(hi:nth M i=some r){j:Ix}(hj:r.has j):(r.ad j).block<w.heap.size:=aq (h.val i r hi j hj)
theorem Sat.set(h:Sat Ok w M){i:Nat}{r:ah}(hi:nth M i=some r)(hw:r.wr=true){j:Ix}(hj:r.has j)(hm:r.may j=true)(v:Value):
 Sat Ok (w.setCell (r.ad j) v) (gM M i (r.set j v)):=by
 have key:∀k s,nth (gM M i (r.set j v)) k=some s→∃s0,nth M k=some s0∧s.ad=s0.ad∧(∀l,s.has l→s0.has l)∧s.wr=s0.wr∧(k=i→s=r.set j v∧s0=r)∧(k≠i→s=s0):=by
  intro k s hk;rw[fP] at hk
  split at hk
  ·rename_i e;subst e;rw[hi] at hk;simp at hk;subst hk
   exact⟨r,hi,ah.z8 ..,fun l h=>(ah.wx ..).1 h,ah.FQ ..,fun _=>⟨rfl,rfl⟩,fun x=>absurd rfl x⟩
  ·rename_i e;exact⟨s,hk,rfl,fun _ h=>h,rfl,fun x=>absurd x e,fun _=>rfl⟩
 have hc:=h.val i r hi j hj;refine⟨fun k s hk l hl=>?_,fun k s hk l hl=>?_,fun k s k' s' hk gB NS l l' hl dr he=>?_,fun k s hk g e n hg=>?_⟩
 ·obtain⟨s0,h0,e1,e2,e3,e4,e5⟩:=key k s hk
  by_cases LV:k=i
  ·obtain⟨f1,f2⟩:=e4 LV;subst LV;subst f2
   rw[e1,f1,ah.Ks _ _ _ _ hm hj (e2 l hl)]
   by_cases Sb:l=j
   ·subst Sb
    rw[World.cell?_setCell_same' _ _ _ (by rw[hc];rfl)];simp
   ·have aN:s0.ad j≠s0.ad l:=fun e=>Sb (h.sep k s0 k s0 hi hi hw j l hj (e2 l hl) e).2.symm
    rw[World.cell?_setCell_other _ _ _ _ aN,if_neg Sb];exact h.val k s0 hi l (e2 l hl)
  ·obtain rfl:=e5 LV
   have aN:r.ad j≠s.ad l:=fun e=>LV (h.sep i r k s hi h0 hw j l hj hl e).1.symm
   rw[World.cell?_setCell_other _ _ _ _ aN];exact h.val k s h0 l hl
 ·obtain⟨s0,h0,e1,e2,e3,e4,e5⟩:=key k s hk
  rw[e1,e3,World.frozen?_setCell];exact h.ok k s0 h0 l (e2 l hl)
 ·obtain⟨s0,h0,e1,e2,e3,e4,e5⟩:=key k s hk
  obtain⟨t0,g0,f1,f2,f3,f4,f5⟩:=key k' s' gB;rw[e1,f1] at he;exact h.sep k s0 k' t0 h0 g0 (by rw[←e3];exact NS) l l' (e2 l hl) (f2 l' dr) he
 ·obtain⟨s0,h0,e1,e2,e3,e4,e5⟩:=key k s hk
  by_cases LV:k=i
  ·obtain⟨f1,f2⟩:=e4 LV;subst LV;subst f2;subst f1
   rw[ah.Jo] at hg;obtain⟨z1,z2,z3⟩:=h.row k s0 h0 g e n hg;exact⟨(ah.wx ..).2 z1,by rw[ah.z8];exact z2,z3.set _ _⟩
  ·obtain rfl:=e5 LV
   obtain⟨z1,z2,z3⟩:=h.row k s h0 g e n hg;exact⟨z1,z2,z3.set _ _⟩
theorem Sat.new(h:Sat Ok w M)(cs:Array Value)(t:TypeId)(N5:∀(a:Addr)(wr:Bool),w.heap.size≤a.block→Ok a wr):Sat Ok (w.alloc (.cells cs t (0,0))) (lK w.heap.size t cs::M):=by
 refine⟨fun k s hk l hl=>?_,fun k s hk l hl=>?_,fun k s k' s' hk gB NS l l' hl dr he=>?_,fun k s hk g e n hg=>?_⟩
 ·rcases cK hk with ⟨k0,_,h0⟩|⟨_,rfl⟩
  ·rw[World.cell?_alloc_lt _ _ _ (h.lt h0 hl)];exact h.val k0 s h0 l hl
  ·have dr:l.2<cs.size:=hl.2
   show(w.alloc (.cells cs t (0,0))).cell? ⟨w.heap.size,l.2,none⟩=some (ah.get (lK w.heap.size t cs) l)
   have hg:ah.get (lK w.heap.size t cs) l=cs.toList.getD l.2 undef:=by
    cases hc:cs.toList with
    |nil=>have:cs.toList.length=0:=by rw[hc];rfl
          rw[Array.length_toList] at this;omega
    |cons v vs=>simp only[lK,ah.get,hc]
   rw[World.cell?_alloc_mark,hg];simp[dr]
 ·rcases cK hk with ⟨k0,_,h0⟩|⟨_,rfl⟩
  ·have hz:(w.alloc (.cells cs t (0,0))).frozen? (s.ad l)=w.frozen? (s.ad l):=World.frozen?_alloc_past _ _ _ (h.lt h0 hl)
   rw[hz];exact h.ok k0 s h0 l hl
  ·refine⟨N5 _ _ (Nat.le_refl _),fun _=>⟨N5 _ _ (Nat.le_refl _),?_⟩⟩
   show(w.alloc (.cells cs t (0,0))).frozen? ⟨w.heap.size,l.2,none⟩=false
   rw[World.frozen?_alloc_mark];simp
 ·rcases cK hk with ⟨k0,e0,h0⟩|⟨e1,rfl⟩
  ·rcases cK gB with ⟨k1,e3,uy⟩|⟨e2,rfl⟩
   ·have:=h.sep k0 s k1 s' h0 uy NS l l' hl dr he;exact⟨by omega,this.2⟩
   ·have:=h.lt h0 hl
    rw[he] at this;exact absurd this (Nat.lt_irrefl _)
  ·rcases cK gB with ⟨k1,e3,uy⟩|⟨e2,rfl⟩
   ·have:=h.lt uy dr
    rw[←he] at this;exact absurd this (Nat.lt_irrefl _)
   ·refine⟨e1.trans e2.symm,?_⟩
    have h2:l.2=l'.2:=congrArg Addr.off he;have h1:=hl.1;have iq:=dr.1;simp only[lK] at h1 iq;exact Prod.ext (by omega) h2
 ·rcases cK hk with ⟨k0,_,h0⟩|⟨_,rfl⟩
  ·obtain⟨z1,z2,z3⟩:=h.row k0 s h0 g e n hg
   exact⟨z1,z2,z3.alloc _⟩
  ·simp only[lK] at hg
   split at hg
   ·cases hg
   ·rename_i v vs hc
    cases hg
    have:cs.toList.length=vs.length+1:=by rw[hc];rfl
    rw[Array.length_toList] at this;refine⟨⟨Nat.zero_lt_one,by simp only[lK];omega⟩,rfl,cs,?_,rfl⟩
    show(w.heap.push (.cells cs t (0,0)))[w.heap.size]? =_
    rw[Array.getElem?_push_size]
end
theorem Ae{α:Type}{P:Program}{m:Mode}{a:Addr}{v:Value}{k:Sem α}{w:World}{es:Array Event}{x:Value}(hv:plain v=true)(hc:w.cell? a=some x)(hf:w.frozen? a=false):
 (Sem.store m a v k).runT P w es=k.runT P (w.setCell a v) (es.push ⟨.cell a,true,m==.atomic⟩):=by
 cases v<;>first|(simp[plain] at hv;done)|simp[Sem.runT,hc,hf]
theorem az{β:Type}{c:Bool}{x:Option β}{y:β}(h:(bif c then x else none)=some y):c=true∧x=some y:=by
 cases c with
 |false=>cases h
 |true=>exact⟨rfl,h⟩
theorem hU{α:Type}{P:Program}{B:Nat}:∀(s:Sem α)(m m':mJ)(x:α),dK P B s m=some (x,m')→(∀p∈m.eqs,p∈m'.eqs)∧(∀p∈m.aZ,p∈m'.aZ):=by
 have JY:∀(m:mJ)(hs:List Hint)(M:List ah)(a b:Addr)(l:Bool)(j n:Nat),(∀p∈m.eqs,p∈(m.zE hs M a b l j n).eqs)∧(∀p∈m.aZ,p∈(m.zE hs M a b l j n).aZ):=fun m hs M a b l j n=>
  ⟨fun p hp=>List.mem_cons_of_mem _ hp,fun p hp=>by cases l<;>simp[mJ.zE,hp]⟩
 intro s
 induction s with
 |pure a=>intro m m' x h;simp[dK] at h;obtain⟨rfl,rfl⟩:=h;exact⟨fun _ h=>h,fun _ h=>h⟩
 |load md a k ih=>
  intro m m' x h;simp only[dK] at h
  split at h
  ·split at h
   ·obtain⟨_,h⟩:=az h
    have h2:=ih _ _ _ _ h;exact⟨fun p hp=>h2.1 p ((JY _ _ _ _ _ _ _ _).1 p hp),fun p hp=>h2.2 p ((JY _ _ _ _ _ _ _ _).2 p hp)⟩
   ·cases h
  ·cases h
 |store md a v k ih=>
  intro m m' x h;simp only[dK] at h
  split at h
  ·split at h
   ·obtain⟨_,h⟩:=az h
    have h2:=ih _ _ _ h;exact⟨fun p hp=>h2.1 p ((JY _ _ _ _ _ _ _ _).1 p hp),fun p hp=>h2.2 p ((JY _ _ _ _ _ _ _ _).2 p hp)⟩
   ·cases h
  ·cases h
 |new o k ih=>
  intro m m' x h;simp only[dK] at h
  split at h
  ·have h2:=ih _ _ _ _ h
   exact h2
  ·cases h
 |program k ih=>intro m m' x h;exact ih _ _ _ _ h
 |mark mk k ih=>
  intro m m' x h;cases mk<;>simp only[dK] at h<;>first|exact ih _ _ _ h|cases h
 |_=>intros;simp_all [dK]
structure Inv(Ok:Addr→Bool→Prop)(B:Nat)(w:World)(m:mJ):Prop where
 au:Sat Ok w m.M
 sz:w.heap.size=B+m.c
theorem Wr.put{M:List ah}{i:Nat}{r:ah}{l:Ix}{v:Value}(hi:nth M i=some r){a:Addr}(h:Wr (gM M i (r.set l v)) a):Wr M a:=by
 obtain⟨k,s,j,h1,h2,h3,h4⟩:=h;rw[fP] at h1
 split at h1
 ·rename_i e;subst e;rw[hi] at h1;simp at h1;subst h1;rw[ah.FQ] at h2;rw[ah.wx] at h3;rw[ah.z8] at h4;exact⟨k,r,j,hi,h2,h3,h4⟩
 ·exact⟨k,s,j,h1,h2,h3,h4⟩
theorem Wr.cons{M:List ah}{b:Nat}{t:TypeId}{cs:Array Value}{a:Addr}(h:Wr (lK b t cs::M) a):Wr M a∨b≤a.block:=by
 obtain⟨k,s,j,h1,h2,h3,h4⟩:=h;rcases cK h1 with ⟨k0,_,h0⟩|⟨_,rfl⟩
 ·exact .inl ⟨k0,s,j,h0,h2,h3,h4⟩
 ·subst h4;exact .inr (Nat.le_refl _)
theorem yJ{x:Event}{es S:Array Event}(h:∀e∈es,e∈S∨kM e):∀e∈#[x]++es,e∈#[x]++S∨kM e:=fun e he=>by
 rcases Array.mem_append.1 he with z|z
 ·exact .inl (Array.mem_append.2 (.inl z))
 ·exact(h e z).imp_left fun y=>Array.mem_append.2 (.inr y)
theorem BB{α:Type}{P:Program}{B:Nat}{Ok:Addr→Bool→Prop}(hB:∀(a:Addr)(wr:Bool),B≤a.block→Ok a wr):∀(s:Sem α)(m m':mJ)(x:α),dK P B s m=some (x,m')→
 (∀p∈m'.eqs,p.1=p.2)→(∀p∈m'.aZ,p.1<p.2)→∀(w:World)(es:Array Event),Inv Ok B w m→
 ∃w' iJ S,Inv Ok B w' m'∧(∀d,s.runT P (w.at d) es=(.ok x (w'.at d),es++iJ))∧((∀e∈iJ,e∈S∨kM e)∧∀d,DX Ok (w.at d) (w'.at d) S)∧Fr (Wr m.M) w w'∧(∀a,Wr m'.M a→Wr m.M a∨w.heap.size≤a.block):=by
 intro s
 induction s with
 |pure a=>
  intro m m' x h he hb w es hI;simp[dK] at h;obtain⟨rfl,rfl⟩:=h;exact⟨w,#[],#[],hI,fun d=>by simp[Sem.runT],⟨by simp,fun d=>DX.still d (by simp)⟩,Fr.refl _ _,fun _ h=>.inl h⟩
 |load md a k ih=>
  intro m m' x h he hb w es hI;simp only[dK] at h
  split at h
  ·rename_i i j l hs ZT
   split at h
   ·rename_i r hr
    obtain⟨hc,h⟩:=az h;have hm:=hU _ _ _ _ h;have ea:a=r.ad j:=he (a,r.ad j) (hm.1 (a,r.ad j) (by simp[mJ.zE]));simp only[Bool.and_eq_true] at hc
    have hj:r.has j:=by
     refine⟨?_,by simpa using hc.1⟩;cases l with
     |true=>simpa using hc.2
     |false=>exact hb (j.1,r.n) (hm.2 (j.1,r.n) (by simp[mJ.zE]))
    subst ea;have hv:=hI.au.val i r hr j hj;obtain⟨w',iJ,S,h1,h2,h3,h4,h5⟩:=ih _ _ _ _ h he hb w (es.push ⟨.cell (r.ad j),false,md==.atomic⟩) ⟨hI.au,hI.sz⟩;refine⟨w',#[⟨.cell (r.ad j),false,md==.atomic⟩]++iJ,#[⟨.cell (r.ad j),false,md==.atomic⟩]++S,h1,fun d=>?_,⟨yJ h3.1,fun d=>DX.trans (DX.still d (fun e hm=>?_)) (h3.2 d)⟩,h4,h5⟩
    ·have PF:(w.at d).cell? (r.ad j)=some (r.get j):=hv
     simp only[Sem.runT,PF];rw[h2 d];simp[←Array.append_assoc]
    ·simp at hm;subst hm;exact ff hv (hI.au.ok i r hr j hj).1
   ·cases h
  ·cases h
 |store md a v k ih=>
  intro m m' x h he hb w es hI;simp only[dK] at h
  split at h
  ·rename_i i j l hs ZT
   split at h
   ·rename_i r hr
    obtain⟨hc,h⟩:=az h;have hm:=hU _ _ _ _ h;have ea:a=r.ad j:=he (a,r.ad j) (hm.1 (a,r.ad j) (by simp[mJ.zE]));simp only[Bool.and_eq_true] at hc;obtain⟨⟨⟨hw,hp⟩,WM⟩,hc⟩:=hc
    have hj:r.has j:=by
     refine⟨?_,by simpa using hc.1⟩;cases l with
     |true=>simpa using hc.2
     |false=>exact hb (j.1,r.n) (hm.2 (j.1,r.n) (by simp[mJ.zE]))
    subst ea;have hv:=hI.au.val i r hr j hj;have ho:=(hI.au.ok i r hr j hj).2 hw;have cU:(w.setCell (r.ad j) v).heap.size=w.heap.size:=by simp[World.setCell]
    obtain⟨w',iJ,S,h1,h2,h3,h4,h5⟩:=ih _ _ _ h he hb (w.setCell (r.ad j) v) (es.push ⟨.cell (r.ad j),true,md==.atomic⟩) ⟨hI.au.set hr hw hj WM v,cU.trans hI.sz⟩;have hW:∀b,Wr (gM m.M i (r.set j v)) b→Wr m.M b:=fun b hb=>hb.put hr
    have hf:Fr (Wr m.M) w (w.setCell (r.ad j) v):=by
     have hd:=DX.set (Ok:=fun a wr=>wr=true→Wr m.M a) (w:=w) (es:=#[]) (v:=v) 0 (a:=r.ad j) (fun _=>⟨i,r,j,hr,hw,hj,rfl⟩) (by simp);exact⟨hd.size,fun b h1 h2=>hd.cell b (fun z=>h2 (z rfl)) h1,fun k h1 h2=>hd.blk k h1 (fun b e z=>h2 b e (z rfl)),hd.obj,fun g e n z=>z.set _ _⟩
    refine⟨w',#[⟨.cell (r.ad j),true,md==.atomic⟩]++iJ,#[⟨.cell (r.ad j),true,md==.atomic⟩]++S,h1,fun d=>?_,⟨yJ h3.1,fun d=>DX.trans (DX.set d ho.1 (fun e hm=>?_)) (h3.2 d)⟩,hf.trans h4 (fun b hb=>.inl (hW b hb)),fun b hb=>(h5 b hb).imp (hW b) (fun z=>by rw[cU] at z;exact z)⟩
    ·rw[Ae (P:=P) (w:=w.at d) hp (show(w.at d).cell? (r.ad j)=some (r.get j) from hv) ho.2]
     show Sem.runT P k ((w.setCell (r.ad j) v).at d) _=_
     rw[h2 d];simp[←Array.append_assoc]
    ·simp at hm;subst hm
     exact ff (w:=w.setCell (r.ad j) v) (World.cell?_setCell_same' _ _ _ (by rw[hv];rfl)) ho.1
   ·cases h
  ·cases h
 |new o k ih=>
  intro m m' x h he hb w es hI;simp only[dK] at h
  split at h
  ·rename_i cs t
   have oQ:∀(a:Addr)(wr:Bool),w.heap.size≤a.block→Ok a wr:=fun a wr z=>hB a wr (by rw[hI.sz] at z;omega)
   have hS:=hI.au.new cs t oQ;rw[hI.sz] at hS;have cU:(w.alloc (.cells cs t (0,0))).heap.size=w.heap.size+1:=Array.size_push _;obtain⟨w',iJ,S,h1,h2,h3,h4,h5⟩:=ih _ _ _ _ h he hb (w.alloc (.cells cs t (0,0))) es ⟨hS,by rw[cU,hI.sz,Nat.add_assoc]⟩;have hd:=DX.alloc (Ok:=Ok) (w:=w) (es:=#[])
   have hf:Fr (Wr m.M) w (w.alloc (.cells cs t (0,0))):=by
    have hd:=DX.alloc (Ok:=fun a wr=>wr=true→Wr m.M a) (w:=w) (es:=#[]) 0 (.cells cs t (0,0)) (by simp);exact⟨hd.size,fun b h1 h2=>hd.cell b (fun z=>h2 (z rfl)) h1,fun k h1 h2=>hd.blk k h1 (fun b e z=>h2 b e (z rfl)),hd.obj,fun g e n z=>z.alloc _⟩
   have hW:∀b,Wr (lK (B+m.c) t cs::m.M) b→Wr m.M b∨w.heap.size≤b.block:=fun b hb=>(Wr.cons hb).imp id (fun z=>by rw[hI.sz];exact z)
   refine⟨w',iJ,S,h1,fun d=>?_,⟨h3.1,fun d=>?_⟩,hf.trans h4 hW,fun b hb=>(h5 b hb).elim (hW b) (fun z=>.inr (by rw[cU] at z;omega))⟩
   ·have hz:(w.at d).heap.size=B+m.c:=hI.sz
    simp only[Sem.runT,hz];exact h2 d
   ·have:=DX.trans (hd d (.cells cs t (0,0)) (by simp)) (h3.2 d)
    simpa using this
  ·cases h
 |program k ih=>
  intro m m' x h he hb w es hI;obtain⟨w',iJ,S,h1,h2,h3,h4,h5⟩:=ih _ _ _ _ h he hb w es hI;exact⟨w',iJ,S,h1,fun d=>by simp only[Sem.runT];exact h2 d,h3,h4,h5⟩
 |mark mk k ih=>
  intro m m' x h he hb w es hI;cases mk<;>try(simp only[dK] at h;cases h;done)
  rename_i f
  simp only[dK] at h;obtain⟨w',iJ,S,h1,h2,h3,h4,h5⟩:=ih _ _ _ h he hb w (es.push ⟨.mark (.extern f),false,true⟩) hI;refine⟨w',#[⟨.mark (.extern f),false,true⟩]++iJ,S,h1,fun d=>?_,⟨fun e hm=>?_,h3.2⟩,h4,h5⟩
  ·simp only[Sem.runT];rw[h2 d];simp[←Array.append_assoc]
  ·rcases Array.mem_append.1 hm with z|z
   ·simp at z;rw[z];exact .inr (EB f)
   ·exact h3.1 e z
 |_=>intros;simp_all [dK]
theorem fG{α:Type}{P:Program}:∀(s:Sem α)(x:α),cY P s=some x→∀(w:World)(es:Array Event),s.runT P w es=(.ok x w,es):=by
 intro s
 induction s with
 |pure a=>intro x h w es;simp[cY] at h;subst h;simp[Sem.runT]
 |program k ih=>intro x h w es;simp only[Sem.runT];exact ih _ _ h w es
 |_=>intros;simp_all [cY]
end Go.Proofs.YtobagnjnbmgidaaGreatDoor
