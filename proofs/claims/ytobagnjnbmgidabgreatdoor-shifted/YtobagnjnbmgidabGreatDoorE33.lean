import Derived.Test.YtobagnjnbmgidabGreatDoorE14
set_option linter.all false
set_option maxHeartbeats 0
set_option maxRecDepth 100000
namespace Go.Proofs.YtobagnjnbmgidabGreatDoor
open Go.Conc Go.RowKit Tryz
def Hq:List Nat->List Hint
 |r::j::c::n::l=>(List.range (n % 100)).map (λi=>(r,(j,c+i),Nat.blt n 100))++Hq l
 |_=>[]
def Br:Nat->Nat->List (Bool×Bool)
 |0,_=>[]
 |k+1,z=>match Nat.ble z 1 with
  |true=>[]
  |false=>(Nat.blt 1 (z % 4),z % 2==1)::Br k (z / 4)
abbrev Bq(z:Nat):List (Bool×Bool):=Br 99 z
def Bp:Nat->Nat->List Bool
 |0,_=>[]
 |k+1,z=>match Nat.ble z 1 with
  |true=>[]
  |false=>(z % 2==1)::Bp k (z / 2)
abbrev Bo(z:Nat):List Bool:=Bp 20 z
def Rq{α:Type}:List (Nat×α)->List α
 |(n,a)::l=>List.replicate n a++Rq l
 |[]=>[]
def BS{α:Type}{Q:α->Prop}:∀{l:List (Nat×α)},(∀p∈l,Q p.2)->∀p∈Rq l,Q p
 |[],_,p,b=>by cases b
 |(n,a)::l,h,p,b=>by
  rcases dJ.1 b with b|b
  .rw[(List.mem_replicate.1 b).2];exact h (n,a) (bI ..)
  .exact BS (λq a=>h q (aP _ a)) p b
def Rn{α:Type}:List Nat->List α->List α
 |n::ns,a::l=>List.replicate n a++Rn ns l
 |_,l=>l
def OE{α:Type}{Q:α->Prop}:∀{c:aN}{l:List α},(∀p∈l,Q p)->∀p∈Rn c l,Q p
 |[],l,h,p,b=>h p (by simpa [Rn]using b)
 |n::c,[],h,p,b=>by simp[Rn]at b
 |n::c,a::l,h,p,b=>by
  rcases dJ.1 b with b|b
  .rw[(List.mem_replicate.1 b).2];exact h a (bI ..)
  .exact OE (λq a=>h q (aP _ a)) p b
abbrev wI(x:Int):Int:=IntKind.wrap .i64 x
abbrev wp(k:Nat):Int:=IntKind.wrap .i64 ((k:Int)+1)
abbrev wm(k:Nat):Int:=IntKind.wrap .i64 ((k:Int)-1)
def j6{x:Int}{k:Nat}(h:x=k:=by omega)(a:k<1000000000:=by omega):IntKind.wrap .i64 x=(k:Int):=by rw[h,aA ω ω]
section
variable(A:List aH->List aH)(t:Nat)
variable{u:Bool}{B D:Nat}{o:dh}{y:gi}{b H:aC}{a:Act}{ds:wN}{f s:Nat}{m:iy}{e:aN}{N c:Nat}{E:Env}{M:aW}{C:cO}{w:aj}
def aX(F:aB prog u (DX o) y)(P:HB D o)(L:b.kind=.normal)(O:a.defers=ds)(S:St o B N E M c a w)(n:Nat)(r:aN)(v:Nat)(q:aN)(x:Env)(z:Nat)(k:Nat)(g I:aN)(j:iK)(i:List (Int×Nat))(d:List (Nat×(Nat×Nat)))(K:∀H l,St o B N x (A M) t H l->H.defers=ds->l.heap.size=B+t->w.heap.size<=l.heap.size->Fr (Wr M) w l->y (G (b.at H (pc prog f z (Bo k) g)) C) l)(h:fin c (x.map Prod.fst) (bE prog B n ⟨[⟨f,N,pc prog f s m e,E⟩],⟨Hq r,M,c,[],[]⟩,Bq v,[],[]⟩ q)=some (N,pc prog f z (Bo k) g,x.map (λp=>some p.2),A M,t,Rn I j,i,Rq d):=by kernel_rfl)(J:Hp (bE prog B n ⟨[⟨f,N,pc prog f s m e,E⟩],⟨Hq r,M,c,[],[]⟩,Bq v,[],[]⟩ q)=Ho (bE prog B n ⟨[⟨f,N,pc prog f s m e,E⟩],⟨Hq r,M,c,[],[]⟩,Bq v,[],[]⟩ q):=by kernel_rfl)(c:D<=B:=by omega)(B:∀p∈j,p.1=p.2:=by repeat' first|exact eU|refine nK ?_ ?_|assumption|rfl|(simp;omega)|(dsimp only;omega)|simp_all)(l:∀p∈i,0<=p.1/\p.1<(p.2:Int):=by repeat' first|exact eU|refine nK ?_ ?_|(dsimp only;omega))(E:∀p∈d,p.2.1<p.2.2:=by repeat' first|exact eU|refine nK ?_ ?_|(dsimp only;omega)):y (G (b.at a (pc prog f s m e)) C) w:=
 dR F aK P c L O n (Hq r) (Bq v) q x A t z (Bo k) g (Rn I j) i (Rq d) h J (OE B) l (BS E) S K
def aq(F:aB prog u (DX o) y)(H:HB D o)(x:b.kind=.normal)(z:a.defers=ds)(S:St o B N E M c a w)(n:Nat)(k:aN)(l:Nat)(j:aN)(q:Env)(r:Nat)(g:Nat)(d:aN)(K:∀v i,St o B N q (A M) t v i->v.defers=ds->i.heap.size=B+t->w.heap.size<=i.heap.size->Fr (Wr M) w i->y (G (b.at v (pc prog f r (Bo g) d)) C) i)(h:fin c (q.map Prod.fst) (bE prog B n ⟨[⟨f,N,pc prog f s m e,E⟩],⟨Hq k,M,c,[],[]⟩,Bq l,[],[]⟩ j)=some (N,pc prog f r (Bo g) d,q.map (λp=>some p.2),A M,t,[],[],[]):=by kernel_rfl)(i:Hp (bE prog B n ⟨[⟨f,N,pc prog f s m e,E⟩],⟨Hq k,M,c,[],[]⟩,Bq l,[],[]⟩ j)=Ho (bE prog B n ⟨[⟨f,N,pc prog f s m e,E⟩],⟨Hq k,M,c,[],[]⟩,Bq l,[],[]⟩ j):=by kernel_rfl)(c:D<=B:=by omega):y (G (b.at a (pc prog f s m e)) C) w:=
 dR F aK H c x z n (Hq k) (Bq l) j q A t r (Bo g) d [] [] [] h i eU eU eU S K
def qk(F:aB prog u (DX o) y){g:Nat}(O:HB D o)(L:a.defers=ds)(S:St o B N E M c a w)(n:Nat)(r:aN)(v:Nat)(q:aN)(x:Env)(z k:Nat)(d I:aN)(j:iK)(i:List (Int×Nat))(b:List (Nat×(Nat×Nat)))(K:∀H l,St o B N x (A M) t H l->H.defers=ds->l.heap.size=B+t->w.heap.size<=l.heap.size->Fr (Wr M) w l->y (G ((baseD g).at H (pc prog f z (Bo k) d)) C) l)(h:fin c (x.map Prod.fst) (bE prog B n ⟨[⟨f,N,pc prog f s m e,E⟩],⟨Hq r,M,c,[],[]⟩,Bq v,[],[]⟩ q)=some (N,pc prog f z (Bo k) d,x.map (λp=>some p.2),A M,t,Rn I j,i,Rq b):=by kernel_rfl)(J:Hp (bE prog B n ⟨[⟨f,N,pc prog f s m e,E⟩],⟨Hq r,M,c,[],[]⟩,Bq v,[],[]⟩ q)=Ho (bE prog B n ⟨[⟨f,N,pc prog f s m e,E⟩],⟨Hq r,M,c,[],[]⟩,Bq v,[],[]⟩ q):=by kernel_rfl)(c:D<=B:=by omega)(B:∀p∈j,p.1=p.2:=by repeat' first|exact eU|refine nK ?_ ?_|assumption|rfl|(simp;omega)|(dsimp only;omega)|simp_all)(l:∀p∈i,0<=p.1/\p.1<(p.2:Int):=by repeat' first|exact eU|refine nK ?_ ?_|(dsimp only;omega))(E:∀p∈b,p.2.1<p.2.2:=by repeat' first|exact eU|refine nK ?_ ?_|(dsimp only;omega)):y (G ((baseD g).at a (pc prog f s m e)) C) w:=
 bkd F aK O c L n (Hq r) (Bq v) q x A t z (Bo k) d (Rn I j) i (Rq b) h J (OE B) l (BS E) S K
def cC(F:aB prog u (DX o) y){d:eC}(S:St o B N E M c a w)(g:b.kind=.normal)(i:b.fn=f)(l:a.defers=[])(e:aN)(v:ay)(K:y (G (H.finish v) C) w)(j:iE d=true:=by kernel_rfl)(h:(iV prog ⟨f,N,d,E⟩ ⟨Hq e,M,c,[],[]⟩).map (λp=>(p.1,p.2.cW))=some (v,[]):=by kernel_rfl)(k:(iV prog ⟨f,N,d,E⟩ ⟨Hq e,M,c,[],[]⟩).map (λp=>p.2.eqs.map Prod.fst)=(iV prog ⟨f,N,d,E⟩ ⟨Hq e,M,c,[],[]⟩).map (λp=>p.2.eqs.map Prod.snd):=by kernel_rfl):y (G (b.at a d) (H::C)) w:=
 Ue F S g i l (Hq e) v j h k K
def ah(F:aB prog u (DX o) y)(i:b.kind=.normal)(g:a.defers=ds)(S:St o B N E M c a w)(d h:Nat)(args:gd)(K:∀H,Ret prog o y b C f (s+1) m e N d E ds H->y (G (Frame.enter prog h args .normal) (H::C)) w)(k:lU prog E (pc prog f s m e) d=some (h,args):=by kernel_rfl)(c:jB (pc prog f s m e)=pc prog f (s+1) m e:=by kernel_rfl)(j:d<N:=by decide):y (G (b.at a (pc prog f s m e)) C) w:=
 clz F i g d h args k c j S K
def Sat.sat(h:Sat o w M):Sat o w M:=h
def bB(F:aB prog u (DX o) y)(L:HB D o)(x:b.kind=.normal)(I:b.fn=f)(J:a.defers=[])(S:St o B N E M c a w)(n:Nat)(l:aN)(q:Nat)(k:aN)(r:Nat)(v:ay)(j:Nat)(g:Nat)(d:aN)(K:∀i,Sat o i (A M)->i.heap.size=B+t->w.heap.size<=i.heap.size->y (G (H.finish v) C) i)(h:fin c [r] (bE prog B n ⟨[⟨f,N,pc prog f s m e,E⟩],⟨Hq l,M,c,[],[]⟩,Bq q,[],[]⟩ k)=some (N,pc prog f j (Bo g) d,[some v],A M,t,[],[],[]):=by kernel_rfl)(z:Hp (bE prog B n ⟨[⟨f,N,pc prog f s m e,E⟩],⟨Hq l,M,c,[],[]⟩,Bq q,[],[]⟩ k)=Ho (bE prog B n ⟨[⟨f,N,pc prog f s m e,E⟩],⟨Hq l,M,c,[],[]⟩,Bq q,[],[]⟩ k):=by kernel_rfl)(c:iE (pc prog f j (Bo g) d)=true/\(iV prog ⟨f,N,pc prog f j (Bo g) d,[(r,v)]⟩ ⟨[],A M,t,[],[]⟩).map (λp=>(p.1,p.2.cW))=some (v,[])/\(iV prog ⟨f,N,pc prog f j (Bo g) d,[(r,v)]⟩ ⟨[],A M,t,[],[]⟩).map (λp=>p.2.eqs.map Prod.fst)=(iV prog ⟨f,N,pc prog f j (Bo g) d,[(r,v)]⟩ ⟨[],A M,t,[],[]⟩).map (λp=>p.2.eqs.map Prod.snd):=by exact⟨ρ,ρ,ρ⟩)(p:D<=B:=by omega):y (G (b.at a (pc prog f s m e)) (H::C)) w:=
 dR F aK L p x J n (Hq l) (Bq q) k [(r,v)] A t j (Bo g) d [] [] [] h z eU eU eU S λa i b a d f _=>Ue F b x I a [] v c.1 c.2.1 c.2.2 (K i b.sat d f)
def oH(F:aB prog u (DX o) y)(U:HB D o)(O:b.kind=.normal)(R:b.fn=f)(T:a.defers=[])(S:St o B N E M c a w)(n:Nat)(z:aN)(I:Nat)(x:aN)(r:Nat)(v:ay)(q:Nat)(g:Nat)(d P:aN)(k:iK)(j:List (Int×Nat))(i:List (Nat×(Nat×Nat)))(K:∀l,Sat o l (A M)->l.heap.size=B+t->w.heap.size<=l.heap.size->y (G (H.finish v) C) l)(h:fin c [r] (bE prog B n ⟨[⟨f,N,pc prog f s m e,E⟩],⟨Hq z,M,c,[],[]⟩,Bq I,[],[]⟩ x)=some (N,pc prog f q (Bo g) d,[some v],A M,t,Rn P k,j,Rq i):=by kernel_rfl)(Q:Hp (bE prog B n ⟨[⟨f,N,pc prog f s m e,E⟩],⟨Hq z,M,c,[],[]⟩,Bq I,[],[]⟩ x)=Ho (bE prog B n ⟨[⟨f,N,pc prog f s m e,E⟩],⟨Hq z,M,c,[],[]⟩,Bq I,[],[]⟩ x):=by kernel_rfl)(c:iE (pc prog f q (Bo g) d)=true/\(iV prog ⟨f,N,pc prog f q (Bo g) d,[(r,v)]⟩ ⟨[],A M,t,[],[]⟩).map (λp=>(p.1,p.2.cW))=some (v,[])/\(iV prog ⟨f,N,pc prog f q (Bo g) d,[(r,v)]⟩ ⟨[],A M,t,[],[]⟩).map (λp=>p.2.eqs.map Prod.fst)=(iV prog ⟨f,N,pc prog f q (Bo g) d,[(r,v)]⟩ ⟨[],A M,t,[],[]⟩).map (λp=>p.2.eqs.map Prod.snd):=by exact⟨ρ,ρ,ρ⟩)(E:D<=B:=by omega)(J:∀p∈k,p.1=p.2:=by repeat' first|exact eU|refine nK ?_ ?_|assumption|rfl|(simp;omega)|(dsimp only;omega)|simp_all)(B:∀p∈j,0<=p.1/\p.1<(p.2:Int):=by repeat' first|exact eU|refine nK ?_ ?_|(dsimp only;omega))(L:∀p∈i,p.2.1<p.2.2:=by repeat' first|exact eU|refine nK ?_ ?_|(dsimp only;omega)):y (G (b.at a (pc prog f s m e)) (H::C)) w:=
 dR F aK U E O T n (Hq z) (Bq I) x [(r,v)] A t q (Bo g) d (Rn P k) j (Rq i) h Q (OE J) B (BS L) S λa l b a d f _=>Ue F b O R a [] v c.1 c.2.1 c.2.2 (K l b.sat d f)
end
def TP:=@aX (λM=>M) 0
def Rb:=@aq (λM=>M) 0
def ZH:=@qk (λM=>M) 0
def ZI:=@oH (λM=>M) 0
def UF:=@bB (λM=>M) 0
end Go.Proofs.YtobagnjnbmgidabGreatDoor
