import Derived.Test.YtobagnjnbmgidaaGreatDoorD5
set_option linter.all false
set_option maxHeartbeats 0
set_option maxRecDepth 100000
namespace Go.Proofs.YtobagnjnbmgidaaGreatDoor
open Go.Conc Go.RowKit Tryz
variable{f:Bg}{V:Ev0}{L:LS}{Lf:LS->Prop}{A HD J N O bl bo I H bJ m n rs bM:Nat}{g:Nat->Cl}{r:aH}{X:aW}{E v:aC}{U:ay}{q:aN}{dL:p9}{st:oJ}{lb eu:bU}{y:cO}{sL Q:eP}
variable{P:aG}{Y:Bool}{B ng:Nat}{t:dh}{D:gi}{Post:qz}{w0 w:aj}{l:aN}{M:aW}
def bkU(Z:aW)(alt:List (Nat×List Hint))(F:aB P Y (DX t) D)(Nd:P.follows .mixedOrders=true)(hB:HB B t){b:aC}(hk:b.kind=.normal){f g:Nat}{d:iy}{c:aN}(q:Nat)(U:List Hint)(V:iK)(H E2:Env){E:Env}(cY:iK)(W:List (Int×Nat))(C:List (Nat×Nat))(A:List Hint)(ed:List aH->List aH)(dx:Nat)(vx:ay){a:Act}{ds:wN}(hd:a.defers=ds)(ht:mP (pc P f g d c)=true)(r:((aL (pc P f g d c))[q]?).map (λo=>o.guard.isNone&&o.dst.isNone)=some true)(m:((aL (pc P f g d c))[q+1]?).map (λo=>o.guard.isNone&&!lN o&&o.op.operands.all (kn []))=some true)(j:((aL (pc P f g d c))[q+1]?).map (λo=>(o.dst,cV P (execOp (ev []) o)))=some (some dx,some (.value vx)))(h:J6 P Z alt (aL (pc P f g d c)) q E M 0 0 (H.map Prod.fst) (E2.map Prod.fst) [] (ux P B N E M 0 U V (aL (pc P f g d c)) q)=some (⟨H.map (λp=>some p.2),E2.map (λp=>some p.2),M,0,cY,W,C,true⟩,[],true))(hq:K5 Prod.fst (ux P B N E M 0 U V (aL (pc P f g d c)) q)=K5 Prod.snd (ux P B N E M 0 U V (aL (pc P f g d c)) q))(halt:tT P (aL (pc P f g d c)) Z alt true (ux P B N E M 0 U V (aL (pc P f g d c)) q)=tT P (aL (pc P f g d c)) Z alt false (ux P B N E M 0 U V (aL (pc P f g d c)) q))(i:(MF P B H (((aL (pc P f g d c))[q]?).getD default) ⟨[],⟨A,M,0,[],[]⟩,[],[],[]⟩).map (λp=>(p.1,p.2.m.M,p.2.m.c,p.2.m.cW,p.2.cY,p.2.eK))=some (.tuple #[],ed M,0,[],[],[]))(n:(MF P B H (((aL (pc P f g d c))[q]?).getD default) ⟨[],⟨A,M,0,[],[]⟩,[],[],[]⟩).map (λp=>p.2.m.eqs.map Prod.fst)=(MF P B H (((aL (pc P f g d c))[q]?).getD default) ⟨[],⟨A,M,0,[],[]⟩,[],[],[]⟩).map (λp=>p.2.m.eqs.map Prod.snd))(UU:.inRegion (aL (pc P f g d c)) (bP (q+2) ((aL (pc P f g d c)).size-(q+2)))::behind (pc P f g d c)=pc P f (g+1) d (c++[q+2]))(KN:∀p∈cY,p.1=p.2)(Vo:∀p∈W,0<=p.1/\p.1<(p.2:Int))(Fj:∀p∈C,p.1<p.2)(hZ:∀w,Sat t w (ed M)->Sat t w Z)(S:St t B N E M 0 a w)(K:∀a' w',St t B N ((dx,vx)::E2) (ed M) 0 a' w'->a'.defers=ds->w'.heap.size=B->D (G (b.at a' (pc P f (g+1) d (c++[q+2]))) y) w'):D (G (b.at a (pc P f g d c)) y) w:=by
 have X:b.kind≠.early:=ξ
 have L:∃id,pc P f g d c=.code (.region id (aL (pc P f g d c)) true)::behind (pc P f g d c):=by
  unfold mP at ht;split at ht
  .rename_i e;rw[e];exact⟨_,rfl⟩
  .cases ht
 let⟨id,L⟩:=L;rw[L];generalize UY:aL (pc P f g d c)=J at*;generalize QX:behind (pc P f g d c)=k at*;cases ho:J[q]? with
 |none=>rw[ho]at r;cases r
 |some o=>
 cases Q:J[q+1]? with
 |none=>rw[Q]at m;cases m
 |some ox=>
 rw[ho]at r i n;rw[Q]at m j;simp only[cQ]at i n;simp only[fI,Option.some.injEq,bZ,Option.isNone_iff_eq_none,mA,Prod.mk.injEq]at r m j;let⟨hg,Nl⟩:=r;let⟨⟨Uw,Qb⟩,UM⟩:=m;let⟨j,Uu⟩:=j;cases O:ux P B N E M 0 U V J q with
 |none=>rw[O]at h;cases h
 |some rr=>
  let⟨gL,al,zK⟩:=rr;rw[O]at h hq halt;simp only[J6,Option.some.injEq,Prod.mk.injEq,PX.mk.injEq,bZ]at h;let⟨⟨h1,h2,h3,h4,h5,h6,h7,h8,h9⟩,KW,KV⟩:=h;have hM:oE zK:=⟨fB _ hq,ξ,ξ,χ⟩;cases hv:MF P B H o ⟨[],⟨A,M,0,[],[]⟩,[],[],[]⟩with
  |none=>rw[hv]at i;cases i
  |some vy=>
   let⟨v,y2⟩:=vy;rw[hv]at i n;simp only[fI,Option.some.injEq,Prod.mk.injEq]at i n;obtain⟨rfl,ZV,s3,s4,s5,s6⟩:=i;have hm:oE y2:=⟨fB _ n,ξ,ξ,ξ⟩;refine XT (Post:=λv T=>v=.tuple #[]/\Sat t T y2.m.M/\T.heap.size=B) (ox:=ox) (Ex:=λ_=>[]) (vx:=λ_=>vx) F Nd hB X (az 1) ho O hM h8 h9 halt S (λv T hp=>⟨hZ _ ξ,ω⟩) (λ_=>⟨Q,KV,Uw⟩) (λv T Ze _ a hA w=>?_) (λv T _ _ e u x=>by cases x) (λa1 w1 rest z1 I z3 z4=>?_) (λM5 v T l a' w3 z1 I z3 z4 z5=>?_)
   .have R:execOp a.eval ox=execOp (ev []) ox:=execOp_congr Qb λzK hy=>hA.eval (yJ.1 UM zK hy);have Na:=fV _ _ Uu;exact⟨by rw[R,<-fH (es:=#[]),Na],by unfold raw Sem.events;simp_all⟩
   .have S1:St t B N H M 0 a1 w1:=⟨⟨z1.sz,λe u x=>z1.val e u (fy H _ h1 e u x)⟩,by rw[<-h3];exact I.fg _,by rw[z3,h4]⟩
    refine Fe F hB X ho (by simp[Region.wanted,hg]) hv hm S1.env ⟨S1.sat,S1.sz⟩ λw' hI _ _=>z4 _ _ ⟨rfl,hI.sat,by have:=hI.sz;omega⟩
   .rw[UU];refine K a' w3 ⟨⟨I.sz,λe u x=>?_⟩,by rw[<-ZV];exact z1.2.1.keep z4,ω⟩ (I.DL.trans hd) ω;simp only[look]at x;cases he:(dx==e)with
    |true=>rw[he]at x;simp at he x;subst he;subst x;exact I.ext rfl (z3 (q+1) ω) _ j
    |false=>
     rw[he]at x;have:=fy E2 _ h2 e u x;rcases lM _ _ _ _ this with ⟨s,s1,s2,s3⟩|z
     .rw[<-s3];exact I.val s s1 (z3 s.i χ) e s2
     .exact I.old e u z
abbrev BM(bM bJ:Nat)(f:Bg)(k:Nat):List Nat:=bM::bJ::(List.range k).map f.aS
def Bn(A bl bo:Nat)(f:Bg)(k:Nat):Flat (sM A bl bo f k):=by
 rw[bO];intro r a;let⟨j,_,a⟩:=mL.1 a;simp only[HQ,ak,bH,or_false]at a;rcases a with rfl|rfl|rfl|rfl|rfl<;>rfl
def Bm(f:Bg)(k:Nat):Flat (qb f k):=by
 rw[bO];intro r a;let⟨j,_,a⟩:=mL.1 a;simp only[ak,bH,or_false]at a;subst a;rfl
def Ic{kk:PK}{L:LS}(hV:wM kk.V)(hL:yI kk.V L)(hA:kk.A∈l){B:Nat}(Y:∀(a:Addr)(wr:Bool),B<=a.block->cP w0.heap.size l [] a wr){E:aC}(s:E.kind=.normal)(qh:E.fn=24){v:aC}{y:cO}{I rs bl bo bM bJ:Nat}{Q:eP}{M:aW}(hM:Flat M){dL:p9}{eu:bU}(hC:0<kk.V.nc->∃Z,Q=some Z/\Has M (fR Z 2 (λj=>[i6 (kk.V.st j),.slice (dL j) (kk.V.nt j) (eu j)]) kk.V.nc false))(K:∀(f:Bg)(q:aN)(U:ay)(p:mW)(S:Act)(A:aj)(h:Nat),S.defers=[]->B<=h->A.heap.size=h->Ss kk.V bM bJ f kk.V.nc A->K2 w0 kk.A (BM bM bJ f kk.V.nc) A->PV (cP w0.heap.size l []) (gC bl bo kk L f kk.V.nc q U p) (bA (gC bl bo kk L f kk.V.nc q U p))->QI (gC bl bo kk L f kk.V.nc q U p)->q.length=kk.V.nc->
 St (cP w0.heap.size l []) h 53 [(47,ptr kk.A),(11,ptr bo),(9,ptr kk.J),(4,ptr rs)] (pM (gC bl bo kk L f kk.V.nc q U p)++(oR kk.A 2 [i6 kk.V.nc] true::(qb f kk.V.nc++(sM kk.A bl bo f kk.V.nc++M)))) 0 S A->
 nM prog Post (K2 w0 kk.A (BM bM bJ f kk.V.nc)) (jq l) ng (G (E.at S (pc prog 24 69 [false,false] [])) (v::y)) A):
 ∀(left k:Nat)(f:Bg)(q:aN)(U:ay)(p:mW)(a0:Act)(w:aj)(h:Nat),left+k=kk.V.nc->a0.defers=[]->B<=h->w.heap.size=h->Ss kk.V bM bJ f k w->PV (cP w0.heap.size l []) (gC bl bo kk L f k q U p) (bA (gC bl bo kk L f k q U p))->QI (gC bl bo kk L f k q U p)->q.length=k->
   St (cP w0.heap.size l []) h 53 [(35,i6 k),(34,i6 kk.V.nc),(33,.slice Q kk.V.nc I),(12,ptr kk.A),(11,ptr bo),(10,ptr bl),(9,ptr kk.J),(4,ptr rs)] (pM (gC bl bo kk L f k q U p)++(oR kk.A 2 [i6 k] true::(qb f k++(sM kk.A bl bo f k++M)))) 0 a0 w->
   nM prog Post (K2 w0 kk.A (BM bM bJ f k)) (jq l) ng (G (E.at a0 (pc prog 24 59 [false] [])) (v::y)) w
 |0,k,f,q,U,p,a0,w,h,hk,N,hle,P9,H,hP,hQ,hq,P=>by
  have:k=kk.V.nc:=ω
  subst this;have F:=NN (Post:=Post) (w0:=w0) (A:=kk.A) (cc:=BM bM bJ f kk.V.nc) hA ng;generalize t:pM (gC bl bo kk L f kk.V.nc q U p)++(oR kk.A 2 [i6 kk.V.nc] true::(qb f kk.V.nc++(sM kk.A bl bo f kk.V.nc++M)))=MM at P;refine TP F Y s N P 10 [] 4 [] [(47,ptr kk.A),(11,ptr bo),(9,ptr kk.J),(4,ptr rs)] 69 4 [] [] [(decide ((↑kk.V.nc:Int)<(↑kk.V.nc:Int)),false)] [] [] λS A S1 J zS Dx o9=>?_;subst t;exact At.assume FK λD=>K f q U p S A _ J ω rfl ⟨λj R=>by have:=H.lt j R;exact⟨ω,this.2⟩,H.inj,by have:=H.wl;exact⟨ω,ω⟩⟩ D hP hQ hq ⟨S1.env,S1.sat,rfl⟩
 |left+1,k,f,q,U,p,a0,w,h,hk,N,hle,P9,H,hP,hQ,hq,P=>by
  have F:=NN (Post:=Post) (w0:=w0) (A:=kk.A) (cc:=BM bM bJ f k) hA ng;have w:=hV.nc;have hkn:k<kk.V.nc:=ω
  let⟨Z,ZS,w⟩:=hC ω;have O:=P.get (((w.app (sM kk.A bl bo f k)).app (qb f k)).cons.app (pM (gC bl bo kk L f k q U p)));subst ZS;generalize t:pM (gC bl bo kk L f k q U p)++(oR kk.A 2 [i6 k] true::(qb f k++(sM kk.A bl bo f k++M)))=MM at O;clear P;have P:=O;clear O;have Vn:IntKind.wrap .i64 ((k:Int)+1)=(k:Int)+1:=aA ω ω;refine aX (λM=>bR (h+1) [i6 (kk.V.st k),.slice (dL k) (kk.V.nt k) (eu k)]::(bR (h) [i6 k]::(M))) 2 F Y s N P 25 [0,k,0,102,1,0,0,1,0,0,0,2,1,0,0,1,0,0,0,1] 26 [] [(44,.func (Fn.func 37) #[] #[ptr bl,ptr bo,ptr h]),(43,i6 (kk.V.st k)),(41,i6 k),(40,ptr kk.A),(35,i6 k),(34,i6 kk.V.nc),(33,.slice (some Z) kk.V.nc I),(12,ptr kk.A),(11,ptr bo),(10,ptr bl),(9,ptr kk.J),(4,ptr rs)] 84 6 [] [] [(decide ((↑k:Int)<(↑kk.V.nc:Int)),true)] [((↑k:Int),kk.V.nc)] [(2,(k,kk.V.nc))] λS A S1 J zS Dx o9=>ah F s J S1 45 36 #[ptr kk.A,i6 k,i6 (kk.V.st k),.func (Fn.func 37) #[] #[ptr bl,ptr bo,ptr h]] λw W=>?_;subst t;have w:Sat (cP w0.heap.size l []) A (pM (gC bl bo kk L f k q U p)++(oR kk.A 2 [i6 k] true::(oR h 0 [i6 k] false::(qb f k++(sM kk.A bl bo f k++M))))):=by
   have B:=(S1.sat.tail).fix;have A:=Sat.BC (A:=[oR h 0 [i6 k] false]) B;refine A.perm ?_;have:=fA [oR h 0 [i6 (k:Int)] false] (pM (gC bl bo kk L f k q U p)++[oR kk.A 2 [i6 k] true]) (qb f k++(sM kk.A bl bo f k++M));simpa using this
  refine AA (s:=gC bl bo kk L f k q U p) (k:=k) (cl:=k) (bl:=bl) (bo:=bo) (bi:=h) (at':=kk.V.st k) F Y w hP (((Bm f k).app ((Bn _ _ _ f k).app hM)).cons rfl) ω (by rw[jT];show q.length<1000000;omega) ω λo m g T n u x i B hi w A r mQ p p p=>?_;rw[jT]at hi;let⟨XP,p⟩:=Mr (tP:=u) (sB:=x) (T:=T) (aS:=g) (ba:=o) (bt:=n) (bw:=m) (bi:=h) hL hQ hkn hi w;rw[<-p]at r;have p:Sat (cP w0.heap.size l []) B (pM (gC bl bo kk L (f.put k T g o n m h) (k+1) (q.take i++k::q.drop i) u x)++(oR kk.A 2 [i6 ((k+1:Nat):Int)] true::(qb (f.put k T g o n m h) (k+1)++(sM kk.A bl bo (f.put k T g o n m h) (k+1)++M)))):=by
   rw[HN,JH];refine A.perm (eN (pM (gC bl bo kk L f k q u x)) (List.Perm.cons _ ?_));simp only[dU,um,List.nil_append];refine List.Perm.trans ?_ (eY (a:=dO T (.pointer none) (.slice none 0 0) false false) (l₁:=qb f k)).symm;refine List.Perm.trans (List.Perm.swap _ _ _) (List.Perm.cons _ ?_);have:=fA [oR T 0 [ptr kk.A,i6 (k:Int),i6 (k:Int),.chan (some g)] false,oR o 0 [ptr kk.A] false,oR m 0 [.func (.func 37) #[] #[ptr bl,ptr bo,ptr h]] false,oR n 0 [ptr T] false,oR h 0 [i6 (k:Int)] false] (qb f k++sM kk.A bl bo f k) M;simpa using this
  refine W _ _ _ p λl l S2 DF l=>?_;generalize t:pM (gC bl bo kk L (f.put k T g o n m h) (k+1) (q.take i++k::q.drop i) u x)++(oR kk.A 2 [i6 ((k+1:Nat):Int)] true::(qb (f.put k T g o n m h) (k+1)++(sM kk.A bl bo (f.put k T g o n m h) (k+1)++M)))=MM at S2;refine Rb F Y s DF S2 7 [] 1 [] [(35,i6 (IntKind.wrap .i64 ((↑k:Int)+1))),(34,i6 kk.V.nc),(33,.slice (some Z) kk.V.nc I),(12,ptr kk.A),(11,ptr bo),(10,ptr bl),(9,ptr kk.J),(4,ptr rs)] 92 6 [] λa3 w3 S3 CJ l l mH=>?_;rw[show pc prog 24 92 (Bo 6) []=pc prog 24 59 [false] [] by kernel_rfl];rw[Vn]at S3;have l:(k:Int)+1=((k+1:Nat):Int):=ψ
  rw[l]at S3;subst t;have C:gw w3 g:=mH.obj _ _ mQ (λ_ _ _ z=>by cases z);have Yb:g<w3.heap.size:=(cU.1 C).1;have V:∀j,j<k->f.aS j<g:=λj R=>by have:=(H.lt j R).1;omega
  have l:=H.wl;refine At.assume FK λD=>At.keep (K':=K2 w0 kk.A (BM bM bJ (f.put k T g o n m h) (k+1))) (λd=>⟨D.1,⟨D.2.1.1,λc X=>?_⟩,D.2.2⟩) (Ic hV hL hA Y s qh hM hC K left (k+1) (f.put k T g o n m h) (q.take i++k::q.drop i) u x a3 w3 _ ω CJ ω rfl ⟨λj R=>?_,λa d b d e=>?_,⟨ω,ω⟩⟩ ⟨r.jr,r.en,r.eo,r.fb,r.rm,ww,λ_ _=>Vs⟩ XP ?_ ⟨S3.env,S3.sat,rfl⟩)
  .show∃d,w3.heap[c]? =_;rcases ak.1 X with rfl|X
   .exact D.2.1.2 _ (bI ..)
   .rcases ak.1 X with rfl|X
    .exact D.2.1.2 _ (aP _ (bI ..))
    .obtain⟨j,R,rfl⟩:=gV.1 X;have c:=aZ.1 R;by_cases e:j=k
     .rw[e,(rO f k T g o n m h).2.1];exact⟨0,C⟩
     .rw[(LB f (by omega:j<k) T g o n m h).2.1];exact D.2.1.2 _ (aP _ (aP _ (gV.2 ⟨j,aZ.2 ω,rfl⟩)))
  .by_cases e:j=k
   .rw[e,(rO f k T g o n m h).2.1];exact⟨Yb,ω,ω⟩
   .rw[(LB f (by omega:j<k) T g o n m h).2.1];have:=H.lt j ω;exact⟨ω,this.2⟩
  .by_cases d:a=k
   .by_cases c:b=k
    .rw[d,c]
    .rw[d,(rO f k T g o n m h).2.1,(LB f (by omega:b<k) T g o n m h).2.1]at e;have:=V b ω;omega
   .by_cases c:b=k
    .rw[c,(rO f k T g o n m h).2.1,(LB f (by omega:a<k) T g o n m h).2.1]at e;have:=V a ω;omega
    .rw[(LB f (by omega:a<k) T g o n m h).2.1,(LB f (by omega:b<k) T g o n m h).2.1]at e;exact H.inj a ω b ω e
  .simp only[YA,gB,uq,Ea];omega
def At.Uc{K:cK}{a pZ Still:dm}{Mem:p8}{b:Nat->Option Seat}{h:Nat}{g:aV}(f:∀x,a x->pZ x)(e:∀x,pZ x->a x\/Sf w.heap.size x)(H:At P Post K pZ Still Mem b h n g w):At P Post K a Still Mem b h n g w:=
 λd g T q a b c C=>H d g T q a b c (R2.grow C (λ_ x=>x) (λ_ x=>.inl x) f e)
def My{α:Type}(sR vR eR A c b bo d bl a J rs:α)(T:List α):(sR::vR::eR::A::c::b::bo::d::bl::a::J::rs::T).Perm (A::eR::J::vR::sR::a::d::c::b::bo::bl::rs::T):=
 (eY (l₁:=[sR,vR,eR])).trans (.cons _ ((eY (l₁:=[sR,vR])).trans (.cons _ ((eY (l₁:=[sR,vR,c,b,bo,d,bl,a])).trans (.cons _ ((eY (l₁:=[sR])).trans (.cons _ (.cons _ ((eY (l₁:=[c,b,bo,d,bl])).trans (.cons _ ((eY (l₁:=[c,b,bo])).trans (.cons _ (.refl _)))))))))))))
abbrev Ys(A J HD O:Nat)(V:Ev0)(lb:bU)(Q:eP)(I:Nat)(dL:p9)(eu:bU)(bM bJ:Nat):PK:={A:=A,J:=J,HD:=HD,O:=O,V:=V,lb:=lb,ca:=Q.getD ⟨0,0,none⟩,cc:=I,dL:=dL,eu:=eu,bM:=bM,bJ:=bJ}
def OU:Bg:=⟨λ_=>0,λ_=>0,λ_=>0,λ_=>0,λ_=>0,λ_=>0⟩
def Ry:mW:=⟨0,0,0,λ_=>undef⟩
def Uj(hV:wM V)(D:yI V L)(hl:∀x∈l,x<w0.heap.size){a7:Act}{w7:aj}{b:Nat}(R:E.kind=.normal)(qh:E.fn=24)(CI:a7.defers=[])(s:w7.heap.size=b)(YQ:w0.heap.size<=b)(hX:Flat (X++M))(hC:0<V.nc->∃ca,Q=some ca/\Has M (fR ca 2 (λj=>[i6 (V.st j),.slice (dL j) (V.nt j) (eu j)]) V.nc false))(t:St (cP w0.heap.size l []) b 53 [(11,ptr bo),(10,ptr bl),(9,ptr J),(4,ptr rs),(1,.slice Q V.nc I)] (bR bo [.slice (some ⟨O,0,none⟩) V.nc V.nc]::fR ⟨O,0,none⟩ 4 (λ_=>[i6 0,i6 0,i6 0,.slice none 0 0]) V.nc true::bR bl [Yw V lb 0]::fR ⟨HD,0,none⟩ 1 (λ_=>[i6 0]) V.nc true::bR J [.slice none 0 0]::bR rs [.slice none 0 0,.slice none 0 0]::(X++M)) 0 a7 w7)(K:∀(bM bJ:Nat)(f:Bg)(q:aN)(U:ay)(W:mW)(a1:Act)(P:aj)(B1:Nat),w0.heap.size<=bM->w0.heap.size<=bJ->bM≠bJ->a1.defers=[]->b+3<=B1->P.heap.size=B1->Ss V bM bJ f V.nc P->K2 w0 (b+2) (BM bM bJ f V.nc) P->PV (cP w0.heap.size ((b+2)::l) []) (gC bl bo (Ys (b+2) J HD O V lb Q I dL eu bM bJ) L f V.nc q U W) (bA (gC bl bo (Ys (b+2) J HD O V lb Q I dL eu bM bJ) L f V.nc q U W))->QI (gC bl bo (Ys (b+2) J HD O V lb Q I dL eu bM bJ) L f V.nc q U W)->q.length=V.nc->
 St (cP w0.heap.size ((b+2)::l) []) B1 53 [(47,ptr (b+2)),(11,ptr bo),(9,ptr J),(4,ptr rs)] (pM (gC bl bo (Ys (b+2) J HD O V lb Q I dL eu bM bJ) L f V.nc q U W)++(oR (b+2) 2 [i6 V.nc] true::(qb f V.nc++(sM (b+2) bl bo f V.nc++(oR (b+2) 3 [.chan (some bM),.chan (some bJ)] false::oR bo 0 [.slice (some ⟨O,0,none⟩) V.nc V.nc] false::oR bl 0 [Yw V lb 0] false::bR rs [.slice none 0 0,.slice none 0 0]::(X++M)))))) 0 a1 P->
 nM prog Post (K2 w0 (b+2) (BM bM bJ f V.nc)) (jq ((b+2)::l)) ng (G (E.at a1 (pc prog 24 69 [false,false] [])) (v::y)) P):
 nM prog Post (Old w0) (jq l) ng (G (E.at a7 (pc prog 24 47 [false] [])) (v::y)) w7:=by
 refine At.Uc (pZ:=jq ((b+2)::l)) (λx h=>Ey h) (λx h=>(H6 h).imp id fun⟨a,e1,e2⟩=>⟨a,e1,ω⟩) ?_;have F:=nA (P:=prog) (Post:=Post) (wI:=w0) (l:=(b+2)::l) ng;have A:∀(a:Addr)(wr:Bool),a.block<b->cP w0.heap.size l [] a wr->cP w0.heap.size ((b+2)::l) [] a wr:=λa wr hb o=>⟨fun⟨A',n,g⟩=>by
  rcases ak.1 n with rfl|n
  .rcases g with g|g<;>(cases g;simp only at hb;omega)
  .exact o.1 ⟨A',n,g⟩,o.2⟩
 have x:St (cP w0.heap.size ((b+2)::l) []) b 53 _ _ 0 a7 w7:=⟨t.env,t.sat.OB (λr hr j B o=>A _ _ (by have:=t.sat.blk hr B;rw[s]at this;exact this) o) (λr hr _ j B o=>A _ _ (by have:=t.sat.blk hr B;rw[s]at this;exact this) o),t.sz⟩;clear t;have t:=x;clear x;have hBn:∀(a:Addr)(wr:Bool),w0.heap.size<=a.block->(a.off=5\/a.off=6)\/cP w0.heap.size ((b+2)::l) [] a wr:=λa wr hb=>by
  by_cases h5:a.off=5\/a.off=6
  .exact .inl h5
  .refine .inr ⟨fun⟨A',n,g⟩=>?_,λ_=>⟨hb,fun⟨p,hp,_⟩=>by cases hp⟩⟩;rcases g with g|g
   .cases g;exact h5 (.inl rfl)
   .cases g;exact h5 (.inr rfl)
 let⟨x,Z⟩:=vP V lb 0;rw[Z]at t;refine ah F R CI t 32 35 #[] λx x=>PF F hBn t.sat ω λw H Y h8 o1 o2 A A qM A A ag=>x _ _ _ (by rw[s]at h8;exact h8) λx x S8 Nn x=>?_;have hB:∀(a:Addr)(wr:Bool),b+3<=a.block->cP w0.heap.size ((b+2)::l) [] a wr:=λa wr hb=>⟨fun⟨A',n,g⟩=>by
  have x:A'<b+3:=by
   rcases ak.1 n with rfl|n
   .omega
   .have:=hl A' n;omega
  rcases g with g|g<;>(cases g;simp only at hb;omega),λ_=>⟨ω,fun⟨p,hp,_⟩=>by cases hp⟩⟩
 rw[s]at S8;refine Rb F hB R Nn S8 11 [] 1 [] [(35,i6 0),(34,i6 V.nc),(33,.slice Q V.nc I),(12,ptr (b+2)),(11,ptr bo),(10,ptr bl),(9,ptr J),(4,ptr rs)] 59 2 [] λa9 N S9 QH x x T=>?_;have x:pM (gC bl bo (Ys (b+2) J HD O V lb Q I dL eu w H) L OU 0 [] (.slice none 0 0) Ry)=[bR (b+2) [i6 0,.slice none 0 0],eR Ry,bR J [.slice none 0 0],vR none 5 (λj=>yt (L.ev j)) 0 0 55,sR none 5 (λ_=>[]) 0 0,fR ⟨HD,0,none⟩ 1 (λ_=>[i6 0]) V.nc true,fR ⟨O,0,none⟩ 4 (λ_=>[i6 0,i6 0,i6 0,.slice none 0 0]) V.nc true]:=by
  simp only[pM,D.now,D.el,D.us,D.ou];rfl
 have hs9:Sat (cP w0.heap.size ((b+2)::l) []) N (pM (gC bl bo (Ys (b+2) J HD O V lb Q I dL eu w H) L OU 0 [] (.slice none 0 0) Ry)++(oR (b+2) 2 [i6 ((0:Nat):Int)] true::(qb OU 0++(sM (b+2) bl bo OU 0++(oR (b+2) 3 [.chan (some w),.chan (some H)] false::oR bo 0 [.slice (some ⟨O,0,none⟩) V.nc V.nc] false::oR bl 0 [Yw V lb 0] false::bR rs [.slice none 0 0,.slice none 0 0]::(X++M)))))):=by
  rw[x,Z];have l:=Sat.yg (A:=[_,_,_]) S9.sat;have x:=Sat.yg (A:=[_,_,_,_,_]) l;have l:=Sat.qj (Sat.qj (Sat.qj x (r:=eR Ry) rfl rfl) (r:=vR none 5 (λj=>yt (L.ev j)) 0 0 55) rfl rfl) (r:=sR none 5 (λ_=>[]) 0 0) rfl rfl;exact l.perm (My ..)
 have m:∀{c:Nat},gw Y c->c<Y.heap.size:=λh=>(cU.1 h).1;have u:∀o,o=5\/o=6->N.cell? ⟨b+2,o,none⟩=Y.cell? ⟨b+2,o,none⟩/\N.frozen? ⟨b+2,o,none⟩=Y.frozen? ⟨b+2,o,none⟩:=λo h=>T.cell _ (by show b+2<Y.heap.size;omega) (fun⟨i,r,j,n,g,h3,h4⟩=>by
  have:=((S8.sat.ok i r n j h3).2 g).1.1;rw[h4]at this;exact this ⟨b+2,bI ..,by rcases h with rfl|rfl;exact .inl rfl;exact .inr rfl⟩)
 rw[s]at ag;have ag5:=ag.a5;have ag6:=ag.a6;refine At.assume gN λh=>At.keep (K':=K2 w0 (b+2) (BM w H OU 0)) (λd=>⟨h,⟨λp hp=>(by cases hp),λc hc=>?_⟩,⟨?_,?_⟩,⟨?_,?_⟩⟩) (Ic (kk:=Ys (b+2) J HD O V lb Q I dL eu w H) hV D (bI ..) hB R qh (M:=oR (b+2) 3 [.chan (some w),.chan (some H)] false::oR bo 0 [.slice (some ⟨O,0,none⟩) V.nc V.nc] false::oR bl 0 [Yw V lb 0] false::bR rs [.slice none 0 0,.slice none 0 0]::(X++M)) ((((hX.cons rfl).cons rfl).cons rfl).cons rfl) (dL:=dL) (eu:=eu) (λz=>?_) ?_ V.nc 0 OU [] (.slice none 0 0) Ry a9 N _ rfl QH ω rfl ⟨λj B=>ω,λi C=>ω,?_⟩ ?_ ?_ rfl ⟨S9.env,hs9,rfl⟩)
 .show∃b,N.heap[c]? =_;have q1:gw N w:=T.obj _ _ o1 (λ_ _ _ z=>by cases z);have q2:gw N H:=T.obj _ _ o2 (λ_ _ _ z=>by cases z);simp only[BM,List.range_zero,uf,ak,bH,or_false]at hc;rcases hc with rfl|rfl
  .exact⟨0,q1⟩
  .exact⟨0,q2⟩
 .exact(u 5 (.inl rfl)).1.trans ag5
 .exact(u 5 (.inl rfl)).2.trans (ag.z 5)
 .exact(u 6 (.inr rfl)).1.trans ag6
 .exact(u 6 (.inr rfl)).2.trans (ag.z 6)
 .let⟨ca,e1,e2⟩:=hC z;exact⟨ca,e1,(e2.app X).cons.cons.cons.cons⟩
 .intro f q U W a1 P B1 n g h3 h4 h5 c b h8 S;exact K w H f q U W a1 P B1 ω ω qM n g h3 h4 h5 c b h8 S
 .exact⟨by have:=m o1;omega,by have:=m o2;omega⟩
 .refine⟨⟨.inl ⟨rfl,D.el,rfl⟩,?_,gl _,λa ha=>(by cases ha)⟩,⟨λe he=>(by cases he),.inl ⟨rfl,rfl,rfl⟩⟩,λz=>(by cases z),λk _ _=>by show qv _ (L.gt k).la jC;rw[D.gt];exact Zj,λk _ _=>⟨λ_=>⟨rfl,rfl,rfl⟩,λz=>(by cases z),λz=>(by cases z),λj B=>(by cases B)⟩,λr hr=>(by cases hr),λj B=>absurd B (uk _)⟩;show L.el<=0;rw[D.el];exact az _
 .exact⟨λi C=>(by cases C),λi C=>absurd C (uk _),List.Pairwise.nil,λi C=>(by cases C),λi C=>(by cases C)⟩
abbrev Kk(w0:aj)(l:aN)(kk:PK)(f:Bg)(cR:aC)(lT:cO)(X M:aW)(rs bl bo:Nat)(Lf:LS->Prop):RN:=
 {wI:=w0,l:=kk.A::l,k:=kk,cR:=cR,lT:=lT,S:=sM kk.A bl bo f kk.V.nc++(oR kk.A 3 [.chan (some kk.bM),.chan (some kk.bJ)] false::oR bo 0 [.slice (some ⟨kk.O,0,none⟩) kk.V.nc kk.V.nc] false::oR bl 0 [Yw kk.V kk.lb 0] false::(X++M)),W:=[bR rs [.slice none 0 0,.slice none 0 0]],Lf:=Lf,n:=9990,bi:=f.bi,bl:=bl,bo:=bo}
structure Sj(V:Ev0)(Q:eP)(dL:p9)(eu:bU)(M:aW):Prop where
 ro:∀r∈M,r.wr=false
 fl:Flat M
 OT:0<V.nc->∃ca,Q=some ca/\Has M (fR ca 2 (λj=>[i6 (V.st j),.slice (dL j) (V.nt j) (eu j)]) V.nc false)
 xm:∀c,c<V.nc->0<V.nt c->∃ta,dL c=some ta/\Has M (fR ta 3 (λj=>s9 (V.tr c j)) (V.nt c) false)
 err:Has M (oR 0 0 [.iface 217 (.agg #[.pointer (some ⟨1,121,none⟩)])] false)
def NA{k j:Nat}(c:j<k)(a:r∈HQ A bl bo f j):Has (sM A bl bo f k) r:=by
 have b:r∈sM A bl bo f k:=mL.2 ⟨j,aZ.2 c,a⟩;let⟨i,c⟩:=lP b;refine⟨?_,i,c⟩;simp only[HQ,ak,bH,or_false]at a;rcases a with rfl|rfl|rfl|rfl|rfl<;>rfl
def RD(y:wM V)(v:∀x∈l,x<w0.heap.size){cR:aC}{lT:cO}{s:aj}(z:w0.heap.size<=A)(t:w0.heap.size<=bM)(w:w0.heap.size<=bJ)(i:bM≠bJ)(B:Ss V bM bJ f V.nc s)(g:Sj V Q dL eu M)(q:Flat X)(p:∀r∈X,r.wr=false)(e:tV V lb J 0 (X++M))(o:Has X (tQ (lb V.nl) .nilIface (-1) J))(n:Has X (oR (lb V.nl) 3 [.slice Q V.nc I,.slice (some ⟨HD,0,none⟩) V.nc V.nc] false)):
 tZ (Kk w0 l (Ys A J HD O V lb Q I dL eu bM bJ) f cR lT X M rs bl bo Lf):=by
 have up:∀{r},Has (X++M) r->Has (Kk w0 l (Ys A J HD O V lb Q I dL eu bM bJ) f cR lT X M rs bl bo Lf).S r:=λh=>h.cons.cons.cons.app _;have h:∀{j r},j<V.nc->r∈HQ A bl bo f j->Has (Kk w0 l (Ys A J HD O V lb Q I dL eu bM bJ) f cR lT X M rs bl bo Lf).S r:=λb a=>(NA b a).pre _;refine⟨y,rfl,bI ..,λx d=>?_,z,t,w,i,λu=>?_,?_,?_,?_,?_,λj b=>h b (by simp[HQ]),?_,?_⟩
 .rcases ak.1 d with rfl|d
  .exact az _
  .have:=v x d;show x<=A;omega
 .let⟨d,m,k⟩:=g.OT u;subst m;exact⟨λj b=>up (e.lay j (gl _) b),λj b d=>up (e.Ig j (gl _) b d),λj b d=>up (e.Mi j (gl _) b d),λj b d=>up (e.Lh j (gl _) b d),λj b d=>up (e.Kj j (gl _) b d),λj b d=>up (e.Tn j (gl _) b d),up (o.pre _),up (n.pre _),up (k.app _),λc e d=>by
   let⟨b,i,h⟩:=g.xm c e d;exact⟨b,i,up (h.app _)⟩,up (g.err.app _)⟩
 .exact(Bn _ _ _ f _).app ((((q.app g.fl).cons rfl).cons rfl).cons rfl)
 .exact Flat.nil.cons rfl
 .intro r a;rcases dJ.1 a with a|a
  .let⟨j,_,a⟩:=mL.1 a;simp only[HQ,ak,bH,or_false]at a;rcases a with rfl|rfl|rfl|rfl|rfl<;>rfl
  .rcases ak.1 a with rfl|a
   .rfl
   .rcases ak.1 a with rfl|a
    .rfl
    .rcases ak.1 a with rfl|a
     .rfl
     .rcases dJ.1 a with a|a
      .exact p r a
      .exact g.ro r a
 .exact Has.app (C:=_::_) ⟨rfl,0,rfl⟩ _
 .exact Has.app (C:=_::_::_) ⟨rfl,1,rfl⟩ _
 .exact Has.app (C:=_::_::_::_) ⟨rfl,2,rfl⟩ _
def Sat.zn(h:Sat (cP N l []) w M)(b:∀p∈st,∃r∈M,r.wr=false/\∃j,r.has j/\r.ad j=p.1):Sat (cP N l st) w M:=by
 refine h.OB (λr _ j _ o=>⟨o.1,λz=>by cases z⟩) (λr d a j f o=>⟨o.1,λ_=>⟨(o.2 rfl).1,fun⟨p,c,e⟩=>?_⟩⟩);let⟨_,k,j,_,i,g⟩:=b p c;simp only[Loc.cell.injEq]at e;exact h.dj d k a j f i (by rw[e,g])
def PV.zn{s:PS}{es:jl}(P:PV (cP N l []) s es)(h:s.ea=none)(f:∀k,(s.f k).s=false)(m:∀j,(s.bf j).s=false)(r:s.eb.c=1->∀p∈st,p.1.block≠s.eb.E):PV (cP N l st) s es:=by
 refine⟨⟨P.jr.row,P.jr.le,P.jr.mx,λa q=>?_⟩,P.en,λi=>⟨(P.eo i).1,λa wr n=>?_⟩,λk d c=>⟨(P.fb k d c).nil,(P.fb k d c).len,λz=>(by rw[f]at z;cases z),(P.fb k d c).val⟩,λk d b=>⟨(P.rm k d b).nil,(P.rm k d b).len,λz=>(by rw[f]at z;cases z),(P.rm k d b).val⟩,P.cx,λj g=>⟨(P.bg j g).nil,(P.bg j g).len,λz=>(by rw[m]at z;cases z),(P.bg j g).val⟩⟩
 .rw[h]at q;cases q
 .have o:=(P.eo i).2 a wr n;refine⟨o.1,λz=>⟨(o.2 z).1,fun⟨p,a,e⟩=>?_⟩⟩;simp only[Loc.cell.injEq]at e;exact r i p a (by rw[<-e];exact n)
def tA(A:Nat)(f:Bg)(k:Nat):List aH:=(List.range k).flatMap λj=>[dO (f.T j) (.pointer none) (.slice none 0 0) false false,fR ⟨jC.g,jC.o,none⟩ 1 jC.v (rK jC) true,wF (f.T j) A j j (f.aS j)]
def Uf{t:dh}{w:aj}{A:Nat}{f:Bg}{Y:aW}:∀k,(∀j,j<k->wF (f.T j) A j j (f.aS j)∈Y)->∀Z,Sat t w (qb f k++(Z++Y))->Sat t w (tA A f k++(Z++Y))
 |0,_,Z,h=>h
 |k+1,b,Z,h=>by
  unfold qb at h;unfold tA;rw[rj,yZ]at h ⊢;simp only[DN,List.flatMap_nil,List.append_nil]at h ⊢;rw[dU]at h ⊢;have e:=Uf k (λj g=>b j ω) ([dO (f.T k) (.pointer none) (.slice none 0 0) false false]++Z) (by rw[dU];exact h);have d:=e.Rz (Z:=[wF (f.T k) A k k (f.aS k)]) λr a=>by
   simp only[ak,bH,or_false]at a;subst a;exact⟨gF _ (gF _ (b k ω)),rfl⟩
  have b:=Sat.qj d (r:=fR ⟨jC.g,jC.o,none⟩ 1 jC.v (rK jC) true) rfl rfl;refine b.perm ?_;have c:=fA [fR ⟨jC.g,jC.o,none⟩ 1 jC.v (rK jC) true,wF (f.T k) A k k (f.aS k)] (tA A f k++[dO (f.T k) (.pointer none) (.slice none 0 0) false false]) (Z++Y);unfold tA at c ⊢;simpa using c
def Vg(b:yI V L){a:mW}:tS (gC bl bo (Ys A J HD O V lb Q I dL eu bM bJ) L f V.nc q U a)=tA A f V.nc:=by
 unfold tS tA;refine so _ _ V.nc λj a=>?_;have h:=b.tk j a;unfold j7;show[dO (f.T j) (j9 _ (L.tk j).o) (su jC 0) (L.tk j).x (L.tk j).e,_,wF (f.T j) A j (L.tk j).c (f.aS j)]=_;rw[h.1,h.2.2.1,h.2.2.2.1,h.2.2.2.2];rfl
def VZ(a:yI V L){b:mW}:gS (gC bl bo (Ys A J HD O V lb Q I dL eu bM bJ) L f V.nc q U b)=gT V lb 0++(oR A 2 [i6 V.nc] true::(tA A f V.nc++T3 A bl bo f V.nc)):=by
 unfold gS xS;rw[Vg a];unfold gA wS gT;rw[List.range_eq_range',Al,show(gC bl bo (Ys A J HD O V lb Q I dL eu bM bJ) L f V.nc q U b).l.wl=0 from a.wl];simp only[a.gt];rfl
def Sk(C T P G Y:aW)(a:aH):(C++(T++((P++(G++[a]))++Y))).Perm (P++((G++(a::(T++C)))++Y)):=by
 have c:=fA C T ((P++(G++[a]))++Y);have b:=fA (T++C) (P++(G++[a])) Y;rw[dU]at b;have a:=c.trans b;simpa using a
def Po(hV:wM V)(hL:yI V L)(hf:Fin V Lf m none L)(U8:0<ng)(hl:∀x∈l,x<w0.heap.size){a1:Act}{S:aj}{B1:Nat}{c:mW}(QX:E.kind=.normal)(qh:E.fn=24)(hA:w0.heap.size<=A)(x:A<B1)(hw:w0.heap.size<=bM)(he:w0.heap.size<=bJ)(x:bM≠bJ)(Nt:a1.defers=[])(zS:S.heap.size=B1)(hI:Ss V bM bJ f V.nc S)(hM:Sj V Q dL eu M)(hXf:Flat X)(hXr:∀r∈X,r.wr=false)(hS:tV V lb J 0 (X++M))(Hj:Has X (tQ (lb V.nl) .nilIface (-1) J))(Bl:Has X (oR (lb V.nl) 3 [.slice Q V.nc I,.slice (some ⟨HD,0,none⟩) V.nc V.nc] false))(hK:K2 w0 A (BM bM bJ f V.nc) S)(hP:PV (cP w0.heap.size (A::l) []) (gC bl bo (Ys A J HD O V lb Q I dL eu bM bJ) L f V.nc q U c) (bA (gC bl bo (Ys A J HD O V lb Q I dL eu bM bJ) L f V.nc q U c)))(hQ:QI (gC bl bo (Ys A J HD O V lb Q I dL eu bM bJ) L f V.nc q U c))(hq:q.length=V.nc)(S1:St (cP w0.heap.size (A::l) []) B1 53 [(47,ptr A),(11,ptr bo),(9,ptr J),(4,ptr rs)] (pM (gC bl bo (Ys A J HD O V lb Q I dL eu bM bJ) L f V.nc q U c)++(oR A 2 [i6 V.nc] true::(qb f V.nc++(sM A bl bo f V.nc++(oR A 3 [.chan (some bM),.chan (some bJ)] false::oR bo 0 [.slice (some ⟨O,0,none⟩) V.nc V.nc] false::oR bl 0 [Yw V lb 0] false::bR rs [.slice none 0 0,.slice none 0 0]::(gT V lb 0++(X++M))))))) 0 a1 S)(K:∀(Z:aC)(P:Nat)(s:PS)(Y:aW)(w':aj),0<P->s.k=(Kk w0 l (Ys A J HD O V lb Q I dL eu bM bJ) f Z (v::y) X M rs bl bo Lf).k->Lf s.l->Old w0 w'->Sat (cP w0.heap.size (A::l) []) w' (bR rs [.slice (some ⟨O,0,none⟩) V.nc V.nc,.slice s.ea s.l.el s.ec]::(pM s++(Y++(Kk w0 l (Ys A J HD O V lb Q I dL eu bM bJ) f Z (v::y) X M rs bl bo Lf).S)))->PV (cP w0.heap.size (A::l) []) s (bA s)->(∀j,j<V.nc->fu (Y++(Kk w0 l (Ys A J HD O V lb Q I dL eu bM bJ) f Z (v::y) X M rs bl bo Lf).S) (s.oh j) (s.l.ou j).b.ch)->
 nM prog Post (Old w0) (jq (A::l)) P (G (v.finish (.tuple #[.agg #[.slice (some ⟨O,0,none⟩) V.nc V.nc,.slice s.ea s.l.el s.ec],i6 0,i6 0])) y) w'):
 nM prog Post (K2 w0 A (BM bM bJ f V.nc)) (jq (A::l)) ng (G (E.at a1 (pc prog 24 69 [false,false] [])) (v::y)) S:=by
 have F:=NN (Post:=Post) (w0:=w0) (A:=A) (cc:=BM bM bJ f V.nc) (l:=A::l) (bI ..) ng;refine Af F QX 48 39 #[ptr A] ρ ρ δ S1 λZ hcR=>At.keep (K':=Old w0) (λd=>hK.1) ?_;have H:=RD (cR:=Z) (lT:=v::y) (rs:=rs) (bl:=bl) (bo:=bo) (Lf:=Lf) (O:=O) hV hl hA hw he x hI hM hXf hXr hS Hj Bl;have ZJ:Sat (cP w0.heap.size (A::l) []) S (pM (gC bl bo (Ys A J HD O V lb Q I dL eu bM bJ) L f V.nc q U c)++(gS (gC bl bo (Ys A J HD O V lb Q I dL eu bM bJ) L f V.nc q U c)++([bR rs [.slice none 0 0,.slice none 0 0]]++(Kk w0 l (Ys A J HD O V lb Q I dL eu bM bJ) f Z (v::y) X M rs bl bo Lf).S))):=by
  rw[show gS (gC bl bo (Ys A J HD O V lb Q I dL eu bM bJ) L f V.nc q U c)=_ from VZ hL];have bgm:∀{j r},j<V.nc->r∈HQ A bl bo f j->r∈[bR rs [.slice none 0 0,.slice none 0 0]]++(Kk w0 l (Ys A J HD O V lb Q I dL eu bM bJ) f Z (v::y) X M rs bl bo Lf).S:=λn hr=>gF _ (gU _ (mL.2 ⟨_,aZ.2 n,hr⟩));generalize hPP:pM (gC bl bo (Ys A J HD O V lb Q I dL eu bM bJ) L f V.nc q U c)=PP at S1 ⊢;have h0:Sat (cP w0.heap.size (A::l) []) S (qb f V.nc++((PP++(gT V lb 0++[oR A 2 [i6 V.nc] true]))++([bR rs [.slice none 0 0,.slice none 0 0]]++(sM A bl bo f V.nc++(oR A 3 [.chan (some bM),.chan (some bJ)] false::oR bo 0 [.slice (some ⟨O,0,none⟩) V.nc V.nc] false::oR bl 0 [Yw V lb 0] false::(X++M)))))):=by
   refine S1.sat.perm ?_;have p1:=fA (PP++[oR A 2 [i6 V.nc] true]) (qb f V.nc) (sM A bl bo f V.nc++(oR A 3 [.chan (some bM),.chan (some bJ)] false::oR bo 0 [.slice (some ⟨O,0,none⟩) V.nc V.nc] false::oR bl 0 [Yw V lb 0] false::bR rs [.slice none 0 0,.slice none 0 0]::(gT V lb 0++(X++M))));have G:=fA (sM A bl bo f V.nc++[oR A 3 [.chan (some bM),.chan (some bJ)] false,oR bo 0 [.slice (some ⟨O,0,none⟩) V.nc V.nc] false,oR bl 0 [Yw V lb 0] false]) (bR rs [.slice none 0 0,.slice none 0 0]::gT V lb 0) (X++M);have x:=fA [oR A 2 [i6 V.nc] true,bR rs [.slice none 0 0,.slice none 0 0]] (gT V lb 0) (sM A bl bo f V.nc++(oR A 3 [.chan (some bM),.chan (some bJ)] false::oR bo 0 [.slice (some ⟨O,0,none⟩) V.nc V.nc] false::oR bl 0 [Yw V lb 0] false::(X++M)));have d:(PP++(oR A 2 [i6 V.nc] true::(qb f V.nc++(sM A bl bo f V.nc++(oR A 3 [.chan (some bM),.chan (some bJ)] false::oR bo 0 [.slice (some ⟨O,0,none⟩) V.nc V.nc] false::oR bl 0 [Yw V lb 0] false::bR rs [.slice none 0 0,.slice none 0 0]::(gT V lb 0++(X++M))))))).Perm (qb f V.nc++(PP++(oR A 2 [i6 V.nc] true::(sM A bl bo f V.nc++(oR A 3 [.chan (some bM),.chan (some bJ)] false::oR bo 0 [.slice (some ⟨O,0,none⟩) V.nc V.nc] false::oR bl 0 [Yw V lb 0] false::bR rs [.slice none 0 0,.slice none 0 0]::(gT V lb 0++(X++M))))))):=by simpa using p1
   refine d.trans (eN _ ?_);rw[dU];refine eN _ ?_;have d:(oR A 2 [i6 V.nc] true::(sM A bl bo f V.nc++(oR A 3 [.chan (some bM),.chan (some bJ)] false::oR bo 0 [.slice (some ⟨O,0,none⟩) V.nc V.nc] false::oR bl 0 [Yw V lb 0] false::bR rs [.slice none 0 0,.slice none 0 0]::(gT V lb 0++(X++M))))).Perm (oR A 2 [i6 V.nc] true::bR rs [.slice none 0 0,.slice none 0 0]::(gT V lb 0++(sM A bl bo f V.nc++(oR A 3 [.chan (some bM),.chan (some bJ)] false::oR bo 0 [.slice (some ⟨O,0,none⟩) V.nc V.nc] false::oR bl 0 [Yw V lb 0] false::(X++M))))):=List.Perm.cons _ (by simpa using G);refine d.trans ?_;simpa using x
  have C:=Uf (A:=A) V.nc (λj n=>bgm n (by simp[HQ])) _ h0;have N:=C.Rz (Z:=T3 A bl bo f V.nc) λr hr=>by
   refine⟨gF _ (gF _ ?_),(ww r hr).1⟩;let⟨j,n,hr⟩:=mL.1 hr;refine bgm (aZ.1 n) ?_;simp only[ak,bH,or_false]at hr;rcases hr with rfl|rfl|rfl<;>simp[HQ,ZE]
  exact N.perm (Sk ..)
 generalize u:Kk w0 l (Ys A J HD O V lb Q I dL eu bM bJ) f Z (v::y) X M rs bl bo Lf=R at*;have eA:R.k.A=A:=by rw[<-u]
 have eI:R.wI=w0:=by rw[<-u]
 have el:R.l=A::l:=by rw[<-u]
 have eV:R.k.V=V:=by rw[<-u]
 have ew:R.k.bM=bM:=by rw[<-u]
 have ee:R.k.bJ=bJ:=by rw[<-u]
 have eL:R.Lf=Lf:=by rw[<-u]
 have Wa:dD R (yc R (gC bl bo (Ys A J HD O V lb Q I dL eu bM bJ) L f V.nc q U c) ng) (gC bl bo (Ys A J HD O V lb Q I dL eu bM bJ) L f V.nc q U c)=gS (gC bl bo (Ys A J HD O V lb Q I dL eu bM bJ) L f V.nc q U c)++([bR rs [.slice none 0 0,.slice none 0 0]]++R.S):=by rw[<-u];rfl
 have W:∀j,j<V.nc->Has R.S (wF (f.T j) A j j (f.aS j)):=λj n=>by rw[<-u];exact(NA n (by simp[HQ])).pre _
 have hmS:∀{r},Has R.S r->Has (pM (gC bl bo (Ys A J HD O V lb Q I dL eu bM bJ) L f V.nc q U c)++(gS (gC bl bo (Ys A J HD O V lb Q I dL eu bM bJ) L f V.nc q U c)++([bR rs [.slice none 0 0,.slice none 0 0]]++R.S))) r:=λh=>((h.app _).app _).app _;let⟨_,d,ZB⟩:=hmS H.ch;have Qi:∀p∈Oz R (gC bl bo (Ys A J HD O V lb Q I dL eu bM bJ) L f V.nc q U c),∃r∈pM (gC bl bo (Ys A J HD O V lb Q I dL eu bM bJ) L f V.nc q U c)++(gS (gC bl bo (Ys A J HD O V lb Q I dL eu bM bJ) L f V.nc q U c)++([bR rs [.slice none 0 0,.slice none 0 0]]++R.S)),r.wr=false/\∃j,r.has j/\r.ad j=p.1/\r.get j=p.2:=λp B=>by
  rcases dJ.1 B with B|B
  .simp only[qd,ak,bH,or_false]at B;rcases B with rfl|rfl
   .exact⟨_,gO ZB,rfl,(0,0),⟨aD,(by decide:0<2)⟩,rfl,rfl⟩
   .exact⟨_,gO ZB,rfl,(0,1),⟨aD,(by decide:1<2)⟩,rfl,rfl⟩
  .obtain⟨qq,hqq,rfl⟩:=gV.1 B;obtain⟨j,n,rfl⟩:=gV.1 hqq;have d:j<V.nc:=aZ.1 n;let⟨_,i,T⟩:=hmS (W j d);exact⟨_,gO T,rfl,(0,3),⟨aD,(by decide:3<4)⟩,rfl,rfl⟩
 have d:Flat (gS (gC bl bo (Ys A J HD O V lb Q I dL eu bM bJ) L f V.nc q U c)++([bR rs [.slice none 0 0,.slice none 0 0]]++R.S)):=Flat.app (bO.2 (r9 _ λr hr=>(ww r hr).2)) ((Flat.nil.cons rfl).app H.fl);have hTb:∀j,j<V.nc->f.T j<S.heap.size:=λj n=>au (Has.sat ZJ (hmS (W j n)));have hTE:∀j,j<V.nc->c.c=1->f.T j≠c.E:=λj n hc=>by
  let⟨_,i,T⟩:=hmS (W j n);refine l9 (b:=f.T j) ZJ hP d T (λz=>by subst z;have h9:=cT (λo=>o.map aH.wr) T;cases h9) (λz=>by subst z;have h9:=cT (λo=>o.map aH.wr) T;cases h9) (j0:=(0,0)) ⟨aD,(by decide:0<4)⟩ rfl (eR c) (gU _ (by simp[pM])) c.E 128 c.n ?_;show(match c.c with|0=>none|_+1=>some (c.E,128,c.n))=_;rw[hc]
 have hl0:({L with al:=V.nc,tl:=V.nc}:LS)=L:=by
  have C:=hL.al;have N:=hL.tl;cases L;simp only at C N;subst C;rw[N]
 have c0:Co R (yc R (gC bl bo (Ys A J HD O V lb Q I dL eu bM bJ) L f V.nc q U c) ng) (gC bl bo (Ys A J HD O V lb Q I dL eu bM bJ) L f V.nc q U c) S.heap.size:=by
  have d:=hV.nc;refine Wh H (by rw[<-u]) U8 (by rw[eI];omega) (by rw[eA];omega) (by rw[ew,ee];exact hI.wl) hTb (λj n=>?_) (λi j T n e=>hI.inj i T j n e) (by rw[H.hn];show V.nc<=_;omega) (λj n=>by rw[<-u];rfl) (λi T=>?_) (λi T=>(hQ.lt i T).1) (λt d=>?_) ?_ hL.wl
  .have:=hI.lt j n;rw[eI,ew,ee];exact⟨by show _<=f.aS j;omega,this.1,by show f.aS j≠_;omega,by show f.aS j≠_;omega⟩
  .have KG:i<V.nc:=(hQ.lt i T).1;have:=hL.ag i KG;exact⟨i,KG,this.2.1,this.2.2.1⟩
  .have:=hL.ag t d;exact⟨t,hQ.all t d this.2.2.2,this.2.1⟩
  .have d:q.Pairwise (fQ L.ag):=hQ.pN;refine LK (fun{a b} o hb h=>?_) d;have C:=(hL.ag a (hQ.lt a o).1).2.1;have N:=(hL.ag b (hQ.lt b hb).1).2.1;show(L.ag a).t≠(L.ag b).t;rw[C,N];intro e;have:a=b:=ω
   subst this;exact nE h h
 have hKD:KD R.wI R.k.A (cD R (yc R (gC bl bo (Ys A J HD O V lb Q I dL eu bM bJ) L f V.nc q U c) ng)) (Oz R (gC bl bo (Ys A J HD O V lb Q I dL eu bM bJ) L f V.nc q U c)) S:=by
  refine⟨by rw[eI];exact hK.1,⟨λp B=>?_,?_⟩,⟨_,by rw[eA];exact hK.2.2.1.1⟩,by rw[eA];exact hK.2.2.1.2,⟨_,by rw[eA];exact hK.2.2.2.1⟩⟩
  .let⟨r,C,_,j,d,b,e⟩:=Qi p B;rw[<-b,<-e];exact(ZJ.mem C).val j d
  .have:cD R (yc R (gC bl bo (Ys A J HD O V lb Q I dL eu bM bJ) L f V.nc q U c) ng)=BM bM bJ f V.nc:=by
    show R.k.bM::R.k.bJ::((List.range V.nc).map λj=>(f.T j,f.aS j)).map Prod.snd=_;rw[List.map_map,ew,ee];rfl
   rw[this];exact hK.2.1.2
 have hSg:Sat (jO R (yc R (gC bl bo (Ys A J HD O V lb Q I dL eu bM bJ) L f V.nc q U c) ng)) S (pM (gC bl bo (Ys A J HD O V lb Q I dL eu bM bJ) L f V.nc q U c)++dD R (yc R (gC bl bo (Ys A J HD O V lb Q I dL eu bM bJ) L f V.nc q U c) ng) (gC bl bo (Ys A J HD O V lb Q I dL eu bM bJ) L f V.nc q U c)):=by
  rw[Wa];show Sat (cP R.wI.heap.size R.l (Oz R (gC bl bo (Ys A J HD O V lb Q I dL eu bM bJ) L f V.nc q U c))) _ _;rw[eI,el];exact ZJ.zn λp B=>by let⟨r,C,N,j,d,b,_⟩:=Qi p B;exact⟨r,C,N,j,d,b⟩
 have hPg:PV (jO R (yc R (gC bl bo (Ys A J HD O V lb Q I dL eu bM bJ) L f V.nc q U c) ng)) (gC bl bo (Ys A J HD O V lb Q I dL eu bM bJ) L f V.nc q U c) (bA (gC bl bo (Ys A J HD O V lb Q I dL eu bM bJ) L f V.nc q U c)):=by
  show PV (cP R.wI.heap.size R.l (Oz R (gC bl bo (Ys A J HD O V lb Q I dL eu bM bJ) L f V.nc q U c))) _ _;rw[eI,el];refine hP.zn rfl (λ_=>rfl) (λ_=>rfl) λhc p B=>?_;have b:A<c.E:=(hP.eo hc).1;rcases dJ.1 B with B|B
  .simp only[qd,ak,bH,or_false]at B;rcases B with rfl|rfl
   .show R.k.A≠c.E;rw[eA];omega
   .show R.k.A≠c.E;rw[eA];omega
  .obtain⟨qq,hqq,rfl⟩:=gV.1 B;obtain⟨j,n,rfl⟩:=gV.1 hqq;exact hTE j (aZ.1 n) hc
 have VT:J0 R Post:=by
  intro P s b w' U7 D;let⟨Y,hY⟩:=D.dW;have eW:R.W=[bR rs [.slice none 0 0,.slice none 0 0]]:=by rw[<-u]
  have e1:R.cR=Z:=by rw[<-u]
  have e2:R.lT=v::y:=by rw[<-u]
  have VU:=D.sat;have XW:=D.pv;have XX:=D.old;rw[hY,eW]at VU;rw[eI,el]at VU XW ⊢;rw[eI]at XX;rw[e1,e2];have b:Sat (cP w0.heap.size (A::l) []) w' (bR rs [.slice none 0 0,.slice none 0 0]::(pM s++(Y++R.S))):=VU.perm (by
   have:=(fA [bR rs [.slice none 0 0,.slice none 0 0]] (pM s++Y) R.S).symm;simpa using this)
  have c:R.bo=bo:=by rw[<-u]
  have d:R.k.O=O:=by rw[<-u]
  have e:s.k.J=J:=by rw[D.hk,<-u]
  have Ja:=H.Ja;rw[c,d,eV]at Ja;have c:=b.get ((Ja.app Y).app (pM s)).cons;refine hcR (λg w=>nM prog Post (Old w0) (jq (A::l)) P g w) (.tuple #[]) w' λd b DF=>?_;have S2:St (cP w0.heap.size (A::l) []) w'.heap.size 53 _ _ 0 d w':=⟨b,c,rfl⟩;rw[<-e]at S2;have b:d.defers=[]:=DF.trans Nt;clear DF;have DF:=b;have F:=nA (P:=prog) (Post:=Post) (wI:=w0) (l:=A::l) P;have hDA:=D.AB;rw[eA]at hDA;have b:=XX.2.2.2.1;generalize hB2:w'.heap.size=B2 at*;have hB:∀(a:Addr)(wr:Bool),B2<=a.block->cP w0.heap.size (A::l) [] a wr:=λa wr hb=>⟨fun⟨A',C,N⟩=>by
   have a:A'<B2:=by
    rcases ak.1 C with rfl|C
    .omega
    .have:=hl A' C;omega
   rcases N with N|N<;>(cases N;simp only at hb;omega),λ_=>⟨ω,fun⟨p,B,_⟩=>by cases B⟩⟩
  refine aq (λM=>bh 1 (0,1) (.slice s.ea s.l.el s.ec) (bh 1 (0,0) (.slice (some ⟨O,0,none⟩) V.nc V.nc) (M))) 0 F hB QX DF S2 11 [0,0,0,1,4,0,0,1,1,0,0,2] 1 [] [(6,i6 0),(5,i6 0),(4,ptr rs)] 81 4 [] λa c b a d d d=>cC F b QX qh a [1,0,0,2] (.tuple #[.agg #[.slice (some ⟨O,0,none⟩) V.nc V.nc,.slice s.ea s.l.el s.ec],i6 0,i6 0]) ?_;refine At.assume gN λa=>K Z P s Y c U7 (by rw[D.hk,<-u]) (by rw[<-eL];exact D.l) a ?_ XW (λj n=>?_)
  .rw[u];exact b.sat.tail
  .have hc:=D.ch j (by rw[eV];exact n);rw[u];rcases hc with hc|⟨ca,cap',i,C,N⟩
   .exact .inl hc
   .have hm:gQ ca (s.l.ou j).b.ch∈Y++R.S:=by
     have:=gO N;rw[hY,eW]at this;simp only[dU,dJ,ak,bH,or_false]at this;rcases this with z|z|z
     .exact gU _ z
     .have h9:=cT aH.wr z;cases h9
     .exact gF _ z
    let⟨a,KG⟩:=lP hm;exact .inr ⟨ca,cap',a,C,KG⟩
 have:=GZ (m:=m) H VT hKD (by rw[eA];exact hK.2.2.2) (by rw[eA];exact hK.2.2.1) c0 hSg hPg hQ (Z9 hL) (λk _ _=>⟨List.Pairwise.nil,λw hw=>(by cases hw),λw hw=>(by have C:w<L.wl:=hw;rw[hL.wl]at C;cases C)⟩) (by rw[eV,eL];show Fin V Lf m none ({L with al:=V.nc,tl:=V.nc}:LS);rw[hl0];exact hf);rw[eI,el,eA]at this;have e1:R.cR=Z:=by rw[<-u]
 have e2:R.lT=v::y:=by rw[<-u]
 rw[e1,e2]at this;exact this
def mq{C:aW}:Has C r↔r.wr=false/\r∈C:=⟨fun⟨b,i,a⟩=>⟨b,gO a⟩,fun⟨b,a⟩=>⟨b,lP a⟩⟩
def Pm(B:wM V)(P:yI V L)(S:Fin V Lf m none L)(t:0<ng)(u:∀x∈l,x<w0.heap.size)(D:Sj V Q dL eu M)(g:0<V.nl->∃m,sL=some m/\Has M (fR m 6 (λi=>EV (V.ly i)) V.nl false))(w:Sat (cP w0.heap.size l []) w0 M)(e:O3 (cP w0.heap.size l []) (nM prog Post (Old w0) (jq l) ng) w0.heap.size M 16 #[.slice sL V.nl H,.slice Q V.nc I] (.tuple #[i6 0,i6 0]))(K:∀(c A:Nat)(s:PS)(C:aW)(k:aj),0<c->w0.heap.size<=A->A<k.heap.size->Lf s.l->s.k.V=V->Old w0 k->Sat (cP w0.heap.size (A::l) []) k (pM s++C)->PV (cP w0.heap.size (A::l) []) s (bA s)->(∀r,Has M r->Has C r)->(∀j,j<V.nc->fu C (s.oh j) (s.l.ou j).b.ch)->
 nM prog Post (Old w0) (jq (A::l)) c (G (v.finish (.tuple #[.agg #[.slice (some ⟨s.k.O,0,none⟩) V.nc V.nc,.slice s.ea s.l.el s.ec],i6 0,i6 0])) y) k):
 nM prog Post (Old w0) (jq l) ng (G (Frame.enter prog 24 #[.slice sL V.nl H,.slice Q V.nc I] .normal) (v::y)) w0:=by
 have F:=nA (P:=prog) (Post:=Post) (wI:=w0) (l:=l) ng;have T:∀(a:Addr)(wr:Bool),w0.heap.size<=a.block->cP w0.heap.size l [] a wr:=λa wr N=>⟨fun⟨a,d,b⟩=>by
  have:=u a d;rcases b with b|b<;>(cases b;simp only at N;omega),λ_=>⟨N,fun⟨p,o,_⟩=>by cases o⟩⟩
 refine Pq F T B g w (az _) e λE T G F lb HD J O bl bo rs X i j p m o n L x w C=>?_;have g:∀{r},Has X r->Has (X.filter λr=>!r.wr) r:=λh=>by
  let⟨d,b⟩:=mq.1 h;exact mq.2 ⟨d,mK.2 ⟨b,by simp[d]⟩⟩
 have A:∀{r},Has (X++M) r->Has ((X.filter λr=>!r.wr)++M) r:=λh=>by
  let⟨d,b⟩:=mq.1 h;rcases dJ.1 b with z|z
  .exact(g (mq.2 ⟨d,z⟩)).pre _
  .exact(mq.2 ⟨d,z⟩:Has M _).app _
 have h:∀r∈X.filter λr=>!r.wr,r.wr=false:=λr e=>by simpa using(mK.1 e).2
 have a:Flat (X.filter λr=>!r.wr):=by
  rw[bO]at n ⊢;exact λr e=>n r (mK.1 e).1
 have z:tV V lb J 0 ((X.filter λr=>!r.wr)++M):=L.up λr e=>A e
 have A:St (cP w0.heap.size l []) F 53 _ (bR bo [.slice (some ⟨O,0,none⟩) V.nc V.nc]::fR ⟨O,0,none⟩ 4 (λ_=>[i6 0,i6 0,i6 0,.slice none 0 0]) V.nc true::bR bl [Yw V lb 0]::fR ⟨HD,0,none⟩ 1 (λ_=>[i6 0]) V.nc true::bR J [.slice none 0 0]::bR rs [.slice none 0 0,.slice none 0 0]::((gT V lb 0++(X.filter λr=>!r.wr))++M)) 0 T G:=
  ⟨C.env,C.sat.sub (by
   repeat apply List.Sublist.cons_cons
   rw[dU];exact nN (D7 List.filter_sublist _) _),C.sz⟩
 refine Uj B P u i j p m o (((bO.2 (NK V lb 0)).app a).app D.fl) D.OT A λbM bJ f q U f f f f d b C A f q p o m l f R=>Po B P S t u i j ω ω d b C A q p D a h z (g x) (g w) o m l f (by rw[dU]at R;exact R) λa c s Y k l d j i f h g=>?_;have m:s.k.O=O:=by rw[d]
 have b:=au (f.tail.val 0 _ rfl (0,0) ⟨aD,(by decide:0<2)⟩);have a:s.k.A=F+2:=by rw[d]
 have:=K c (F+2) s _ k l ω (by rw[<-a];exact b) j (by rw[d]) i f.tail h (λr e=>((((e.app _).cons.cons.cons).app _).app Y)) g;rw[m]at this;exact this
def Ui(F:aB prog true (DX t) D)(h:HB B t){nl b:Nat}{c i:Int}(a:c≠0)(d:Sat t w M)(a:B<=w.heap.size)(e:O3 t D B M 16 #[.slice sL nl H,.slice Q b I] (.tuple #[i6 c,i6 i]))(K:∀a,Sat t a M->w.heap.size<=a.heap.size->D (G (v.finish (.tuple #[.agg #[.slice none 0 0,.slice none 0 0],i6 c,i6 i])) y) a):
 D (G (Frame.enter prog 24 #[.slice sL nl H,.slice Q b I] .normal) (v::y)) w:=by
 refine cJ func24 d 53 λE a g a a f d k j=>aq (λM=>bR (g) [.slice none 0 0,.slice none 0 0]::(M)) 1 F h a d k 11 [] 1 [] [(17,.slice Q b I),(16,.slice sL nl H),(4,ptr g),(0,.slice sL nl H),(1,.slice Q b I)] 11 1 [] λd d j d k k k=>ah F a d j 18 16 #[.slice sL nl H,.slice Q b I] λb b=>e _ _ _ _ (λr d=>d.cons) j.sat ω λd e d=>b _ _ _ e λb b e b d=>TP F h a b e 21 [0,0,0,2] 6 [] [(6,i6 i),(5,i6 c),(4,ptr g)] 33 3 [] [] [(c !=0,true)] [] [] λb e d b g g g=>cC F d a f b [0,0,0,2] (.tuple #[.agg #[.slice none 0 0,.slice none 0 0],i6 c,i6 i]) ?_;exact K e d.sat.tail ω
def nC(n:Nat)(L:oF)(m:Nat)(g:Nat->Cl):Ev0:=⟨n,λi=>⟨L i 0,L i 1,L i 2,L i 3,L i 4,L i 5⟩,m,λi=>(g i).st,λi=>(g i).nt,λi j=>⟨(g i).T j 0,(g i).T j 1,(g i).T j 2⟩⟩
def BO(L:oF):∀(m k:Nat)(r:Int),cZ L m k r=k+m->∀j,k<=j->j<k+m->aF (L j 0) (L j 1) (L j 2) (L j 3) (L j 4) (L j 5)=true
 |0,k,r,_,j,d,c=>ω
 |m+1,k,r,h,j,d,c=>by
  unfold cZ at h;by_cases a:2<(if L k 0=1 then r+1 else r)\/aF (L k 0) (L k 1) (L k 2) (L k 3) (L k 4) (L k 5)=false
  .rw[sJ a]at h;omega
  .rw[af a]at h;by_cases e:j=k
   .subst e;cases b:aF (L j 0) (L j 1) (L j 2) (L j 3) (L j 4) (L j 5)with
    |true=>rfl
    |false=>exact absurd (.inr b) a
   .exact BO L m (k+1) (if L k 0=1 then r+1 else r) (by rw[h];omega) j ω ω
def uT(g:Nat->Cl):∀(m k:Nat),fY g m k=k+m->∀j,k<=j->j<k+m->(g j).YM=true
 |0,k,_,j,c,b=>ω
 |m+1,k,h,j,c,b=>by
  unfold fY at h;split at h
  .omega
  .rename_i a;by_cases e:j=k
   .subst e;simpa using a
   .exact uT g m (k+1) ω j ω ω
def uG(T:oF):∀(m k:Nat),lQ T m k=true->∀j,k<=j->j<k+m->(1<=T j 0/\T j 0<=4)/\(0<=T j 2/\T j 2<=1000)
 |0,k,_,j,b,a=>ω
 |m+1,k,h,j,b,a=>by
  unfold lQ at h;simp only[bZ,eB,decide_eq_true_eq]at h;by_cases e:j=k
  .subst e;exact⟨by simpa using h.1.1,by simpa using h.1.2⟩
  .exact uG T m (k+1) h.2 j ω ω
def GU{ly:Nat->ju}{L:oF}(a:∀i,(ly i).k=L i 0):∀(m k:Nat)(r:Int),r=(Ih ly k:Int)->r<=2->cZ L m k r=k+m->Ih ly (k+m)<=2
 |0,k,r,c,b,_=>by rw[jI];omega
 |m+1,k,r,c,b,h=>by
  unfold cZ at h;by_cases b:2<(if L k 0=1 then r+1 else r)\/aF (L k 0) (L k 1) (L k 2) (L k 3) (L k 4) (L k 5)=false
  .rw[sJ b]at h;omega
  .rw[af b]at h;have c:(if L k 0=1 then r+1 else r)=(Ih ly (k+1):Int):=by
    unfold Ih;rw[a k];split<;>omega
   have:=GU a m (k+1) _ c (Int.not_lt.1 λz=>b (.inl z)) (by rw[h];omega);rw[show k+(m+1)=k+1+m by omega];exact this
def zl{L:oF}(h:jG n L m g=(0,0)):wM (nC n L m g):=by
 unfold jG at h;split at h
 .cases h
 .rename_i z;split at h
  .cases h
  .rename_i B;split at h
   .cases h
   .rename_i A;split at h
    .cases h
    .rename_i l;have q:cZ L n 0 0=0+n:=by have:=yB L n 0 0;omega
     have r:fY g m 0=0+m:=by have:=BP g m 0;omega
     have o:=BO L n 0 0 q;have s:=uT g m 0 r;refine⟨by show n<=6;omega,by show m<=9;omega,λk f=>?_,?_,λk f d=>?_,λk f d=>?_,λk f d=>?_,λk f d=>?_,λk f d=>?_,λc l=>?_,λc l=>?_,λc l j y=>?_⟩
     .have e:k<n:=f;have a:=o k ω ω;show L k 0=1\/L k 0=2\/L k 0=3\/L k 0=4\/L k 0=5\/L k 0=6;unfold aF at a;by_cases q:L k 0=1
      .exact .inl q
      .by_cases r:L k 0=2
       .exact .inr (.inl r)
       .by_cases w:L k 0=3
        .exact .inr (.inr (.inl w))
        .by_cases v:L k 0=4
         .exact .inr (.inr (.inr (.inl v)))
         .by_cases u:L k 0=5
          .exact .inr (.inr (.inr (.inr (.inl u))))
          .by_cases t:L k 0=6
           .exact .inr (.inr (.inr (.inr (.inr t))))
           .rw[af q,af r,af w,af v,af u,af t]at a;cases a
     .have:=GU (ly:=(nC n L m g).ly) (λi=>rfl) n 0 0 rfl ω q;rw[bK]at this;exact this
     .have e:k<n:=f;have a:=o k ω ω;have b:L k 0=3:=d;unfold aF at a;rw[af ω,af ω,sJ b]at a;simp only[bZ,eB,decide_eq_true_eq]at a;show(1<=L k 1/\L k 1<=1000)/\(1<=L k 2/\L k 2<=20);omega
     .have e:k<n:=f;have a:=o k ω ω;have b:L k 0=4:=d;unfold aF at a;rw[af ω,af ω,af ω,sJ b]at a;simp only[bZ,eB,decide_eq_true_eq]at a;show(1<=L k 1/\L k 1<=20)/\(1<=L k 2/\L k 2<=L k 1)/\(1<=L k 3/\L k 3<=100)/\(0<=L k 4/\L k 4<=1000)/\(1<=L k 5/\L k 5<=9);omega
     .have e:k<n:=f;have a:=o k ω ω;have b:L k 0=5:=d;unfold aF at a;rw[af ω,af ω,af ω,af ω,sJ b]at a;simp only[bZ,eB,decide_eq_true_eq]at a;show(1<=L k 1/\L k 1<=9)/\(0<=L k 2/\L k 2<=1000);omega
     .have e:k<n:=f;have a:=o k ω ω;have b:L k 0=6:=d;unfold aF at a;rw[af ω,af ω,af ω,af ω,af ω,sJ b]at a;simp only[bZ,eB,decide_eq_true_eq]at a;show 1<=L k 1/\L k 1<=1000;omega
     .have e:k<n:=f;have a:=o k ω ω;have b:L k 0=1:=d;unfold aF at a;rw[sJ b]at a;simp only[bZ,eB,decide_eq_true_eq]at a;show(1<=L k 1/\L k 1<=9)/\(0<=L k 2/\L k 2<=1000)/\(1<=L k 3/\L k 3<=9)/\(0<=L k 4/\L k 4<=10000);omega
     .have p:c<m:=l;have a:=s c ω ω;simp only[Cl.YM,iF,bZ,eB,decide_eq_true_eq,mA,decide_eq_false_iff_not]at a;show 0<=(g c).st/\(g c).st<=1000;omega
     .have p:c<m:=l;have a:=s c ω ω;simp only[Cl.YM,iF,bZ,eB,decide_eq_true_eq,mA,decide_eq_false_iff_not]at a;show(g c).nt<=12;omega
     .have p:c<m:=l;have x:j<(g c).nt:=y;have a:=s c ω ω;simp only[Cl.YM,iF,bZ]at a;exact uG (g c).T (g c).nt 0 a.2 j ω ω
abbrev oG(L:oF)(i:Nat):List Value:=[i6 (L i 0),i6 (L i 1),i6 (L i 2),i6 (L i 3),i6 (L i 4),i6 (L i 5)]
def iI(F:aB prog Y (DX t) D)(o:HB B t)(n lo d:Int)(m:Sat t w M)(a:B<=w.heap.size)(K:∀a,Sat t a M->w.heap.size<=a.heap.size->D (G (v.finish (.bool (eB lo n d))) y) a):D (G (Frame.enter prog 57 #[i6 lo,i6 n,i6 d] .normal) (v::y)) w:=by
 by_cases p:lo<=n
 .have j:decide (lo<=n)=true:=ξ
  refine cJ func57 m 15 λE r s q b c a l h=>ZI F o b c a l 16 [] 126 [] 6 (.bool (decide (n<=d))) 16 1 [] [] [(decide (lo<=n),true)] [] [] λf k g i=>?_;have e:eB lo n d=decide (n<=d):=by unfold eB;simp[p]
  rw[e]at K;exact K f k.sat ω
 .have j:decide (lo<=n)=false:=ξ
  refine cJ func57 m 15 λE r s q b c a l h=>ZI F o b c a l 16 [] 84 [] 6 (.bool false) 16 1 [] [] [(decide (lo<=n),false)] [] [] λf k g i=>?_;have e:eB lo n d=false:=by unfold eB;simp[p]
  rw[e]at K;exact K f k.sat ω
def F8(F:aB prog Y (DX t) D)(h:HB B t)(k a b c d e:Int)(hS:Sat t w M)(yQ:B<=w.heap.size)(K:∀B,Sat t B M->w.heap.size<=B.heap.size->D (G (v.finish (.bool (aF k a b c d e))) y) B):D (G (Frame.enter prog 40 #[.agg #[i6 k,i6 a,i6 b,i6 c,i6 d,i6 e]] .normal) (v::y)) w:=by
 by_cases k1:k=1
 .subst k1;refine cJ func40 hS 79 λE a0 p hn f g l S Q=>aq (λM=>bR (p) [i6 1,i6 a,i6 b,i6 c,i6 d,i6 e]::(M)) 1 F h f l S 22 [0,0,0,2] 7 [] [(8,i6 a),(1,ptr p)] 22 3 [] λa1 w1 u s P R o9=>ah F f s u 9 57 #[i6 1,i6 a,i6 9] λyS i=>iI F h a 1 9 u.sat ω λw2 h2 yP=>i _ _ _ h2 λa2 B2 C j Z=>?_;cases m:eB 1 a 9<;>rw[m]at C
  .refine UF F h f g j C 17 [] 349525 [] 2 (.bool false) 40 3 [] λO q x z=>?_;rw[show aF 1 a b c d e=false by simp[aF,m]]at K;exact K O q.sat.tail ω
  refine Rb F h f j C 3 [0,0,2,1] 31 [] [(12,i6 b),(10,.bool true),(1,ptr p)] 26 3 [] λa3 O q J x z mH=>ah F f J q 13 57 #[i6 0,i6 b,i6 1000] λDl o=>iI F h b 0 1000 q.sat ω λw4 h4 FO=>o _ _ _ h4 λa4 B4 L n Bj=>?_;cases r:eB 0 b 1000<;>rw[r]at L
  .refine UF F h f g n L 13 [] 5461 [] 2 (.bool false) 40 3 [] λN A H I=>?_;rw[show aF 1 a b c d e=false by simp[aF,m,r]]at K;exact K N A.sat.tail ω
  refine Rb F h f n L 4 [0,0,3,1] 31 [] [(17,i6 c),(15,.bool true),(1,ptr p)] 31 3 [] λa5 N A Yv H I qO=>ah F f Yv A 18 57 #[i6 1,i6 c,i6 9] λcf5 W=>iI F h c 1 9 A.sat ω λw6 h6 Hf=>W _ _ _ h6 λa6 B6 S6 U YG=>?_;cases X:eB 1 c 9<;>rw[X]at S6
  .refine UF F h f g U S6 8 [] 85 [] 2 (.bool false) 40 3 [] λw7 S7 OD YQ=>?_;rw[show aF 1 a b c d e=false by simp[aF,m,r,X]]at K;exact K w7 S7.sat.tail ω
  refine Rb F h f U S6 4 [0,0,4,1] 31 [] [(22,i6 d),(20,.bool true)] 36 3 [] λa7 w7 S7 CI OD YQ DJ=>ah F f CI S7 23 57 #[i6 0,i6 d,i6 10000] λRU V=>iI F h d 0 10000 S7.sat ω λw8 h8 IV=>V _ _ _ h8 λa8 B8 S8 T FN=>?_;cases q4:eB 0 d 10000<;>rw[q4]at S8
  .refine UF F h f g T S8 3 [] 1 [] 2 (.bool false) 40 3 [] λw9 S9 Tl He=>?_;rw[show aF 1 a b c d e=false by simp[aF,m,r,X,q4]]at K;exact K w9 S9.sat.tail ω
  refine UF F h f g T S8 3 [] 1 [] 2 (.bool true) 40 3 [] λw9 S9 Tl He=>?_;rw[show aF 1 a b c d e=true by simp[aF,m,r,X,q4]]at K;exact K w9 S9.sat.tail ω
 have w:(k==1)=false:=ξ
 by_cases k2:k=2
 .subst k2;refine cJ func40 hS 79 λE a0 p hn f g l S Q=>bB (λM=>bR (p) [i6 2,i6 a,i6 b,i6 c,i6 d,i6 e]::(M)) 1 F h f g l S 28 [0,0,0,1] 29 [] 2 (.bool true) 28 6 [] λw1 u P R=>K w1 u.sat.tail ω
 have w:(k==2)=false:=ξ
 by_cases k3:k=3
 .subst k3;refine cJ func40 hS 79 λE a0 p hn f g l S Q=>aq (λM=>bR (p) [i6 3,i6 a,i6 b,i6 c,i6 d,i6 e]::(M)) 1 F h f l S 34 [0,0,0,2] 117 [] [(30,i6 a),(1,ptr p)] 34 12 [] λa1 w1 u s P R o9=>ah F f s u 31 57 #[i6 1,i6 a,i6 1000] λyS i=>iI F h a 1 1000 u.sat ω λw2 h2 yP=>i _ _ _ h2 λa2 B2 C j Z=>?_;cases m:eB 1 a 1000<;>rw[m]at C
  .refine UF F h f g j C 7 [] 85 [] 2 (.bool false) 42 12 [] λO q x z=>?_;rw[show aF 3 a b c d e=false by simp[aF,m]]at K;exact K O q.sat.tail ω
  refine Rb F h f j C 3 [0,0,2,1] 31 [] [(34,i6 b),(32,.bool true)] 38 12 [] λa3 O q J x z mH=>ah F f J q 35 57 #[i6 1,i6 b,i6 20] λDl o=>iI F h b 1 20 q.sat ω λw4 h4 FO=>o _ _ _ h4 λa4 B4 L n Bj=>?_;cases r:eB 1 b 20<;>rw[r]at L
  .refine UF F h f g n L 3 [] 1 [] 2 (.bool false) 42 12 [] λN A H I=>?_;rw[show aF 3 a b c d e=false by simp[aF,m,r]]at K;exact K N A.sat.tail ω
  refine UF F h f g n L 3 [] 1 [] 2 (.bool true) 42 12 [] λN A H I=>?_;rw[show aF 3 a b c d e=true by simp[aF,m,r]]at K;exact K N A.sat.tail ω
 have w:(k==3)=false:=ξ
 by_cases k4:k=4
 .subst k4;refine cJ func40 hS 79 λE a0 p hn f g l S Q=>aq (λM=>bR (p) [i6 4,i6 a,i6 b,i6 c,i6 d,i6 e]::(M)) 1 F h f l S 40 [0,0,0,2] 469 [] [(40,i6 a),(1,ptr p)] 40 24 [] λa1 w1 u s P R o9=>ah F f s u 41 57 #[i6 1,i6 a,i6 20] λyS i=>iI F h a 1 20 u.sat ω λw2 h2 yP=>i _ _ _ h2 λa2 B2 C j Z=>?_;cases m:eB 1 a 20<;>rw[m]at C
  .refine UF F h f g j C 24 [] 357913941 [] 2 (.bool false) 65 24 [] λO q x z=>?_;rw[show aF 4 a b c d e=false by simp[aF,m]]at K;exact K O q.sat.tail ω
  refine Rb F h f j C 5 [0,0,2,1,0,0,1,1] 511 [] [(46,i6 a),(42,.bool true),(44,i6 b),(1,ptr p)] 46 24 [] λa3 O q J x z mH=>ah F f J q 47 57 #[i6 1,i6 b,i6 a] λDl o=>iI F h b 1 a q.sat ω λw4 h4 FO=>o _ _ _ h4 λa4 B4 L n Bj=>?_;cases r:eB 1 b a<;>rw[r]at L
  .refine UF F h f g n L 18 [] 349525 [] 2 (.bool false) 65 24 [] λN A H I=>?_;rw[show aF 4 a b c d e=false by simp[aF,m,r]]at K;exact K N A.sat.tail ω
  refine Rb F h f n L 4 [0,0,3,1] 31 [] [(51,i6 c),(49,.bool true),(1,ptr p)] 51 24 [] λa5 N A Yv H I qO=>ah F f Yv A 52 57 #[i6 1,i6 c,i6 100] λcf5 W=>iI F h c 1 100 A.sat ω λw6 h6 Hf=>W _ _ _ h6 λa6 B6 S6 U YG=>?_;cases X:eB 1 c 100<;>rw[X]at S6
  .refine UF F h f g U S6 13 [] 5461 [] 2 (.bool false) 65 24 [] λw7 S7 OD YQ=>?_;rw[show aF 4 a b c d e=false by simp[aF,m,r,X]]at K;exact K w7 S7.sat.tail ω
  refine Rb F h f U S6 4 [0,0,4,1] 31 [] [(56,i6 d),(54,.bool true),(1,ptr p)] 56 24 [] λa7 w7 S7 CI OD YQ DJ=>ah F f CI S7 57 57 #[i6 0,i6 d,i6 1000] λRU V=>iI F h d 0 1000 S7.sat ω λw8 h8 IV=>V _ _ _ h8 λa8 B8 S8 T FN=>?_;cases q4:eB 0 d 1000<;>rw[q4]at S8
  .refine UF F h f g T S8 8 [] 85 [] 2 (.bool false) 65 24 [] λw9 S9 Tl He=>?_;rw[show aF 4 a b c d e=false by simp[aF,m,r,X,q4]]at K;exact K w9 S9.sat.tail ω
  refine Rb F h f T S8 4 [0,0,5,1] 31 [] [(61,i6 e),(59,.bool true)] 61 24 [] λw w9 S9 w Tl He B=>ah F f w S9 62 57 #[i6 1,i6 e,i6 9] λw w=>iI F h e 1 9 S9.sat ω λB B G=>w _ _ _ B λw w yU Zl w=>?_;cases q5:eB 1 e 9<;>rw[q5]at yU
  .refine UF F h f g Zl yU 3 [] 1 [] 2 (.bool false) 65 24 [] λw B G T=>?_;rw[show aF 4 a b c d e=false by simp[aF,m,r,X,q4,q5]]at K;exact K w B.sat.tail ω
  refine UF F h f g Zl yU 3 [] 1 [] 2 (.bool true) 65 24 [] λw B G T=>?_;rw[show aF 4 a b c d e=true by simp[aF,m,r,X,q4,q5]]at K;exact K w B.sat.tail ω
 have w:(k==4)=false:=ξ
 by_cases k5:k=5
 .subst k5;refine cJ func40 hS 79 λE a0 p hn f g l S Q=>aq (λM=>bR (p) [i6 5,i6 a,i6 b,i6 c,i6 d,i6 e]::(M)) 1 F h f l S 46 [0,0,0,2] 1877 [] [(67,i6 a),(1,ptr p)] 46 48 [] λa1 w1 u s P R o9=>ah F f s u 68 57 #[i6 1,i6 a,i6 9] λyS i=>iI F h a 1 9 u.sat ω λw2 h2 yP=>i _ _ _ h2 λa2 B2 C j Z=>?_;cases m:eB 1 a 9<;>rw[m]at C
  .refine UF F h f g j C 7 [] 85 [] 2 (.bool false) 54 48 [] λO q x z=>?_;rw[show aF 5 a b c d e=false by simp[aF,m]]at K;exact K O q.sat.tail ω
  refine Rb F h f j C 3 [0,0,2,1] 31 [] [(71,i6 b),(69,.bool true)] 50 48 [] λa3 O q J x z mH=>ah F f J q 72 57 #[i6 0,i6 b,i6 1000] λDl o=>iI F h b 0 1000 q.sat ω λw4 h4 FO=>o _ _ _ h4 λa4 B4 L n Bj=>?_;cases r:eB 0 b 1000<;>rw[r]at L
  .refine UF F h f g n L 3 [] 1 [] 2 (.bool false) 54 48 [] λN A H I=>?_;rw[show aF 5 a b c d e=false by simp[aF,m,r]]at K;exact K N A.sat.tail ω
  refine UF F h f g n L 3 [] 1 [] 2 (.bool true) 54 48 [] λN A H I=>?_;rw[show aF 5 a b c d e=true by simp[aF,m,r]]at K;exact K N A.sat.tail ω
 have n:(k==5)=false:=ξ
 by_cases hk:k=6
 .subst hk;refine cJ func40 hS 79 λE a0 p hn f g l S Q=>aq (λM=>bR (p) [i6 6,i6 a,i6 b,i6 c,i6 d,i6 e]::(M)) 1 F h f l S 52 [0,0,0,2] 7509 [] [(77,i6 a)] 52 96 [] λa1 w1 u s P R o9=>ah F f s u 78 57 #[i6 1,i6 a,i6 1000] λyS i=>iI F h a 1 1000 u.sat ω λw2 h2 yP=>i _ _ _ h2 λa2 B2 C j Z=>UF F h f g j C 2 [] 1 [] 2 (.bool (eB 1 a 1000)) 55 96 [] λO q x z=>?_;rw[show aF 6 a b c d e=eB 1 a 1000 by simp[aF]]at K;exact K O q.sat.tail ω
 have i:(k==6)=false:=ξ
 refine cJ func40 hS 79 λE a0 p hn f g l S Q=>oH (λM=>bR (p) [i6 k,i6 a,i6 b,i6 c,i6 d,i6 e]::(M)) 1 F h f g l S 54 [0,0,0,1] 4096 [] 2 (.bool false) 54 64 [] [] [(k==6,false),(k==5,false),(k==4,false),(k==3,false),(k==2,false),(k==1,false)] [] [] λw1 u P R=>?_;have e:aF k a b c d e=false:=by simp only[aF,af k1,af k2,af k3,af k4,af k5,af hk]
 rw[e]at K;exact K w1 u.sat.tail ω
def IG(F:aB prog Y (DX t) D)(d:HB B t){E:aC}(b:E.kind=.normal)(c:E.fn=41){v:aC}{y:cO}{M:aW}{x:eP}{n l:Nat}{T:oF}(R:n<=12)(o:0<n->∃a,x=some a){B1:Nat}(H:B<=B1):
 ∀(m i:Nat)(r:Act)(w:aj)(f:Nat),i+m=n->r.defers=[]->B1<=f->w.heap.size=f->St t f 33 [(18,i6 i),(17,i6 n),(16,.slice x n l)] (fR (x.getD ⟨0,0,none⟩) 3 (λj=>[i6 (T j 0),i6 (T j 1),i6 (T j 2)]) n false::M) 0 r w->
   (∀k,Sat t k M->w.heap.size<=k.heap.size->D (G (v.finish (.bool (lQ T m i))) y) k)->D (G (E.at r (pc prog 41 31 [false] [])) (v::y)) w
 |0,i,r,w,f,S,h,I,A,N,K=>by
  have a:decide ((i:Int)<(n:Int))=false:=θ
  refine ZI F d b c h N 11 [] 4 [] 2 (.bool true) 42 4 [] [] [(decide ((↑i:Int)<(↑n:Int)),false)] [] [] λO s z C=>K O s.sat.tail ω
 |m+1,i,r,w,f,S,h,I,A,N,K=>by
  obtain⟨u,rfl⟩:=o ω;have e:lQ T (m+1) i=(eB 1 (T i 0) 4&&eB 0 (T i 2) 1000&&lQ T m (i+1)):=rfl;rw[e]at K;refine aX (λM=>bR (f) [i6 (T i 0),i6 (T i 1),i6 (T i 2)]::(M)) 1 F d b h N 20 [0,i,0,103,0,0,0,3,0,0,0,1] 26 [] [(23,i6 (T i 0)),(4,ptr f),(18,i6 i),(17,i6 n),(16,.slice (some u) n l)] 51 6 [] [] [(decide ((↑i:Int)<(↑n:Int)),true)] [((↑i:Int),n)] [(3,(i,n))] λa O s a z C e=>ah F b a s 24 57 #[i6 1,i6 (T i 0),i6 4] λa a=>iI F d (T i 0) 1 4 s.sat ω λe h e=>a _ _ _ h λa a L q a=>?_;cases Q:eB 1 (T i 0) 4<;>rw[Q]at L K
  .refine UF F d b c q L 13 [] 2047 [] 2 (.bool false) 65 14 [] λj e a h=>K j e.sat.tail.tail ω
  refine Rb F d b q L 4 [0,0,2,1] 21 [] [(28,i6 (T i 2)),(26,.bool false),(27,.pointer (some (Addr.mk f 2 none))),(18,i6 i),(17,i6 n),(16,.slice (some u) n l)] 56 6 [] λq j e j a h a=>ah F b j e 29 57 #[i6 0,i6 (T i 2),i6 1000] λa a=>iI F d (T i 2) 0 1000 e.sat ω λe h e=>a _ _ _ h λa U J p a=>?_;cases P:eB 0 (T i 2) 1000<;>rw[P]at J K
  .refine UF F d b c p J 8 [] 29 [] 2 (.bool false) 65 14 [] λa g e h=>K a g.sat.tail.tail ω
  have j:wp i=((i+1:Nat):Int):=j6;refine Rb F d b p J 11 [] 21 [] [(18,i6 (wp i)),(30,.bool false),(29,.bool true),(28,i6 (T i 2)),(27,.pointer (some (Addr.mk f 2 none))),(17,i6 n),(16,.slice (some u) n l)] 68 10 [] λp a g f e h e=>?_;rw[j]at g;replace g:=g.dB [(18,i6 ((i+1:Nat):Int)),(17,i6 n),(16,.slice (some u) n l)] rfl;rw[show pc prog 41 68 (Bo 10) []=pc prog 41 31 [false] [] by kernel_rfl];exact IG F d b c R o H m (i+1) p a U ω f ω ω ⟨g.env,g.sat.tail,g.sz⟩ λk a b=>K k a ω
def NJ(F:aB prog Y (DX t) D)(g:HB B t){st:Int}{f:eP}{k:Nat}{T:oF}(i:0<n->∃a,f=some a/\Has M (fR a 3 (λj=>[i6 (T j 0),i6 (T j 1),i6 (T j 2)]) n false))(l:Sat t w M)(a:B<=w.heap.size)(K:∀h,Sat t h M->w.heap.size<=h.heap.size->D (G (v.finish (.bool (iF st n T))) y) h):D (G (Frame.enter prog 41 #[.agg #[i6 st,.slice f n k]] .normal) (v::y)) w:=by
 replace l:Sat t w (fR (f.getD ⟨0,0,none⟩) 3 (λj=>[i6 (T j 0),i6 (T j 1),i6 (T j 2)]) n false::M):=by
  by_cases z:0<n
  .obtain⟨u,rfl,o⟩:=i z;exact l.get o
  .exact l.qj ξ rfl
 refine cJ func41 l 33 λE a i a b e a o j=>aq (λM=>bR (i) [i6 st,.slice f n k]::(M)) 1 F g b a o 10 [0,0,0,1] 1 [] [(6,i6 st),(1,ptr i)] 10 1 [] λa a i a j j j=>ah F b a i 7 57 #[i6 0,i6 st,i6 1000] λa a=>iI F g st 0 1000 i.sat ω λi j i=>a _ _ _ j λa p m d a=>?_;unfold iF at K;cases r:eB 0 st 1000<;>rw[r]at m K
 .refine UF F g b e d m 13 [] 2047 [] 2 (.bool false) 24 3 [] λa c i j=>K a c.sat.tail.tail ω
 by_cases q:n<=12
 .have o:decide ((n:Int)>12)=false:=θ
  rw[show decide (12<n)=false by simp;omega]at K;refine TP F g b d m 20 [0,0,1,1,0,0,1,1] 1109 [] [(18,i6 0),(17,i6 n),(16,.slice f n k)] 31 2 [] [] [(decide ((↑n:Int)>12),false)] [] [] λu a c o i j s=>?_;replace c:=c.dB [(18,i6 ((0:Nat):Int)),(17,i6 n),(16,.slice f n k)] rfl;exact IG F g b e q (λz=>χ) (B1:=p) ω n 0 u a p (bK _) o (az _) ω ⟨c.env,c.sat.tail,c.sz⟩ λh f k=>K h f ω
 .rw[show decide (12<n)=true by simp;omega]at K;refine ZI F g b e d m 13 [0,0,1,1] 1621 [] 2 (.bool false) 24 3 [] [] [(decide ((↑n:Int)>12),true)] [] [] λa c i j=>K a c.sat.tail.tail ω
def KZ(F:aB prog Y (DX t) D)(h:HB B t){E:aC}(b:E.kind=.normal)(f:E.fn=27){v:aC}{y:cO}{M:aW}{Q:eP}{n I:Nat}{g:Nat->Cl}(S:n<=9)(o:0<n->∃a,Q=some a)(P:∀j,j<n->0<(g j).nt->∃a,(g j).ta=some a/\Has M (fR a 3 (λi=>[i6 ((g j).T i 0),i6 ((g j).T i 1),i6 ((g j).T i 2)]) (g j).nt false)):
 ∀(m i:Nat)(q:Act)(w:aj)(k:Nat),i+m=n->q.defers=[]->B<=k->w.heap.size=k->St t k 19 [(7,i6 i),(6,i6 n),(5,.slice Q n I),(0,.slice Q n I)] (fR (Q.getD ⟨0,0,none⟩) 2 (λj=>[i6 (g j).st,.slice (g j).ta (g j).nt (g j).tc]) n false::M) 0 q w->
   (∀l,Sat t l M->w.heap.size<=l.heap.size->D (G (v.finish (i6 (fY g m i))) y) l)->D (G (E.at q (pc prog 27 13 [] [])) (v::y)) w
 |0,i,q,w,k,T,d,H,A,L,K=>by
  have j:decide ((i:Int)<(n:Int))=false:=θ
  have e:fY g 0 i=n:=by show i=n;omega
  rw[e]at K;refine ZI F h b f d L 13 [] 4 [] 2 (i6 n) 26 2 [] [] [(decide ((↑i:Int)<(↑n:Int)),false)] [] [] λO r x C=>K O r.sat.tail ω
 |m+1,i,q,w,k,T,d,H,A,L,K=>by
  obtain⟨u,rfl⟩:=o ω;refine aX (λM=>bR (k) [i6 (g i).st,.slice (g i).ta (g i).nt (g i).tc]::(M)) 1 F h b d L 21 [0,i,0,102,0,0,0,2,0,0,0,2] 26 [] [(12,.agg #[i6 (g i).st,.slice (g i).ta (g i).nt (g i).tc]),(3,i6 i),(7,i6 i),(6,i6 n),(5,.slice (some u) n I),(0,.slice (some u) n I)] 34 3 [] [] [(decide ((↑i:Int)<(↑n:Int)),true)] [((↑i:Int),n)] [(2,(i,n))] λd O r d x C j=>ah F b d r 13 41 #[.agg #[i6 (g i).st,.slice (g i).ta (g i).nt (g i).tc]] λd d=>?_;have j:=P i ω;refine NJ F h (λz=>by let⟨a,s,N⟩:=j z;exact⟨a,s,N.cons.cons⟩) r.sat ω λa j a=>d _ _ _ j λa U J p a=>?_;have e:fY g (m+1) i=if iF (g i).st (g i).nt (g i).T=false then i else fY g m (i+1):=rfl;rw[e]at K;cases R:iF (g i).st (g i).nt (g i).T<;>rw[R]at J K
  .refine UF F h b f p J 8 [] 7 [] 2 (i6 i) 43 7 [] λa c d e=>K a c.sat.tail.tail ω
  have j:IntKind.wrap .i64 ((i:Int)+1)=((i+1:Nat):Int):=by rw[aA ω ω];rfl
  refine Rb F h b p J 10 [] 5 [] [(7,i6 (IntKind.wrap .i64 ((↑i:Int)+1))),(6,i6 n),(5,.slice (some u) n I),(0,.slice (some u) n I)] 45 5 [] λk a c g d e d=>?_;rw[j]at c;replace c:=c.dB [(7,i6 ((i+1:Nat):Int)),(6,i6 n),(5,.slice (some u) n I),(0,.slice (some u) n I)] rfl;rw[show pc prog 27 45 (Bo 5) []=pc prog 27 13 [] [] by kernel_rfl];exact KZ F h b f S o P m (i+1) k a U ω g ω ω ⟨c.env,c.sat.tail,c.sz⟩ λl s N=>K l s ω
def Ge(F:aB prog Y (DX t) D)(f:HB B t){E:aC}(b:E.kind=.normal)(d:E.fn=26){v:aC}{y:cO}{M:aW}{sL:eP}{n I:Nat}{L:oF}(hn:n<=6)(A:0<n->∃a,sL=some a):
 ∀(m i:Nat)(r:Int)(R:Act)(w:aj)(l:Nat),i+m=n->0<=r->r<=2->R.defers=[]->B<=l->w.heap.size=l->St t l 29 [(8,i6 i),(7,i6 n),(6,.slice sL n I),(3,i6 r),(0,.slice sL n I)] (fR (sL.getD ⟨0,0,none⟩) 6 (oG L) n false::M) 0 R w->
   (∀p,Sat t p M->w.heap.size<=p.heap.size->D (G (v.finish (i6 (cZ L m i r))) y) p)->D (G (E.at R (pc prog 26 17 [] [])) (v::y)) w
 |0,i,r,R,w,l,hi,Zs,hr,h,Rg,V,S,K=>by
  have g1:decide ((i:Int)<(n:Int))=false:=θ
  have e:cZ L 0 i r=n:=by show i=n;omega
  rw[e]at K;refine ZI F f b d h S 13 [] 4 [] 2 (i6 n) 30 2 [] [] [(decide ((↑i:Int)<(↑n:Int)),false)] [] [] λO k s z=>K O k.sat.tail ω
 |m+1,i,r,R,w,l,hi,Zs,hr,h,Rg,V,S,K=>by
  have g1:decide ((i:Int)<(n:Int))=true:=θ
  obtain⟨u,rfl⟩:=A ω;have e:cZ L (m+1) i r=if 2<(if L i 0=1 then r+1 else r)\/aF (L i 0) (L i 1) (L i 2) (L i 3) (L i 4) (L i 5)=false then i else cZ L m (i+1) (if L i 0=1 then r+1 else r):=rfl;rw[e]at K;have hw:IntKind.wrap .i64 ((i:Int)+1)=((i+1:Nat):Int):=by rw[aA ω ω];rfl
  have X:IntKind.wrap .i64 (r+1)=r+1:=aA ω ω;by_cases Q:L i 0=1
  .have P:(L i 0==1)=true:=ξ
   rw[sJ Q]at K;by_cases OH:r=2
   .subst OH;rw[sJ (.inl δ)]at K;refine oH (λM=>bR (l) [i6 (L i 0),i6 (L i 1),i6 (L i 2),i6 (L i 3),i6 (L i 4),i6 (L i 5)]::(M)) 1 F f b d h S 47 [0,i,0,106,0,0,0,6,0,0,0,1] 32746 [] 2 (i6 i) 64 15 [] [] [(L i 0==1,true),(decide ((↑i:Int)<(↑n:Int)),true)] [((↑i:Int),n)] [(6,(i,n))] λO k s z=>K O k.sat.tail.tail ω
   have a:decide (r+1>2)=false:=θ
   have Z:decide (IntKind.wrap .i64 (r+1)>2)=false:=ξ
   refine aX (λM=>bR (l) [i6 (L i 0),i6 (L i 1),i6 (L i 2),i6 (L i 3),i6 (L i 4),i6 (L i 5)]::(M)) 1 F f b h S 37 [0,i,0,106,0,0,0,6,0,0,0,1,0,0,0,6] 298 [] [(21,.agg #[i6 (L i 0),i6 (L i 1),i6 (L i 2),i6 (L i 3),i6 (L i 4),i6 (L i 5)]),(20,.bool false),(3,i6 (IntKind.wrap .i64 (r+1))),(4,i6 i),(8,i6 i),(7,i6 n),(6,.slice (some u) n I),(0,.slice (some u) n I)] 54 7 [] [] [(decide (IntKind.wrap .i64 (r+1)>2),false),(L i 0==1,true),(decide ((↑i:Int)<(↑n:Int)),true)] [((↑i:Int),n)] [(6,(i,n))] λa1 O k H s z o9=>ah F b H k 22 40 #[.agg #[i6 (L i 0),i6 (L i 1),i6 (L i 2),i6 (L i 3),i6 (L i 4),i6 (L i 5)]] λyS j=>F8 F f (L i 0) (L i 1) (L i 2) (L i 3) (L i 4) (L i 5) k.sat ω λw2 J W=>j _ _ _ J λa2 B3 N g U=>?_;cases hq:aF (L i 0) (L i 1) (L i 2) (L i 3) (L i 4) (L i 5)<;>rw[hq]at N K
   .rw[sJ (.inr rfl)]at K;refine UF F f b d g N 9 [] 29 [] 2 (i6 i) 64 15 [] λo c q x=>K o c.sat.tail.tail ω
   rw[af ξ]at K;refine Rb F f b g N 11 [] 21 [] [(8,i6 (IntKind.wrap .i64 ((↑i:Int)+1))),(23,.bool false),(22,.bool true),(21,.agg #[i6 (L i 0),i6 (L i 1),i6 (L i 2),i6 (L i 3),i6 (L i 4),i6 (L i 5)]),(3,i6 (IntKind.wrap .i64 (r+1))),(7,i6 n),(6,.slice (some u) n I),(0,.slice (some u) n I)] 66 11 [] λa3 o c C q x mH=>?_;rw[hw,X]at c;replace c:=c.dB [(8,i6 ((i+1:Nat):Int)),(7,i6 n),(6,.slice (some u) n I),(3,i6 (r+1)),(0,.slice (some u) n I)] rfl;rw[show pc prog 26 66 (Bo 11) []=pc prog 26 17 [] [] by kernel_rfl];exact Ge F f b d hn A m (i+1) (r+1) a3 o B3 ω ω ω C ω ω ⟨c.env,c.sat.tail,c.sz⟩ λp T z2=>K p T ω
  .have P:(L i 0==1)=false:=ξ
   rw[af Q]at K;have Z:decide (r>2)=false:=θ
   refine aX (λM=>bR (l) [i6 (L i 0),i6 (L i 1),i6 (L i 2),i6 (L i 3),i6 (L i 4),i6 (L i 5)]::(M)) 1 F f b h S 33 [0,i,0,106,0,0,0,6,0,0,0,1,0,0,0,6] 266 [] [(21,.agg #[i6 (L i 0),i6 (L i 1),i6 (L i 2),i6 (L i 3),i6 (L i 4),i6 (L i 5)]),(20,.bool false),(4,i6 i),(8,i6 i),(7,i6 n),(6,.slice (some u) n I),(3,i6 r),(0,.slice (some u) n I)] 50 5 [] [] [(decide (r>2),false),(L i 0==1,false),(decide ((↑i:Int)<(↑n:Int)),true)] [((↑i:Int),n)] [(6,(i,n))] λa1 O k H s z o9=>ah F b H k 22 40 #[.agg #[i6 (L i 0),i6 (L i 1),i6 (L i 2),i6 (L i 3),i6 (L i 4),i6 (L i 5)]] λyS j=>F8 F f (L i 0) (L i 1) (L i 2) (L i 3) (L i 4) (L i 5) k.sat ω λw2 J W=>j _ _ _ J λa2 B3 N g U=>?_;cases hq:aF (L i 0) (L i 1) (L i 2) (L i 3) (L i 4) (L i 5)<;>rw[hq]at N K
   .rw[sJ (.inr rfl)]at K;refine UF F f b d g N 9 [] 29 [] 2 (i6 i) 60 13 [] λo c q x=>K o c.sat.tail.tail ω
   rw[af ξ]at K;refine Rb F f b g N 11 [] 21 [] [(8,i6 (IntKind.wrap .i64 ((↑i:Int)+1))),(23,.bool false),(22,.bool true),(21,.agg #[i6 (L i 0),i6 (L i 1),i6 (L i 2),i6 (L i 3),i6 (L i 4),i6 (L i 5)]),(7,i6 n),(6,.slice (some u) n I),(3,i6 r),(0,.slice (some u) n I)] 62 9 [] λa3 o c C q x mH=>?_;rw[hw]at c;replace c:=c.dB [(8,i6 ((i+1:Nat):Int)),(7,i6 n),(6,.slice (some u) n I),(3,i6 r),(0,.slice (some u) n I)] rfl;rw[show pc prog 26 62 (Bo 9) []=pc prog 26 17 [] [] by kernel_rfl];exact Ge F f b d hn A m (i+1) r a3 o B3 ω ω ω C ω ω ⟨c.env,c.sat.tail,c.sz⟩ λp T z2=>K p T ω
def Rj(F:aB prog Y (DX t) D)(g:HB B t){L:oF}(j:n<=6)(d:0<n->∃a,sL=some a/\Has M (fR a 6 (oG L) n false))(c:Sat t w M)(a:B<=w.heap.size)(K:∀b,Sat t b M->w.heap.size<=b.heap.size->D (G (v.finish (i6 (cZ L n 0 0))) y) b):D (G (Frame.enter prog 26 #[.slice sL n I] .normal) (v::y)) w:=by
 replace c:Sat t w (fR (sL.getD ⟨0,0,none⟩) 6 (oG L) n false::M):=by
  by_cases z:0<n
  .obtain⟨u,rfl,e⟩:=d z;exact c.get e
  .exact c.qj ξ rfl
 refine cJ func26 c 29 λE a l a a e d i h=>Rb F g a d i 17 [] 1 [] [(8,i6 0),(7,i6 n),(6,.slice sL n I),(3,i6 0),(0,.slice sL n I)] 17 1 [] λk h f d i i i=>?_;replace f:=f.dB [(8,i6 ((0:Nat):Int)),(7,i6 n),(6,.slice sL n I),(3,i6 0),(0,.slice sL n I)] rfl;exact Ge F g a e j (λz=>χ) n 0 0 k h l (bK _) ω ω d ω ω f λb a d=>K b a ω
def Rk(F:aB prog Y (DX t) D)(h:HB B t)(l:n<=9)(e:0<n->∃a,Q=some a/\Has M (fR a 2 (λj=>[i6 (g j).st,.slice (g j).ta (g j).nt (g j).tc]) n false))(k:∀j,j<n->0<(g j).nt->∃a,(g j).ta=some a/\Has M (fR a 3 (λi=>[i6 ((g j).T i 0),i6 ((g j).T i 1),i6 ((g j).T i 2)]) (g j).nt false))(c:Sat t w M)(a:B<=w.heap.size)(K:∀b,Sat t b M->w.heap.size<=b.heap.size->D (G (v.finish (i6 (fY g n 0))) y) b):D (G (Frame.enter prog 27 #[.slice Q n I] .normal) (v::y)) w:=by
 replace c:Sat t w (fR (Q.getD ⟨0,0,none⟩) 2 (λj=>[i6 (g j).st,.slice (g j).ta (g j).nt (g j).tc]) n false::M):=by
  by_cases z:0<n
  .obtain⟨u,rfl,d⟩:=e z;exact c.get d
  .exact c.qj ξ rfl
 refine cJ func27 c 19 λE a m a a e d i g=>Rb F h a d i 13 [] 1 [] [(7,i6 0),(6,i6 n),(5,.slice Q n I),(0,.slice Q n I)] 13 1 [] λj g f d i i i=>?_;replace f:=f.dB [(7,i6 ((0:Nat):Int)),(6,i6 n),(5,.slice Q n I),(0,.slice Q n I)] rfl;exact KZ F h a e l (λz=>χ) k n 0 j g m (bK _) d ω ω f λb a d=>K b a ω
def r8(F:aB prog Y (DX t) D)(d:HB B t){L:oF}(s:0<n->∃a,sL=some a/\Has M (fR a 6 (oG L) n false))(x:0<m->∃a,Q=some a/\Has M (fR a 2 (λj=>[i6 (g j).st,.slice (g j).ta (g j).nt (g j).tc]) m false))(u:∀j,j<m->0<(g j).nt->∃a,(g j).ta=some a/\Has M (fR a 3 (λi=>[i6 ((g j).T i 0),i6 ((g j).T i 1),i6 ((g j).T i 2)]) (g j).nt false))(p:Sat t w M)(a:B<=w.heap.size)(K:∀a,Sat t a M->w.heap.size<=a.heap.size->D (G (v.finish (.tuple #[i6 (jG n L m g).1,i6 (jG n L m g).2])) y) a):D (G (Frame.enter prog 16 #[.slice sL n H,.slice Q m I] .normal) (v::y)) w:=by
 unfold jG at K;by_cases q:6<n
 .have a:decide ((n:Int)>6)=true:=θ
  rw[sJ q]at K;refine cJ func16 p 28 λE z A r a b e l i=>TP F d a e l 18 [] 6 [] [(5,i6 0),(4,i6 1)] 18 3 [] [] [(decide ((↑n:Int)>6),true)] [] [] λw o f c h j k=>cC F f a b c [] (.tuple #[i6 1,i6 0]) ?_;exact K o f.sat ω
 rw[af q]at K;refine cJ func16 p 28 λE z A r a b e l i=>TP F d a e l 18 [] 4 [] [(11,.slice sL n H),(0,.slice sL n H),(1,.slice Q m I)] 18 2 [] [] [(decide ((↑n:Int)>6),false)] [] [] λw o f c h j k=>ah F a c f 12 26 #[.slice sL n H] λc c=>Rj F d ω s f.sat ω λe f e=>c _ _ _ f λc c o f c=>?_;by_cases p:cZ L n 0 0<n
 .have l:decide (((cZ L n 0 0:Nat):Int)<(n:Int))=true:=ξ
  rw[sJ p]at K;refine TP F d a f o 16 [] 6 [] [(5,i6 (↑(cZ L n 0 0):Int)),(4,i6 2)] 35 6 [] [] [(decide ((↑(cZ L n 0 0):Int)<(↑n:Int)),true)] [] [] λq k e c h i j=>cC F e a b c [] (.tuple #[i6 2,i6 (↑(cZ L n 0 0):Int)]) ?_;exact K k e.sat ω
 have l:decide (((cZ L n 0 0:Nat):Int)<(n:Int))=false:=ξ
 rw[af p]at K;by_cases l:9<m
 .have p:decide ((m:Int)>9)=true:=θ
  rw[sJ l]at K;refine TP F d a f o 24 [] 24 [] [(5,i6 0),(4,i6 3)] 43 12 [] [] [(decide ((↑m:Int)>9),true),(decide ((↑(cZ L n 0 0):Int)<(↑n:Int)),false)] [] [] λq k e c h i j=>cC F e a b c [] (.tuple #[i6 3,i6 0]) ?_;exact K k e.sat ω
 rw[af l]at K;refine TP F d a f o 24 [] 16 [] [(21,.slice Q m I),(1,.slice Q m I)] 43 8 [] [] [(decide ((↑m:Int)>9),false),(decide ((↑(cZ L n 0 0):Int)<(↑n:Int)),false)] [] [] λq k e c h i j=>ah F a c e 22 27 #[.slice Q m I] λc c=>Rk F d ω x u e.sat ω λe f e=>c _ _ _ f λc c o e c=>?_;by_cases h:fY g m 0<m
 .have f:decide (((fY g m 0:Nat):Int)<(m:Int))=true:=ξ
  rw[sJ h]at K;refine TP F d a e o 16 [] 6 [] [(5,i6 (↑(fY g m 0):Int)),(4,i6 4)] 60 24 [] [] [(decide ((↑(fY g m 0):Int)<(↑m:Int)),true)] [] [] λp j i c k l n=>cC F i a b c [] (.tuple #[i6 4,i6 (↑(fY g m 0):Int)]) ?_;exact K j i.sat ω
 have f:decide (((fY g m 0:Nat):Int)<(m:Int))=false:=ξ
 rw[af h]at K;refine TP F d a e o 16 [] 4 [] [(5,i6 0),(4,i6 0)] 60 16 [] [] [(decide ((↑(fY g m 0):Int)<(↑m:Int)),false)] [] [] λp j i c k l n=>cC F i a b c [] (.tuple #[i6 0,i6 0]) ?_;exact K j i.sat ω
end Go.Proofs.YtobagnjnbmgidaaGreatDoor
