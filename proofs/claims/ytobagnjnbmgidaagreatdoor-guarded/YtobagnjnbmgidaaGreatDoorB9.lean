import Derived.Test.YtobagnjnbmgidaaGreatDoorD5
import Derived.Test.YtobagnjnbmgidaaGreatDoorA6
set_option linter.all false
set_option maxHeartbeats 0
set_option maxRecDepth 100000
namespace Go.Proofs.YtobagnjnbmgidaaGreatDoor
open Go.Conc Go.RowKit Tryz
variable{a:Act}{f:Bg}{E:Env}{V:Ev0}{c i:Int}{Lf Z:LS->Prop}{A B1 HD J N N0 O bl bo c0 cap cA bJ j rs bM:Nat}{s:PS}{r:aH}{C X:aW}{I:aj}{b U d:aC}{D:ay}{q:aN}{dL:p9}{st:oJ}{lb eu:bU}{Y:cO}{sL:eP}{vs:iO}
variable{Post:qz}{w0 w wI:aj}{l:aN}{ng B n m:Nat}{P:aG}{u:Bool}{Q:dh}{H:gi}{M:aW}{s0 sa:eP}{L:oF}{g:Nat->Cl}
abbrev BM(bM bJ:Nat)(f:Bg)(k:Nat):List Nat:=bM::bJ::(List.range k).map f.aS
theorem Bn(A bl bo:Nat)(f:Bg)(k:Nat):Flat (sM A bl bo f k):=by
 rw[bO];intro r a;let⟨j,_,a⟩:=mL.1 a;simp only[Ah,ak,bH,or_false]at a;rcases a with rfl|rfl|rfl|rfl|rfl<;>rfl
theorem Bm(f:Bg)(k:Nat):Flat (qb f k):=by
 rw[bO];intro r a;let⟨j,_,a⟩:=mL.1 a;simp only[ak,bH,or_false]at a;subst a;rfl
theorem Ic{kk:PK}{L:LS}(hV:wM kk.V)(hL:yI kk.V L)(hA:kk.A∈l){B:Nat}(R:∀(a:Addr)(wr:Bool),B<=a.block->cP w0.heap.size l [] a wr){U:aC}(r:U.kind=.normal)(qh:U.fn=24){d:aC}{Y:cO}{cap rs bl bo bM bJ:Nat}{sa:eP}{M:aW}(hM:Flat M){dL:p9}{eu:bU}(hC:0<kk.V.nc->∃S,sa=some S/\Has M (fR S 2 (λj=>[i6 (kk.V.st j),.slice (dL j) (kk.V.nt j) (eu j)]) kk.V.nc false))(K:∀(f:Bg)(q:aN)(D:ay)(o:mW)(N:Act)(v:aj)(B1:Nat),N.defers=[]->B<=B1->v.heap.size=B1->Ss kk.V bM bJ f kk.V.nc v->K2 w0 kk.A (BM bM bJ f kk.V.nc) v->PV (cP w0.heap.size l []) (gC bl bo kk L f kk.V.nc q D o) (bA (gC bl bo kk L f kk.V.nc q D o))->QI (gC bl bo kk L f kk.V.nc q D o)->q.length=kk.V.nc->
 St (cP w0.heap.size l []) B1 53 [(47,ptr kk.A),(11,ptr bo),(9,ptr kk.J),(4,ptr rs)] (pM (gC bl bo kk L f kk.V.nc q D o)++(oR kk.A 2 [i6 kk.V.nc] true::(qb f kk.V.nc++(sM kk.A bl bo f kk.V.nc++M)))) 0 N v->
 nM prog Post (K2 w0 kk.A (BM bM bJ f kk.V.nc)) (jq l) ng (G (U.at N (pc prog 24 69 [false,false] [])) (d::Y)) v):
 ∀(left k:Nat)(f:Bg)(q:aN)(D:ay)(o:mW)(V:Act)(w:aj)(B1:Nat),left+k=kk.V.nc->V.defers=[]->B<=B1->w.heap.size=B1->Ss kk.V bM bJ f k w->PV (cP w0.heap.size l []) (gC bl bo kk L f k q D o) (bA (gC bl bo kk L f k q D o))->QI (gC bl bo kk L f k q D o)->q.length=k->
   St (cP w0.heap.size l []) B1 53 [(35,i6 k),(34,i6 kk.V.nc),(33,.slice sa kk.V.nc cap),(12,ptr kk.A),(11,ptr bo),(10,ptr bl),(9,ptr kk.J),(4,ptr rs)] (pM (gC bl bo kk L f k q D o)++(oR kk.A 2 [i6 k] true::(qb f k++(sM kk.A bl bo f k++M)))) 0 V w->
   nM prog Post (K2 w0 kk.A (BM bM bJ f k)) (jq l) ng (G (U.at V (pc prog 24 59 [false] [])) (d::Y)) w
 |0,k,f,q,D,o,V,w,B1,hk,E,hle,P9,A,hP,hQ,hq,I=>by
  have:k=kk.V.nc:=by omega
  subst this;have F:=NN (Post:=Post) (w0:=w0) (A:=kk.A) (cc:=BM bM bJ f kk.V.nc) hA ng;generalize s:pM (gC bl bo kk L f kk.V.nc q D o)++(oR kk.A 2 [i6 kk.V.nc] true::(qb f kk.V.nc++(sM kk.A bl bo f kk.V.nc++M)))=MM at I;refine TP F R r E I 10 [] 4 [] [(47,ptr kk.A),(11,ptr bo),(9,ptr kk.J),(4,ptr rs)] 69 4 [] [] [(decide ((↑kk.V.nc:Int)<(↑kk.V.nc:Int)),false)] [] [] λN v W C zS Dx o9=>?_;subst s;exact At.assume FK λy=>K f q D o N v _ C (by omega) rfl ⟨λj J=>by have:=A.lt j J;exact⟨by omega,this.2⟩,A.inj,by have:=A.wl;exact⟨by omega,by omega⟩⟩ y hP hQ hq ⟨W.env,W.sat,rfl⟩
 |left+1,k,f,q,D,o,V,w,B1,hk,E,hle,P9,A,hP,hQ,hq,I=>by
  have F:=NN (Post:=Post) (w0:=w0) (A:=kk.A) (cc:=BM bM bJ f k) hA ng;have w:=hV.nc;have hkn:k<kk.V.nc:=by omega
  let⟨S,ZS,w⟩:=hC (by omega);have H:=I.get (((w.app (sM kk.A bl bo f k)).app (qb f k)).cons.app (pM (gC bl bo kk L f k q D o)));subst ZS;generalize s:pM (gC bl bo kk L f k q D o)++(oR kk.A 2 [i6 k] true::(qb f k++(sM kk.A bl bo f k++M)))=MM at H;clear I;have I:=H;clear H;have Vn:IntKind.wrap .i64 ((k:Int)+1)=(k:Int)+1:=aA (by omega) (by omega);refine aX (λM=>bR (B1+1) [i6 (kk.V.st k),.slice (dL k) (kk.V.nt k) (eu k)]::(bR (B1) [i6 k]::(M))) 2 F R r E I 25 [0,k,0,102,1,0,0,1,0,0,0,2,1,0,0,1,0,0,0,1] 26 [] [(44,.func (Fn.func 37) #[] #[ptr bl,ptr bo,ptr B1]),(43,i6 (kk.V.st k)),(41,i6 k),(40,ptr kk.A),(35,i6 k),(34,i6 kk.V.nc),(33,.slice (some S) kk.V.nc cap),(12,ptr kk.A),(11,ptr bo),(10,ptr bl),(9,ptr kk.J),(4,ptr rs)] 84 6 [] [] [(decide ((↑k:Int)<(↑kk.V.nc:Int)),true)] [((↑k:Int),kk.V.nc)] [(2,(k,kk.V.nc))] λN v W C zS Dx o9=>j5 F r C W 45 36 #[ptr kk.A,i6 k,i6 (kk.V.st k),.func (Fn.func 37) #[] #[ptr bl,ptr bo,ptr B1]] λw P=>?_;subst s;have w:Sat (cP w0.heap.size l []) v (pM (gC bl bo kk L f k q D o)++(oR kk.A 2 [i6 k] true::(oR B1 0 [i6 k] false::(qb f k++(sM kk.A bl bo f k++M))))):=by
   have v:=(W.sat.tail).fix;have B:=Sat.BC (A:=[oR B1 0 [i6 k] false]) v;refine B.perm ?_;have:=fA [oR B1 0 [i6 (k:Int)] false] (pM (gC bl bo kk L f k q D o)++[oR kk.A 2 [i6 k] true]) (qb f k++(sM kk.A bl bo f k++M));simpa using this
  refine JI (s:=gC bl bo kk L f k q D o) (k:=k) (cl:=k) (bl:=bl) (bo:=bo) (bi:=B1) (at':=kk.V.st k) F R w hP (((Bm f k).app ((Bn _ _ _ f k).app hM)).cons rfl) (by omega) (by rw[jT];show q.length<1000000;omega) (by omega) λn h g T m t u i w hi v B p mQ o o o=>?_;rw[jT]at hi;let⟨XP,o⟩:=Mr (tP:=t) (sB:=u) (T:=T) (aS:=g) (ba:=n) (bt:=m) (bw:=h) (bi:=B1) hL hQ hkn hi v;rw[<-o]at p;have o:Sat (cP w0.heap.size l []) w (pM (gC bl bo kk L (f.put k T g n m h B1) (k+1) (q.take i++k::q.drop i) t u)++(oR kk.A 2 [i6 ((k+1:Nat):Int)] true::(qb (f.put k T g n m h B1) (k+1)++(sM kk.A bl bo (f.put k T g n m h B1) (k+1)++M)))):=by
   rw[HN,JH];refine B.perm (eN (pM (gC bl bo kk L f k q t u)) (List.Perm.cons _ ?_));simp only[dU,um,List.nil_append];refine List.Perm.trans ?_ (eY (a:=dO T (.pointer none) (.slice none 0 0) false false) (l₁:=qb f k)).symm;refine List.Perm.trans (List.Perm.swap _ _ _) (List.Perm.cons _ ?_);have:=fA [oR T 0 [ptr kk.A,i6 (k:Int),i6 (k:Int),.chan (some g)] false,oR n 0 [ptr kk.A] false,oR h 0 [.func (.func 37) #[] #[ptr bl,ptr bo,ptr B1]] false,oR m 0 [ptr T] false,oR B1 0 [i6 (k:Int)] false] (qb f k++sM kk.A bl bo f k) M;simpa using this
  refine P _ _ _ o λl l S2 DF l=>?_;generalize s:pM (gC bl bo kk L (f.put k T g n m h B1) (k+1) (q.take i++k::q.drop i) t u)++(oR kk.A 2 [i6 ((k+1:Nat):Int)] true::(qb (f.put k T g n m h B1) (k+1)++(sM kk.A bl bo (f.put k T g n m h B1) (k+1)++M)))=MM at S2;refine Rb F R r DF S2 7 [] 1 [] [(35,i6 (IntKind.wrap .i64 ((↑k:Int)+1))),(34,i6 kk.V.nc),(33,.slice (some S) kk.V.nc cap),(12,ptr kk.A),(11,ptr bo),(10,ptr bl),(9,ptr kk.J),(4,ptr rs)] 92 6 [] λa3 X Z CJ l l mH=>?_;rw[show pc prog 24 92 (Bo 6) []=pc prog 24 59 [false] [] by kernel_rfl];rw[Vn]at Z;have l:(k:Int)+1=((k+1:Nat):Int):=by simp
  rw[l]at Z;subst s;have x:gw X g:=mH.obj _ _ mQ (λ_ _ _ z=>by cases z);have Yb:g<X.heap.size:=(cU.1 x).1;have O:∀j,j<k->f.aS j<g:=λj J=>by have:=(A.lt j J).1;omega
  have l:=A.wl;refine At.assume FK λy=>At.keep (K':=K2 w0 kk.A (BM bM bJ (f.put k T g n m h B1) (k+1))) (λl=>⟨y.1,⟨y.2.1.1,λc Q=>?_⟩,y.2.2⟩) (Ic hV hL hA R r qh hM hC K left (k+1) (f.put k T g n m h B1) (q.take i++k::q.drop i) t u a3 X _ (by omega) CJ (by omega) rfl ⟨λj J=>?_,λa i b i e=>?_,⟨by omega,by omega⟩⟩ ⟨p.jr,p.en,p.eo,p.fb,p.rm,ww,λ_ _=>Vs⟩ XP ?_ ⟨Z.env,Z.sat,rfl⟩)
  .show∃i,X.heap[c]? =_;rcases ak.1 Q with rfl|Q
   .exact y.2.1.2 _ (bI ..)
   .rcases ak.1 Q with rfl|Q
    .exact y.2.1.2 _ (aP _ (bI ..))
    .obtain⟨j,J,rfl⟩:=gV.1 Q;have c:=aZ.1 J;by_cases e:j=k
     .rw[e,(rO f k T g n m h B1).2.1];exact⟨0,x⟩
     .rw[(LB f (by omega:j<k) T g n m h B1).2.1];exact y.2.1.2 _ (aP _ (aP _ (gV.2 ⟨j,aZ.2 (by omega),rfl⟩)))
  .by_cases e:j=k
   .rw[e,(rO f k T g n m h B1).2.1];exact⟨Yb,by omega,by omega⟩
   .rw[(LB f (by omega:j<k) T g n m h B1).2.1];have:=A.lt j (by omega);exact⟨by omega,this.2⟩
  .by_cases i:a=k
   .by_cases c:b=k
    .rw[i,c]
    .rw[i,(rO f k T g n m h B1).2.1,(LB f (by omega:b<k) T g n m h B1).2.1]at e;have:=O b (by omega);omega
   .by_cases c:b=k
    .rw[c,(rO f k T g n m h B1).2.1,(LB f (by omega:a<k) T g n m h B1).2.1]at e;have:=O a (by omega);omega
    .rw[(LB f (by omega:a<k) T g n m h B1).2.1,(LB f (by omega:b<k) T g n m h B1).2.1]at e;exact A.inj a (by omega) b (by omega) e
  .simp only[YA,gB,uq,Ea];omega
theorem At.Uc{K:cK}{a pZ Still:dm}{Mem:p8}{b:Nat->Option Seat}{h:Nat}{g:aV}(f:∀x,a x->pZ x)(e:∀x,pZ x->a x\/Sf w.heap.size x)(H:At P Post K pZ Still Mem b h n g w):At P Post K a Still Mem b h n g w:=
 λd g T q a b c C=>H d g T q a b c (R2.grow C (λ_ x=>x) (λ_ x=>.inl x) f e)
theorem My{α:Type}(sR vR eR A c b bo d bl a J rs:α)(T:List α):(sR::vR::eR::A::c::b::bo::d::bl::a::J::rs::T).Perm (A::eR::J::vR::sR::a::d::c::b::bo::bl::rs::T):=
 (eY (l₁:=[sR,vR,eR])).trans (.cons _ ((eY (l₁:=[sR,vR])).trans (.cons _ ((eY (l₁:=[sR,vR,c,b,bo,d,bl,a])).trans (.cons _ ((eY (l₁:=[sR])).trans (.cons _ (.cons _ ((eY (l₁:=[c,b,bo,d,bl])).trans (.cons _ ((eY (l₁:=[c,b,bo])).trans (.cons _ (.refl _)))))))))))))
abbrev Ys(A J HD O:Nat)(V:Ev0)(lb:bU)(sa:eP)(cap:Nat)(dL:p9)(eu:bU)(bM bJ:Nat):PK:={A:=A,J:=J,HD:=HD,O:=O,V:=V,lb:=lb,ca:=sa.getD ⟨0,0,none⟩,cc:=cap,dL:=dL,eu:=eu,bM:=bM,bJ:=bJ}
def OU:Bg:=⟨λ_=>0,λ_=>0,λ_=>0,λ_=>0,λ_=>0,λ_=>0⟩
def Ry:mW:=⟨0,0,0,λ_=>undef⟩
theorem Uj{L:LS}(hV:wM V)(B:yI V L)(hl:∀x∈l,x<w0.heap.size){a7:Act}{w7:aj}{b:Nat}(I:U.kind=.normal)(qh:U.fn=24)(CI:a7.defers=[])(s:w7.heap.size=b)(YQ:w0.heap.size<=b)(hX:Flat (X++M))(hC:0<V.nc->∃ca,sa=some ca/\Has M (fR ca 2 (λj=>[i6 (V.st j),.slice (dL j) (V.nt j) (eu j)]) V.nc false))(t:St (cP w0.heap.size l []) b 53 [(11,ptr bo),(10,ptr bl),(9,ptr J),(4,ptr rs),(1,.slice sa V.nc cap)] (bR bo [.slice (some ⟨O,0,none⟩) V.nc V.nc]::fR ⟨O,0,none⟩ 4 (λ_=>[i6 0,i6 0,i6 0,.slice none 0 0]) V.nc true::bR bl [Yw V lb 0]::fR ⟨HD,0,none⟩ 1 (λ_=>[i6 0]) V.nc true::bR J [.slice none 0 0]::bR rs [.slice none 0 0,.slice none 0 0]::(X++M)) 0 a7 w7)(K:∀(bM bJ:Nat)(f:Bg)(q:aN)(D:ay)(P:mW)(a1:Act)(H:aj)(B1:Nat),w0.heap.size<=bM->w0.heap.size<=bJ->bM≠bJ->a1.defers=[]->b+3<=B1->H.heap.size=B1->Ss V bM bJ f V.nc H->K2 w0 (b+2) (BM bM bJ f V.nc) H->PV (cP w0.heap.size ((b+2)::l) []) (gC bl bo (Ys (b+2) J HD O V lb sa cap dL eu bM bJ) L f V.nc q D P) (bA (gC bl bo (Ys (b+2) J HD O V lb sa cap dL eu bM bJ) L f V.nc q D P))->QI (gC bl bo (Ys (b+2) J HD O V lb sa cap dL eu bM bJ) L f V.nc q D P)->q.length=V.nc->
 St (cP w0.heap.size ((b+2)::l) []) B1 53 [(47,ptr (b+2)),(11,ptr bo),(9,ptr J),(4,ptr rs)] (pM (gC bl bo (Ys (b+2) J HD O V lb sa cap dL eu bM bJ) L f V.nc q D P)++(oR (b+2) 2 [i6 V.nc] true::(qb f V.nc++(sM (b+2) bl bo f V.nc++(oR (b+2) 3 [.chan (some bM),.chan (some bJ)] false::oR bo 0 [.slice (some ⟨O,0,none⟩) V.nc V.nc] false::oR bl 0 [Yw V lb 0] false::bR rs [.slice none 0 0,.slice none 0 0]::(X++M)))))) 0 a1 H->
 nM prog Post (K2 w0 (b+2) (BM bM bJ f V.nc)) (jq ((b+2)::l)) ng (G (U.at a1 (pc prog 24 69 [false,false] [])) (d::Y)) H):
 nM prog Post (Old w0) (jq l) ng (G (U.at a7 (pc prog 24 47 [false] [])) (d::Y)) w7:=by
 refine At.Uc (pZ:=jq ((b+2)::l)) (λx h=>Ey h) (λx h=>(H6 h).imp id fun⟨a,e1,e2⟩=>⟨a,e1,by omega⟩) ?_;have F:=nA (P:=prog) (Post:=Post) (wI:=w0) (l:=(b+2)::l) ng;have w:∀(a:Addr)(wr:Bool),a.block<b->cP w0.heap.size l [] a wr->cP w0.heap.size ((b+2)::l) [] a wr:=λa wr Z o=>⟨fun⟨A',n,g⟩=>by
  rcases ak.1 n with rfl|n
  .rcases g with g|g<;>(cases g;simp only at Z;omega)
  .exact o.1 ⟨A',n,g⟩,o.2⟩
 have x:St (cP w0.heap.size ((b+2)::l) []) b 53 _ _ 0 a7 w7:=⟨t.env,t.sat.OB (λr T j y o=>w _ _ (by have:=t.sat.blk T y;rw[s]at this;exact this) o) (λr T _ j y o=>w _ _ (by have:=t.sat.blk T y;rw[s]at this;exact this) o),t.sz⟩;clear t;have t:=x;clear x;have hBn:∀(a:Addr)(wr:Bool),w0.heap.size<=a.block->(a.off=5\/a.off=6)\/cP w0.heap.size ((b+2)::l) [] a wr:=λa wr Z=>by
  by_cases h5:a.off=5\/a.off=6
  .exact .inl h5
  .refine .inr ⟨fun⟨A',n,g⟩=>?_,λ_=>⟨Z,fun⟨p,W,_⟩=>by cases W⟩⟩;rcases g with g|g
   .cases g;exact h5 (.inl rfl)
   .cases g;exact h5 (.inr rfl)
 let⟨w,R⟩:=vP V lb 0;rw[R]at t;refine j5 F I CI t 32 35 #[] λw w=>PF F hBn t.sat (by omega) λv C Q h8 o1 o2 x x qM x x ag=>w _ _ _ (by rw[s]at h8;exact h8) λw w S8 Nn w=>?_;have hB:∀(a:Addr)(wr:Bool),b+3<=a.block->cP w0.heap.size ((b+2)::l) [] a wr:=λa wr Z=>⟨fun⟨A',n,g⟩=>by
  have w:A'<b+3:=by
   rcases ak.1 n with rfl|n
   .omega
   .have:=hl A' n;omega
  rcases g with g|g<;>(cases g;simp only at Z;omega),λ_=>⟨by omega,fun⟨p,W,_⟩=>by cases W⟩⟩
 rw[s]at S8;refine Rb F hB I Nn S8 11 [] 1 [] [(35,i6 0),(34,i6 V.nc),(33,.slice sa V.nc cap),(12,ptr (b+2)),(11,ptr bo),(10,ptr bl),(9,ptr J),(4,ptr rs)] 59 2 [] λa9 E S9 QH w w N=>?_;have w:pM (gC bl bo (Ys (b+2) J HD O V lb sa cap dL eu v C) L OU 0 [] (.slice none 0 0) Ry)=[bR (b+2) [i6 0,.slice none 0 0],eR Ry,bR J [.slice none 0 0],vR none 5 (λj=>yt (L.ev j)) 0 0 55,sR none 5 (λ_=>[]) 0 0,fR ⟨HD,0,none⟩ 1 (λ_=>[i6 0]) V.nc true,fR ⟨O,0,none⟩ 4 (λ_=>[i6 0,i6 0,i6 0,.slice none 0 0]) V.nc true]:=by
  simp only[pM,B.now,B.el,B.us,B.ou];rfl
 have hs9:Sat (cP w0.heap.size ((b+2)::l) []) E (pM (gC bl bo (Ys (b+2) J HD O V lb sa cap dL eu v C) L OU 0 [] (.slice none 0 0) Ry)++(oR (b+2) 2 [i6 ((0:Nat):Int)] true::(qb OU 0++(sM (b+2) bl bo OU 0++(oR (b+2) 3 [.chan (some v),.chan (some C)] false::oR bo 0 [.slice (some ⟨O,0,none⟩) V.nc V.nc] false::oR bl 0 [Yw V lb 0] false::bR rs [.slice none 0 0,.slice none 0 0]::(X++M)))))):=by
  rw[w,R];have l:=Sat.yg (A:=[_,_,_]) S9.sat;have w:=Sat.yg (A:=[_,_,_,_,_]) l;have l:=Sat.qj (Sat.qj (Sat.qj w (r:=eR Ry) rfl rfl) (r:=vR none 5 (λj=>yt (L.ev j)) 0 0 55) rfl rfl) (r:=sR none 5 (λ_=>[]) 0 0) rfl rfl;exact l.perm (My ..)
 have m:∀{c:Nat},gw Q c->c<Q.heap.size:=λh=>(cU.1 h).1;have u:∀o,o=5\/o=6->E.cell? ⟨b+2,o,none⟩=Q.cell? ⟨b+2,o,none⟩/\E.frozen? ⟨b+2,o,none⟩=Q.frozen? ⟨b+2,o,none⟩:=λo h=>N.cell _ (by show b+2<Q.heap.size;omega) (fun⟨i,r,j,n,g,h3,h4⟩=>by
  have:=((S8.sat.ok i r n j h3).2 g).1.1;rw[h4]at this;exact this ⟨b+2,bI ..,by rcases h with rfl|rfl;exact .inl rfl;exact .inr rfl⟩)
 rw[s]at ag;have ag5:=ag.a5;have ag6:=ag.a6;refine At.assume gN λh=>At.keep (K':=K2 w0 (b+2) (BM v C OU 0)) (λl=>⟨h,⟨λp W=>(by cases W),λc hc=>?_⟩,⟨?_,?_⟩,⟨?_,?_⟩⟩) (Ic (kk:=Ys (b+2) J HD O V lb sa cap dL eu v C) hV B (bI ..) hB I qh (M:=oR (b+2) 3 [.chan (some v),.chan (some C)] false::oR bo 0 [.slice (some ⟨O,0,none⟩) V.nc V.nc] false::oR bl 0 [Yw V lb 0] false::bR rs [.slice none 0 0,.slice none 0 0]::(X++M)) ((((hX.cons rfl).cons rfl).cons rfl).cons rfl) (dL:=dL) (eu:=eu) (λz=>?_) ?_ V.nc 0 OU [] (.slice none 0 0) Ry a9 E _ rfl QH (by omega) rfl ⟨λj y=>by omega,λi A=>by omega,?_⟩ ?_ ?_ rfl ⟨S9.env,hs9,rfl⟩)
 .show∃b,E.heap[c]? =_;have q1:gw E v:=N.obj _ _ o1 (λ_ _ _ z=>by cases z);have q2:gw E C:=N.obj _ _ o2 (λ_ _ _ z=>by cases z);simp only[BM,List.range_zero,uf,ak,bH,or_false]at hc;rcases hc with rfl|rfl
  .exact⟨0,q1⟩
  .exact⟨0,q2⟩
 .exact(u 5 (.inl rfl)).1.trans ag5
 .exact(u 5 (.inl rfl)).2.trans (ag.z 5)
 .exact(u 6 (.inr rfl)).1.trans ag6
 .exact(u 6 (.inr rfl)).2.trans (ag.z 6)
 .let⟨ca,e1,e2⟩:=hC z;exact⟨ca,e1,(e2.app X).cons.cons.cons.cons⟩
 .intro f q D P a1 H B1 n g h3 h4 h5 c b h8 S;exact K v C f q D P a1 H B1 (by omega) (by omega) qM n g h3 h4 h5 c b h8 S
 .exact⟨by have:=m o1;omega,by have:=m o2;omega⟩
 .refine⟨⟨.inl ⟨rfl,B.el,rfl⟩,?_,gl _,λa ha=>(by cases ha)⟩,⟨λe he=>(by cases he),.inl ⟨rfl,rfl,rfl⟩⟩,λz=>(by cases z),λk _ _=>by show qv _ (L.gt k).la jC;rw[B.gt];exact Zj,λk _ _=>⟨λ_=>⟨rfl,rfl,rfl⟩,λz=>(by cases z),λz=>(by cases z),λj y=>(by cases y)⟩,λr T=>(by cases T),λj y=>absurd y (uk _)⟩;show L.el<=0;rw[B.el];exact az _
 .exact⟨λi A=>(by cases A),λi A=>absurd A (uk _),List.Pairwise.nil,λi A=>(by cases A),λi A=>(by cases A)⟩
abbrev Kk(w0:aj)(l:aN)(kk:PK)(f:Bg)(cR:aC)(lT:cO)(X M:aW)(rs bl bo:Nat)(Lf:LS->Prop):RN:=
 {wI:=w0,l:=kk.A::l,k:=kk,cR:=cR,lT:=lT,S:=sM kk.A bl bo f kk.V.nc++(oR kk.A 3 [.chan (some kk.bM),.chan (some kk.bJ)] false::oR bo 0 [.slice (some ⟨kk.O,0,none⟩) kk.V.nc kk.V.nc] false::oR bl 0 [Yw kk.V kk.lb 0] false::(X++M)),W:=[bR rs [.slice none 0 0,.slice none 0 0]],Lf:=Lf,n:=9990,bi:=f.bi,bl:=bl,bo:=bo}
structure Sj(V:Ev0)(sa:eP)(dL:p9)(eu:bU)(M:aW):Prop where
 ro:∀r∈M,r.wr=false
 fl:Flat M
 OT:0<V.nc->∃ca,sa=some ca/\Has M (fR ca 2 (λj=>[i6 (V.st j),.slice (dL j) (V.nt j) (eu j)]) V.nc false)
 xm:∀c,c<V.nc->0<V.nt c->∃ta,dL c=some ta/\Has M (fR ta 3 (λj=>s9 (V.tr c j)) (V.nt c) false)
 err:Has M (oR 0 0 [.iface 217 (.agg #[.pointer (some ⟨1,121,none⟩)])] false)
theorem NA{k:Nat}(c:j<k)(a:r∈Ah A bl bo f j):Has (sM A bl bo f k) r:=by
 have b:r∈sM A bl bo f k:=mL.2 ⟨j,aZ.2 c,a⟩;let⟨i,c⟩:=lP b;refine⟨?_,i,c⟩;simp only[Ah,ak,bH,or_false]at a;rcases a with rfl|rfl|rfl|rfl|rfl<;>rfl
theorem RD(y:wM V)(v:∀x∈l,x<w0.heap.size){cR:aC}{lT:cO}{s:aj}(z:w0.heap.size<=A)(t:w0.heap.size<=bM)(w:w0.heap.size<=bJ)(i:bM≠bJ)(B:Ss V bM bJ f V.nc s)(g:Sj V sa dL eu M)(q:Flat X)(p:∀r∈X,r.wr=false)(e:tV V lb J 0 (X++M))(o:Has X (tQ (lb V.nl) .nilIface (-1) J))(n:Has X (oR (lb V.nl) 3 [.slice sa V.nc cap,.slice (some ⟨HD,0,none⟩) V.nc V.nc] false)):
 tZ (Kk w0 l (Ys A J HD O V lb sa cap dL eu bM bJ) f cR lT X M rs bl bo Lf):=by
 have up:∀{r},Has (X++M) r->Has (Kk w0 l (Ys A J HD O V lb sa cap dL eu bM bJ) f cR lT X M rs bl bo Lf).S r:=λh=>h.cons.cons.cons.app _;have h:∀{j r},j<V.nc->r∈Ah A bl bo f j->Has (Kk w0 l (Ys A J HD O V lb sa cap dL eu bM bJ) f cR lT X M rs bl bo Lf).S r:=λb a=>(NA b a).pre _;refine⟨y,rfl,bI ..,λx d=>?_,z,t,w,i,λu=>?_,?_,?_,?_,?_,λj b=>h b (by simp[Ah]),?_,?_⟩
 .rcases ak.1 d with rfl|d
  .exact az _
  .have:=v x d;show x<=A;omega
 .let⟨d,m,k⟩:=g.OT u;subst m;exact⟨λj b=>up (e.lay j (gl _) b),λj b d=>up (e.Ig j (gl _) b d),λj b d=>up (e.Mi j (gl _) b d),λj b d=>up (e.Lh j (gl _) b d),λj b d=>up (e.Kj j (gl _) b d),λj b d=>up (e.Tn j (gl _) b d),up (o.pre _),up (n.pre _),up (k.app _),λc e d=>by
   let⟨b,i,h⟩:=g.xm c e d;exact⟨b,i,up (h.app _)⟩,up (g.err.app _)⟩
 .exact(Bn _ _ _ f _).app ((((q.app g.fl).cons rfl).cons rfl).cons rfl)
 .exact Flat.nil.cons rfl
 .intro r a;rcases dJ.1 a with a|a
  .let⟨j,_,a⟩:=mL.1 a;simp only[Ah,ak,bH,or_false]at a;rcases a with rfl|rfl|rfl|rfl|rfl<;>rfl
  .rcases ak.1 a with rfl|a
   .rfl
   .rcases ak.1 a with rfl|a
    .rfl
    .rcases ak.1 a with rfl|a
     .rfl
     .rcases dJ.1 a with a|a
      .exact p r a
      .exact g.ro r a
 .exact Has.app (C:=_::_) ⟨rfl,0,rfl⟩ _
 .exact Has.app (C:=_::_::_) ⟨rfl,1,rfl⟩ _
 .exact Has.app (C:=_::_::_::_) ⟨rfl,2,rfl⟩ _
theorem Sat.zn(h:Sat (cP N l []) w M)(b:∀p∈st,∃r∈M,r.wr=false/\∃j,r.has j/\r.ad j=p.1):Sat (cP N l st) w M:=by
 refine h.OB (λr _ j _ o=>⟨o.1,λz=>by cases z⟩) (λr d a j f o=>⟨o.1,λ_=>⟨(o.2 rfl).1,fun⟨p,c,e⟩=>?_⟩⟩);let⟨_,k,j,_,i,g⟩:=b p c;simp only[Loc.cell.injEq]at e;exact h.dj d k a j f i (by rw[e,g])
theorem PV.zn{es:jl}(P:PV (cP N l []) s es)(h:s.ea=none)(f:∀k,(s.f k).s=false)(m:∀j,(s.bf j).s=false)(r:s.eb.c=1->∀p∈st,p.1.block≠s.eb.E):PV (cP N l st) s es:=by
 refine⟨⟨P.jr.row,P.jr.le,P.jr.mx,λa q=>?_⟩,P.en,λi=>⟨(P.eo i).1,λa wr n=>?_⟩,λk d c=>⟨(P.fb k d c).nil,(P.fb k d c).len,λz=>(by rw[f]at z;cases z),(P.fb k d c).val⟩,λk d b=>⟨(P.rm k d b).nil,(P.rm k d b).len,λz=>(by rw[f]at z;cases z),(P.rm k d b).val⟩,P.cx,λj g=>⟨(P.bg j g).nil,(P.bg j g).len,λz=>(by rw[m]at z;cases z),(P.bg j g).val⟩⟩
 .rw[h]at q;cases q
 .have o:=(P.eo i).2 a wr n;refine⟨o.1,λz=>⟨(o.2 z).1,fun⟨p,a,e⟩=>?_⟩⟩;simp only[Loc.cell.injEq]at e;exact r i p a (by rw[<-e];exact n)
def tA(A:Nat)(f:Bg)(k:Nat):List aH:=(List.range k).flatMap λj=>[dO (f.T j) (.pointer none) (.slice none 0 0) false false,fR ⟨jC.g,jC.o,none⟩ 1 jC.v (rK jC) true,wF (f.T j) A j j (f.aS j)]
theorem Uf{Q:dh}{w:aj}{A:Nat}{f:Bg}{Y:aW}:∀k,(∀j,j<k->wF (f.T j) A j j (f.aS j)∈Y)->∀Z,Sat Q w (qb f k++(Z++Y))->Sat Q w (tA A f k++(Z++Y))
 |0,_,Z,h=>h
 |k+1,b,Z,h=>by
  unfold qb at h;unfold tA;rw[rj,yZ]at h ⊢;simp only[DN,List.flatMap_nil,List.append_nil]at h ⊢;rw[dU]at h ⊢;have e:=Uf k (λj g=>b j (by omega)) ([dO (f.T k) (.pointer none) (.slice none 0 0) false false]++Z) (by rw[dU];exact h);have d:=e.Rz (Z:=[wF (f.T k) A k k (f.aS k)]) λr a=>by
   simp only[ak,bH,or_false]at a;subst a;exact⟨gF _ (gF _ (b k (by omega))),rfl⟩
  have b:=Sat.qj d (r:=fR ⟨jC.g,jC.o,none⟩ 1 jC.v (rK jC) true) rfl rfl;refine b.perm ?_;have c:=fA [fR ⟨jC.g,jC.o,none⟩ 1 jC.v (rK jC) true,wF (f.T k) A k k (f.aS k)] (tA A f k++[dO (f.T k) (.pointer none) (.slice none 0 0) false false]) (Z++Y);unfold tA at c ⊢;simpa using c
theorem Vg{L:LS}(b:yI V L){a:mW}:tS (gC bl bo (Ys A J HD O V lb sa cap dL eu bM bJ) L f V.nc q D a)=tA A f V.nc:=by
 unfold tS tA;refine so _ _ V.nc λj a=>?_;have h:=b.tk j a;unfold j7;show[dO (f.T j) (j9 _ (L.tk j).o) (su jC 0) (L.tk j).x (L.tk j).e,_,wF (f.T j) A j (L.tk j).c (f.aS j)]=_;rw[h.1,h.2.2.1,h.2.2.2.1,h.2.2.2.2];rfl
theorem VZ{L:LS}(a:yI V L){b:mW}:gS (gC bl bo (Ys A J HD O V lb sa cap dL eu bM bJ) L f V.nc q D b)=gT V lb 0++(oR A 2 [i6 V.nc] true::(tA A f V.nc++T3 A bl bo f V.nc)):=by
 unfold gS xS;rw[Vg a];unfold gA wS gT;rw[List.range_eq_range',Al,show(gC bl bo (Ys A J HD O V lb sa cap dL eu bM bJ) L f V.nc q D b).l.wl=0 from a.wl];simp only[a.gt];rfl
theorem Pz(C T P G Y:aW)(a:aH):(C++(T++((P++(G++[a]))++Y))).Perm (P++((G++(a::(T++C)))++Y)):=by
 have c:=fA C T ((P++(G++[a]))++Y);have b:=fA (T++C) (P++(G++[a])) Y;rw[dU]at b;have a:=c.trans b;simpa using a
theorem Po{L:LS}(hV:wM V)(S:yI V L)(hf:Fin V Lf m none L)(U8:0<ng)(hl:∀x∈l,x<w0.heap.size){a1:Act}{E:aj}{c:mW}(QX:U.kind=.normal)(qh:U.fn=24)(hA:w0.heap.size<=A)(x:A<B1)(hw:w0.heap.size<=bM)(he:w0.heap.size<=bJ)(x:bM≠bJ)(Nt:a1.defers=[])(zS:E.heap.size=B1)(hI:Ss V bM bJ f V.nc E)(hM:Sj V sa dL eu M)(hXf:Flat X)(hXr:∀r∈X,r.wr=false)(hS:tV V lb J 0 (X++M))(Hj:Has X (tQ (lb V.nl) .nilIface (-1) J))(Bl:Has X (oR (lb V.nl) 3 [.slice sa V.nc cap,.slice (some ⟨HD,0,none⟩) V.nc V.nc] false))(hK:K2 w0 A (BM bM bJ f V.nc) E)(hP:PV (cP w0.heap.size (A::l) []) (gC bl bo (Ys A J HD O V lb sa cap dL eu bM bJ) L f V.nc q D c) (bA (gC bl bo (Ys A J HD O V lb sa cap dL eu bM bJ) L f V.nc q D c)))(hQ:QI (gC bl bo (Ys A J HD O V lb sa cap dL eu bM bJ) L f V.nc q D c))(hq:q.length=V.nc)(S1:St (cP w0.heap.size (A::l) []) B1 53 [(47,ptr A),(11,ptr bo),(9,ptr J),(4,ptr rs)] (pM (gC bl bo (Ys A J HD O V lb sa cap dL eu bM bJ) L f V.nc q D c)++(oR A 2 [i6 V.nc] true::(qb f V.nc++(sM A bl bo f V.nc++(oR A 3 [.chan (some bM),.chan (some bJ)] false::oR bo 0 [.slice (some ⟨O,0,none⟩) V.nc V.nc] false::oR bl 0 [Yw V lb 0] false::bR rs [.slice none 0 0,.slice none 0 0]::(gT V lb 0++(X++M))))))) 0 a1 E)(K:∀(Q:aC)(C:Nat)(s:PS)(zV:aW)(I:aj),0<C->s.k=(Kk w0 l (Ys A J HD O V lb sa cap dL eu bM bJ) f Q (d::Y) X M rs bl bo Lf).k->Lf s.l->Old w0 I->Sat (cP w0.heap.size (A::l) []) I (bR rs [.slice (some ⟨O,0,none⟩) V.nc V.nc,.slice s.ea s.l.el s.ec]::(pM s++(zV++(Kk w0 l (Ys A J HD O V lb sa cap dL eu bM bJ) f Q (d::Y) X M rs bl bo Lf).S)))->PV (cP w0.heap.size (A::l) []) s (bA s)->(∀j,j<V.nc->fu (zV++(Kk w0 l (Ys A J HD O V lb sa cap dL eu bM bJ) f Q (d::Y) X M rs bl bo Lf).S) (s.oh j) (s.l.ou j).b.ch)->
 nM prog Post (Old w0) (jq (A::l)) C (G (d.finish (.tuple #[.agg #[.slice (some ⟨O,0,none⟩) V.nc V.nc,.slice s.ea s.l.el s.ec],i6 0,i6 0])) Y) I):
 nM prog Post (K2 w0 A (BM bM bJ f V.nc)) (jq (A::l)) ng (G (U.at a1 (pc prog 24 69 [false,false] [])) (d::Y)) E:=by
 have F:=NN (Post:=Post) (w0:=w0) (A:=A) (cc:=BM bM bJ f V.nc) (l:=A::l) (bI ..) ng;refine Af F QX 48 39 #[ptr A] (by kernel_rfl) (by kernel_rfl) (by decide) S1 λQ hcR=>At.keep (K':=Old w0) (λG=>hK.1) ?_;have H:=RD (cR:=Q) (lT:=d::Y) (rs:=rs) (bl:=bl) (bo:=bo) (Lf:=Lf) (O:=O) hV hl hA hw he x hI hM hXf hXr hS Hj Bl;have ZJ:Sat (cP w0.heap.size (A::l) []) E (pM (gC bl bo (Ys A J HD O V lb sa cap dL eu bM bJ) L f V.nc q D c)++(gS (gC bl bo (Ys A J HD O V lb sa cap dL eu bM bJ) L f V.nc q D c)++([bR rs [.slice none 0 0,.slice none 0 0]]++(Kk w0 l (Ys A J HD O V lb sa cap dL eu bM bJ) f Q (d::Y) X M rs bl bo Lf).S))):=by
  rw[show gS (gC bl bo (Ys A J HD O V lb sa cap dL eu bM bJ) L f V.nc q D c)=_ from VZ S];have bgm:∀{j r},j<V.nc->r∈Ah A bl bo f j->r∈[bR rs [.slice none 0 0,.slice none 0 0]]++(Kk w0 l (Ys A J HD O V lb sa cap dL eu bM bJ) f Q (d::Y) X M rs bl bo Lf).S:=λn W=>gF _ (gU _ (mL.2 ⟨_,aZ.2 n,W⟩));generalize hPP:pM (gC bl bo (Ys A J HD O V lb sa cap dL eu bM bJ) L f V.nc q D c)=PP at S1 ⊢;have h0:Sat (cP w0.heap.size (A::l) []) E (qb f V.nc++((PP++(gT V lb 0++[oR A 2 [i6 V.nc] true]))++([bR rs [.slice none 0 0,.slice none 0 0]]++(sM A bl bo f V.nc++(oR A 3 [.chan (some bM),.chan (some bJ)] false::oR bo 0 [.slice (some ⟨O,0,none⟩) V.nc V.nc] false::oR bl 0 [Yw V lb 0] false::(X++M)))))):=by
   refine S1.sat.perm ?_;have p1:=fA (PP++[oR A 2 [i6 V.nc] true]) (qb f V.nc) (sM A bl bo f V.nc++(oR A 3 [.chan (some bM),.chan (some bJ)] false::oR bo 0 [.slice (some ⟨O,0,none⟩) V.nc V.nc] false::oR bl 0 [Yw V lb 0] false::bR rs [.slice none 0 0,.slice none 0 0]::(gT V lb 0++(X++M))));have p2:=fA (sM A bl bo f V.nc++[oR A 3 [.chan (some bM),.chan (some bJ)] false,oR bo 0 [.slice (some ⟨O,0,none⟩) V.nc V.nc] false,oR bl 0 [Yw V lb 0] false]) (bR rs [.slice none 0 0,.slice none 0 0]::gT V lb 0) (X++M);have G:=fA [oR A 2 [i6 V.nc] true,bR rs [.slice none 0 0,.slice none 0 0]] (gT V lb 0) (sM A bl bo f V.nc++(oR A 3 [.chan (some bM),.chan (some bJ)] false::oR bo 0 [.slice (some ⟨O,0,none⟩) V.nc V.nc] false::oR bl 0 [Yw V lb 0] false::(X++M)));have x:(PP++(oR A 2 [i6 V.nc] true::(qb f V.nc++(sM A bl bo f V.nc++(oR A 3 [.chan (some bM),.chan (some bJ)] false::oR bo 0 [.slice (some ⟨O,0,none⟩) V.nc V.nc] false::oR bl 0 [Yw V lb 0] false::bR rs [.slice none 0 0,.slice none 0 0]::(gT V lb 0++(X++M))))))).Perm (qb f V.nc++(PP++(oR A 2 [i6 V.nc] true::(sM A bl bo f V.nc++(oR A 3 [.chan (some bM),.chan (some bJ)] false::oR bo 0 [.slice (some ⟨O,0,none⟩) V.nc V.nc] false::oR bl 0 [Yw V lb 0] false::bR rs [.slice none 0 0,.slice none 0 0]::(gT V lb 0++(X++M))))))):=by simpa using p1
   refine x.trans (eN _ ?_);rw[dU];refine eN _ ?_;have x:(oR A 2 [i6 V.nc] true::(sM A bl bo f V.nc++(oR A 3 [.chan (some bM),.chan (some bJ)] false::oR bo 0 [.slice (some ⟨O,0,none⟩) V.nc V.nc] false::oR bl 0 [Yw V lb 0] false::bR rs [.slice none 0 0,.slice none 0 0]::(gT V lb 0++(X++M))))).Perm (oR A 2 [i6 V.nc] true::bR rs [.slice none 0 0,.slice none 0 0]::(gT V lb 0++(sM A bl bo f V.nc++(oR A 3 [.chan (some bM),.chan (some bJ)] false::oR bo 0 [.slice (some ⟨O,0,none⟩) V.nc V.nc] false::oR bl 0 [Yw V lb 0] false::(X++M))))):=List.Perm.cons _ (by simpa using p2);refine x.trans ?_;simpa using G
  have y:=Uf (A:=A) V.nc (λj n=>bgm n (by simp[Ah])) _ h0;have B:=y.Rz (Z:=T3 A bl bo f V.nc) λr W=>by
   refine⟨gF _ (gF _ ?_),(ww r W).1⟩;let⟨j,n,W⟩:=mL.1 W;refine bgm (aZ.1 n) ?_;simp only[ak,bH,or_false]at W;rcases W with rfl|rfl|rfl<;>simp[Ah,ZE]
  exact B.perm (Pz ..)
 generalize u:Kk w0 l (Ys A J HD O V lb sa cap dL eu bM bJ) f Q (d::Y) X M rs bl bo Lf=R at*;have T:R.k.A=A:=by rw[<-u]
 have eI:R.wI=w0:=by rw[<-u]
 have el:R.l=A::l:=by rw[<-u]
 have eV:R.k.V=V:=by rw[<-u]
 have ew:R.k.bM=bM:=by rw[<-u]
 have ee:R.k.bJ=bJ:=by rw[<-u]
 have eL:R.Lf=Lf:=by rw[<-u]
 have Wa:dD R (yc R (gC bl bo (Ys A J HD O V lb sa cap dL eu bM bJ) L f V.nc q D c) ng) (gC bl bo (Ys A J HD O V lb sa cap dL eu bM bJ) L f V.nc q D c)=gS (gC bl bo (Ys A J HD O V lb sa cap dL eu bM bJ) L f V.nc q D c)++([bR rs [.slice none 0 0,.slice none 0 0]]++R.S):=by rw[<-u];rfl
 have P:∀j,j<V.nc->Has R.S (wF (f.T j) A j j (f.aS j)):=λj n=>by rw[<-u];exact(NA n (by simp[Ah])).pre _
 have Z:∀{r},Has R.S r->Has (pM (gC bl bo (Ys A J HD O V lb sa cap dL eu bM bJ) L f V.nc q D c)++(gS (gC bl bo (Ys A J HD O V lb sa cap dL eu bM bJ) L f V.nc q D c)++([bR rs [.slice none 0 0,.slice none 0 0]]++R.S))) r:=λh=>((h.app _).app _).app _;let⟨_,x,ZB⟩:=Z H.ch;have Qi:∀p∈Oz R (gC bl bo (Ys A J HD O V lb sa cap dL eu bM bJ) L f V.nc q D c),∃r∈pM (gC bl bo (Ys A J HD O V lb sa cap dL eu bM bJ) L f V.nc q D c)++(gS (gC bl bo (Ys A J HD O V lb sa cap dL eu bM bJ) L f V.nc q D c)++([bR rs [.slice none 0 0,.slice none 0 0]]++R.S)),r.wr=false/\∃j,r.has j/\r.ad j=p.1/\r.get j=p.2:=λp v=>by
  rcases dJ.1 v with v|v
  .simp only[qd,ak,bH,or_false]at v;rcases v with rfl|rfl
   .exact⟨_,gO ZB,rfl,(0,0),⟨aD,(by decide:0<2)⟩,rfl,rfl⟩
   .exact⟨_,gO ZB,rfl,(0,1),⟨aD,(by decide:1<2)⟩,rfl,rfl⟩
  .obtain⟨qq,hqq,rfl⟩:=gV.1 v;obtain⟨j,n,rfl⟩:=gV.1 hqq;have x:j<V.nc:=aZ.1 n;let⟨_,i,N⟩:=Z (P j x);exact⟨_,gO N,rfl,(0,3),⟨aD,(by decide:3<4)⟩,rfl,rfl⟩
 have x:Flat (gS (gC bl bo (Ys A J HD O V lb sa cap dL eu bM bJ) L f V.nc q D c)++([bR rs [.slice none 0 0,.slice none 0 0]]++R.S)):=Flat.app (bO.2 (r9 _ λr W=>(ww r W).2)) ((Flat.nil.cons rfl).app H.fl);have hTb:∀j,j<V.nc->f.T j<E.heap.size:=λj n=>au (Has.sat ZJ (Z (P j n)));have hTE:∀j,j<V.nc->c.c=1->f.T j≠c.E:=λj n hc=>by
  let⟨_,i,N⟩:=Z (P j n);refine l9 (b:=f.T j) ZJ hP x N (λz=>by subst z;have h9:=cT (λo=>o.map aH.wr) N;cases h9) (λz=>by subst z;have h9:=cT (λo=>o.map aH.wr) N;cases h9) (j0:=(0,0)) ⟨aD,(by decide:0<4)⟩ rfl (eR c) (gU _ (by simp[pM])) c.E 128 c.n ?_;show(match c.c with|0=>none|_+1=>some (c.E,128,c.n))=_;rw[hc]
 have hl0:({L with al:=V.nc,tl:=V.nc}:LS)=L:=by
  have y:=S.al;have B:=S.tl;cases L;simp only at y B;subst y;rw[B]
 have c0:Co R (yc R (gC bl bo (Ys A J HD O V lb sa cap dL eu bM bJ) L f V.nc q D c) ng) (gC bl bo (Ys A J HD O V lb sa cap dL eu bM bJ) L f V.nc q D c) E.heap.size:=by
  have o:=hV.nc;refine Wh H (by rw[<-u]) U8 (by rw[eI];omega) (by rw[T];omega) (by rw[ew,ee];exact hI.wl) hTb (λj n=>?_) (λi j N n e=>hI.inj i N j n e) (by rw[H.hn];show V.nc<=_;omega) (λj n=>by rw[<-u];rfl) (λi N=>?_) (λi N=>(hQ.lt i N).1) (λt o=>?_) ?_ S.wl
  .have:=hI.lt j n;rw[eI,ew,ee];exact⟨by show _<=f.aS j;omega,this.1,by show f.aS j≠_;omega,by show f.aS j≠_;omega⟩
  .have KG:i<V.nc:=(hQ.lt i N).1;have:=S.ag i KG;exact⟨i,KG,this.2.1,this.2.2.1⟩
  .have:=S.ag t o;exact⟨t,hQ.all t o this.2.2.2,this.2.1⟩
  .have o:q.Pairwise (fQ L.ag):=hQ.pN;refine LK (fun{a b} t hb h=>?_) o;have y:=(S.ag a (hQ.lt a t).1).2.1;have B:=(S.ag b (hQ.lt b hb).1).2.1;show(L.ag a).t≠(L.ag b).t;rw[y,B];intro e;have:a=b:=by omega
   subst this;exact nE h h
 have hKD:KD R.wI R.k.A (cD R (yc R (gC bl bo (Ys A J HD O V lb sa cap dL eu bM bJ) L f V.nc q D c) ng)) (Oz R (gC bl bo (Ys A J HD O V lb sa cap dL eu bM bJ) L f V.nc q D c)) E:=by
  refine⟨by rw[eI];exact hK.1,⟨λp v=>?_,?_⟩,⟨_,by rw[T];exact hK.2.2.1.1⟩,by rw[T];exact hK.2.2.1.2,⟨_,by rw[T];exact hK.2.2.2.1⟩⟩
  .let⟨r,y,_,j,e,b,h⟩:=Qi p v;rw[<-b,<-h];exact(ZJ.mem y).val j e
  .have:cD R (yc R (gC bl bo (Ys A J HD O V lb sa cap dL eu bM bJ) L f V.nc q D c) ng)=BM bM bJ f V.nc:=by
    show R.k.bM::R.k.bJ::((List.range V.nc).map λj=>(f.T j,f.aS j)).map Prod.snd=_;rw[List.map_map,ew,ee];rfl
   rw[this];exact hK.2.1.2
 have hSg:Sat (jO R (yc R (gC bl bo (Ys A J HD O V lb sa cap dL eu bM bJ) L f V.nc q D c) ng)) E (pM (gC bl bo (Ys A J HD O V lb sa cap dL eu bM bJ) L f V.nc q D c)++dD R (yc R (gC bl bo (Ys A J HD O V lb sa cap dL eu bM bJ) L f V.nc q D c) ng) (gC bl bo (Ys A J HD O V lb sa cap dL eu bM bJ) L f V.nc q D c)):=by
  rw[Wa];show Sat (cP R.wI.heap.size R.l (Oz R (gC bl bo (Ys A J HD O V lb sa cap dL eu bM bJ) L f V.nc q D c))) _ _;rw[eI,el];exact ZJ.zn λp v=>by let⟨r,y,B,j,e,b,_⟩:=Qi p v;exact⟨r,y,B,j,e,b⟩
 have hPg:PV (jO R (yc R (gC bl bo (Ys A J HD O V lb sa cap dL eu bM bJ) L f V.nc q D c) ng)) (gC bl bo (Ys A J HD O V lb sa cap dL eu bM bJ) L f V.nc q D c) (bA (gC bl bo (Ys A J HD O V lb sa cap dL eu bM bJ) L f V.nc q D c)):=by
  show PV (cP R.wI.heap.size R.l (Oz R (gC bl bo (Ys A J HD O V lb sa cap dL eu bM bJ) L f V.nc q D c))) _ _;rw[eI,el];refine hP.zn rfl (λ_=>rfl) (λ_=>rfl) λhc p v=>?_;have b:A<c.E:=(hP.eo hc).1;rcases dJ.1 v with v|v
  .simp only[qd,ak,bH,or_false]at v;rcases v with rfl|rfl
   .show R.k.A≠c.E;rw[T];omega
   .show R.k.A≠c.E;rw[T];omega
  .obtain⟨qq,hqq,rfl⟩:=gV.1 v;obtain⟨j,n,rfl⟩:=gV.1 hqq;exact hTE j (aZ.1 n) hc
 have VT:J0 R Post:=by
  intro C s b I U7 zK;let⟨zV,hY⟩:=zK.dW;have eW:R.W=[bR rs [.slice none 0 0,.slice none 0 0]]:=by rw[<-u]
  have e1:R.cR=Q:=by rw[<-u]
  have e2:R.lT=d::Y:=by rw[<-u]
  have VU:=zK.sat;have XW:=zK.pv;have XX:=zK.old;rw[hY,eW]at VU;rw[eI,el]at VU XW ⊢;rw[eI]at XX;rw[e1,e2];have b:Sat (cP w0.heap.size (A::l) []) I (bR rs [.slice none 0 0,.slice none 0 0]::(pM s++(zV++R.S))):=VU.perm (by
   have:=(fA [bR rs [.slice none 0 0,.slice none 0 0]] (pM s++zV) R.S).symm;simpa using this)
  have c:R.bo=bo:=by rw[<-u]
  have e:R.k.O=O:=by rw[<-u]
  have f:s.k.J=J:=by rw[zK.hk,<-u]
  have Ja:=H.Ja;rw[c,e,eV]at Ja;have c:=b.get ((Ja.app zV).app (pM s)).cons;refine hcR (λg w=>nM prog Post (Old w0) (jq (A::l)) C g w) (.tuple #[]) I λe b DF=>?_;have S2:St (cP w0.heap.size (A::l) []) I.heap.size 53 _ _ 0 e I:=⟨b,c,rfl⟩;rw[<-f]at S2;have b:e.defers=[]:=DF.trans Nt;clear DF;have DF:=b;have F:=nA (P:=prog) (Post:=Post) (wI:=w0) (l:=A::l) C;have hDA:=zK.AB;rw[T]at hDA;have b:=XX.2.2.2.1;generalize hB2:I.heap.size=B2 at*;have hB:∀(a:Addr)(wr:Bool),B2<=a.block->cP w0.heap.size (A::l) [] a wr:=λa wr hb=>⟨fun⟨A',y,B⟩=>by
   have a:A'<B2:=by
    rcases ak.1 y with rfl|y
    .omega
    .have:=hl A' y;omega
   rcases B with B|B<;>(cases B;simp only at hb;omega),λ_=>⟨by omega,fun⟨p,v,_⟩=>by cases v⟩⟩
  refine aq (λM=>bh 1 (0,1) (.slice s.ea s.l.el s.ec) (bh 1 (0,0) (.slice (some ⟨O,0,none⟩) V.nc V.nc) (M))) 0 F hB QX DF S2 11 [0,0,0,1,4,0,0,1,1,0,0,2] 1 [] [(6,i6 0),(5,i6 0),(4,ptr rs)] 81 4 [] λa c b a e e e=>cC F b QX qh a [1,0,0,2] (.tuple #[.agg #[.slice (some ⟨O,0,none⟩) V.nc V.nc,.slice s.ea s.l.el s.ec],i6 0,i6 0]) ?_;refine At.assume gN λa=>K Q C s zV c U7 (by rw[zK.hk,<-u]) (by rw[<-eL];exact zK.l) a ?_ XW (λj n=>?_)
  .rw[u];exact b.sat.tail
  .have hc:=zK.ch j (by rw[eV];exact n);rw[u];rcases hc with hc|⟨ca,cap',i,y,B⟩
   .exact .inl hc
   .have hm:gQ ca (s.l.ou j).b.ch∈zV++R.S:=by
     have:=gO B;rw[hY,eW]at this;simp only[dU,dJ,ak,bH,or_false]at this;rcases this with z|z|z
     .exact gU _ z
     .have h9:=cT aH.wr z;cases h9
     .exact gF _ z
    let⟨a,KG⟩:=lP hm;exact .inr ⟨ca,cap',a,y,KG⟩
 have:=GZ (m:=m) H VT hKD (by rw[T];exact hK.2.2.2) (by rw[T];exact hK.2.2.1) c0 hSg hPg hQ (Z9 S) (λk _ _=>⟨List.Pairwise.nil,λw hw=>(by cases hw),λw hw=>(by have y:w<L.wl:=hw;rw[S.wl]at y;cases y)⟩) (by rw[eV,eL];show Fin V Lf m none ({L with al:=V.nc,tl:=V.nc}:LS);rw[hl0];exact hf);rw[eI,el,T]at this;have e1:R.cR=Q:=by rw[<-u]
 have e2:R.lT=d::Y:=by rw[<-u]
 rw[e1,e2]at this;exact this
theorem mq:Has C r↔r.wr=false/\r∈C:=⟨fun⟨b,i,a⟩=>⟨b,gO a⟩,fun⟨b,a⟩=>⟨b,lP a⟩⟩
theorem Pm{L:LS}(y:wM V)(H:yI V L)(P:Fin V Lf m none L)(t:0<ng)(u:∀x∈l,x<w0.heap.size)(B:Sj V sa dL eu M)(k:0<V.nl->∃m,sL=some m/\Has M (fR m 6 (λi=>EV (V.ly i)) V.nl false))(v:Sat (cP w0.heap.size l []) w0 M)(g:O3 (cP w0.heap.size l []) (nM prog Post (Old w0) (jq l) ng) w0.heap.size M 16 #[.slice sL V.nl cA,.slice sa V.nc cap] (.tuple #[i6 0,i6 0]))(K:∀(c A:Nat)(s:PS)(C:aW)(I:aj),0<c->w0.heap.size<=A->A<I.heap.size->Lf s.l->s.k.V=V->Old w0 I->Sat (cP w0.heap.size (A::l) []) I (pM s++C)->PV (cP w0.heap.size (A::l) []) s (bA s)->(∀r,Has M r->Has C r)->(∀j,j<V.nc->fu C (s.oh j) (s.l.ou j).b.ch)->
 nM prog Post (Old w0) (jq (A::l)) c (G (d.finish (.tuple #[.agg #[.slice (some ⟨s.k.O,0,none⟩) V.nc V.nc,.slice s.ea s.l.el s.ec],i6 0,i6 0])) Y) I):
 nM prog Post (Old w0) (jq l) ng (G (Frame.enter prog 24 #[.slice sL V.nl cA,.slice sa V.nc cap] .normal) (d::Y)) w0:=by
 have F:=nA (P:=prog) (Post:=Post) (wI:=w0) (l:=l) ng;have w:∀(a:Addr)(wr:Bool),w0.heap.size<=a.block->cP w0.heap.size l [] a wr:=λa wr E=>⟨fun⟨a,e,b⟩=>by
  have:=u a e;rcases b with b|b<;>(cases b;simp only at E;omega),λ_=>⟨E,fun⟨p,o,_⟩=>by cases o⟩⟩
 refine Pq F w y k v (az _) g λU L F C lb HD J O bl bo rs X j k p m o n G w v A=>?_;have i:∀{r},Has X r->Has (X.filter λr=>!r.wr) r:=λh=>by
  let⟨e,b⟩:=mq.1 h;exact mq.2 ⟨e,mK.2 ⟨b,by simp[e]⟩⟩
 have x:∀{r},Has (X++M) r->Has ((X.filter λr=>!r.wr)++M) r:=λh=>by
  let⟨e,b⟩:=mq.1 h;rcases dJ.1 b with z|z
  .exact(i (mq.2 ⟨e,z⟩)).pre _
  .exact(mq.2 ⟨e,z⟩:Has M _).app _
 have h:∀r∈X.filter λr=>!r.wr,r.wr=false:=λr g=>by simpa using(mK.1 g).2
 have a:Flat (X.filter λr=>!r.wr):=by
  rw[bO]at n ⊢;exact λr g=>n r (mK.1 g).1
 have z:tV V lb J 0 ((X.filter λr=>!r.wr)++M):=G.up λr g=>x g
 have x:St (cP w0.heap.size l []) C 53 _ (bR bo [.slice (some ⟨O,0,none⟩) V.nc V.nc]::fR ⟨O,0,none⟩ 4 (λ_=>[i6 0,i6 0,i6 0,.slice none 0 0]) V.nc true::bR bl [Yw V lb 0]::fR ⟨HD,0,none⟩ 1 (λ_=>[i6 0]) V.nc true::bR J [.slice none 0 0]::bR rs [.slice none 0 0,.slice none 0 0]::((gT V lb 0++(X.filter λr=>!r.wr))++M)) 0 L F:=
  ⟨A.env,A.sat.sub (by
   repeat apply List.Sublist.cons_cons
   rw[dU];exact nN (D7 List.filter_sublist _) _),A.sz⟩
 refine Uj y H u j k p m o (((bO.2 (NK V lb 0)).app a).app B.fl) B.OT x λbM bJ f q D f f f B1 e b A x f q p o m l f N=>Po y H P t u j k (by omega) (by omega) e b A x q p B a h z (i w) (i v) o m l f (by rw[dU]at N;exact N) λa c s o I l e k j f i h=>?_;have m:s.k.O=O:=by rw[e]
 have b:=au (f.tail.val 0 _ rfl (0,0) ⟨aD,(by decide:0<2)⟩);have a:s.k.A=C+2:=by rw[e]
 have:=K c (C+2) s _ I l (by omega) (by rw[<-a];exact b) k (by rw[e]) j f.tail i (λr g=>((((g.app _).cons.cons.cons).app _).app o)) h;rw[m]at this;exact this
theorem Ui(F:aB prog true (DX Q) H)(h:HB B Q){nl b:Nat}(a:c≠0)(a:Sat Q w M)(e:B<=w.heap.size)(f:O3 Q H B M 16 #[.slice sL nl cA,.slice sa b cap] (.tuple #[i6 c,i6 i]))(K:∀I,Sat Q I M->w.heap.size<=I.heap.size->H (G (d.finish (.tuple #[.agg #[.slice none 0 0,.slice none 0 0],i6 c,i6 i])) Y) I):
 H (G (Frame.enter prog 24 #[.slice sL nl cA,.slice sa b cap] .normal) (d::Y)) w:=by
 refine cJ func24 a 53 λU a B1 a a g e k j=>aq (λM=>bR (B1) [.slice none 0 0,.slice none 0 0]::(M)) 1 F h a e k 11 [] 1 [] [(17,.slice sa b cap),(16,.slice sL nl cA),(4,ptr B1),(0,.slice sL nl cA),(1,.slice sa b cap)] 11 1 [] λe e j e k k k=>j5 F a e j 18 16 #[.slice sL nl cA,.slice sa b cap] λb b=>f _ _ _ _ (λr e=>e.cons) j.sat (by omega) λe f e=>b _ _ _ f λb b f b e=>TP F h a b f 21 [0,0,0,2] 6 [] [(6,i6 i),(5,i6 c),(4,ptr B1)] 33 3 [] [] [(c !=0,true)] [] [] λb f e b h h h=>cC F e a g b [0,0,0,2] (.tuple #[.agg #[.slice none 0 0,.slice none 0 0],i6 c,i6 i]) ?_;exact K f e.sat.tail (by omega)
def nC(n:Nat)(L:oF)(m:Nat)(g:Nat->Cl):Ev0:=⟨n,λi=>⟨L i 0,L i 1,L i 2,L i 3,L i 4,L i 5⟩,m,λi=>(g i).st,λi=>(g i).nt,λi j=>⟨(g i).T j 0,(g i).T j 1,(g i).T j 2⟩⟩
theorem BO(L:oF):∀(m k:Nat)(r:Int),cZ L m k r=k+m->∀j,k<=j->j<k+m->aF (L j 0) (L j 1) (L j 2) (L j 3) (L j 4) (L j 5)=true
 |0,k,r,_,j,d,c=>by omega
 |m+1,k,r,h,j,d,c=>by
  unfold cZ at h;by_cases a:2<(if L k 0=1 then r+1 else r)\/aF (L k 0) (L k 1) (L k 2) (L k 3) (L k 4) (L k 5)=false
  .rw[ah a]at h;omega
  .rw[af a]at h;by_cases e:j=k
   .subst e;cases b:aF (L j 0) (L j 1) (L j 2) (L j 3) (L j 4) (L j 5)with
    |true=>rfl
    |false=>exact absurd (.inr b) a
   .exact BO L m (k+1) (if L k 0=1 then r+1 else r) (by rw[h];omega) j (by omega) (by omega)
theorem uT(g:Nat->Cl):∀(m k:Nat),fY g m k=k+m->∀j,k<=j->j<k+m->(g j).YM=true
 |0,k,_,j,c,b=>by omega
 |m+1,k,h,j,c,b=>by
  unfold fY at h;split at h
  .omega
  .rename_i a;by_cases e:j=k
   .subst e;simpa using a
   .exact uT g m (k+1) (by omega) j (by omega) (by omega)
theorem uG(T:oF):∀(m k:Nat),lQ T m k=true->∀j,k<=j->j<k+m->(1<=T j 0/\T j 0<=4)/\(0<=T j 2/\T j 2<=1000)
 |0,k,_,j,b,a=>by omega
 |m+1,k,h,j,b,a=>by
  unfold lQ at h;simp only[bZ,eB,decide_eq_true_eq]at h;by_cases e:j=k
  .subst e;exact⟨by simpa using h.1.1,by simpa using h.1.2⟩
  .exact uG T m (k+1) h.2 j (by omega) (by omega)
theorem GU{ly:Nat->ju}{L:oF}(a:∀i,(ly i).k=L i 0):∀(m k:Nat)(r:Int),r=(Ih ly k:Int)->r<=2->cZ L m k r=k+m->Ih ly (k+m)<=2
 |0,k,r,c,b,_=>by rw[jI];omega
 |m+1,k,r,c,b,h=>by
  unfold cZ at h;by_cases b:2<(if L k 0=1 then r+1 else r)\/aF (L k 0) (L k 1) (L k 2) (L k 3) (L k 4) (L k 5)=false
  .rw[ah b]at h;omega
  .rw[af b]at h;have c:(if L k 0=1 then r+1 else r)=(Ih ly (k+1):Int):=by
    unfold Ih;rw[a k];split<;>omega
   have:=GU a m (k+1) _ c (Int.not_lt.1 λz=>b (.inl z)) (by rw[h];omega);rw[show k+(m+1)=k+1+m by omega];exact this
theorem zl(h:jG n L m g=(0,0)):wM (nC n L m g):=by
 unfold jG at h;split at h
 .cases h
 .rename_i z;split at h
  .cases h
  .rename_i B;split at h
   .cases h
   .rename_i A;split at h
    .cases h
    .rename_i l;have q:cZ L n 0 0=0+n:=by have:=yB L n 0 0;omega
     have r:fY g m 0=0+m:=by have:=BP g m 0;omega
     have o:=BO L n 0 0 q;have s:=uT g m 0 r;refine⟨by show n<=6;omega,by show m<=9;omega,λk f=>?_,?_,λk f d=>?_,λk f d=>?_,λk f d=>?_,λk f d=>?_,λk f d=>?_,λc l=>?_,λc l=>?_,λc l j y=>?_⟩
     .have e:k<n:=f;have a:=o k (by omega) (by omega);show L k 0=1\/L k 0=2\/L k 0=3\/L k 0=4\/L k 0=5\/L k 0=6;unfold aF at a;by_cases q:L k 0=1
      .exact .inl q
      .by_cases r:L k 0=2
       .exact .inr (.inl r)
       .by_cases w:L k 0=3
        .exact .inr (.inr (.inl w))
        .by_cases v:L k 0=4
         .exact .inr (.inr (.inr (.inl v)))
         .by_cases u:L k 0=5
          .exact .inr (.inr (.inr (.inr (.inl u))))
          .by_cases t:L k 0=6
           .exact .inr (.inr (.inr (.inr (.inr t))))
           .rw[af q,af r,af w,af v,af u,af t]at a;cases a
     .have:=GU (ly:=(nC n L m g).ly) (λi=>rfl) n 0 0 rfl (by omega) q;rw[bK]at this;exact this
     .have e:k<n:=f;have a:=o k (by omega) (by omega);have b:L k 0=3:=d;unfold aF at a;rw[af (by omega),af (by omega),ah b]at a;simp only[bZ,eB,decide_eq_true_eq]at a;show(1<=L k 1/\L k 1<=1000)/\(1<=L k 2/\L k 2<=20);omega
     .have e:k<n:=f;have a:=o k (by omega) (by omega);have b:L k 0=4:=d;unfold aF at a;rw[af (by omega),af (by omega),af (by omega),ah b]at a;simp only[bZ,eB,decide_eq_true_eq]at a;show(1<=L k 1/\L k 1<=20)/\(1<=L k 2/\L k 2<=L k 1)/\(1<=L k 3/\L k 3<=100)/\(0<=L k 4/\L k 4<=1000)/\(1<=L k 5/\L k 5<=9);omega
     .have e:k<n:=f;have a:=o k (by omega) (by omega);have b:L k 0=5:=d;unfold aF at a;rw[af (by omega),af (by omega),af (by omega),af (by omega),ah b]at a;simp only[bZ,eB,decide_eq_true_eq]at a;show(1<=L k 1/\L k 1<=9)/\(0<=L k 2/\L k 2<=1000);omega
     .have e:k<n:=f;have a:=o k (by omega) (by omega);have b:L k 0=6:=d;unfold aF at a;rw[af (by omega),af (by omega),af (by omega),af (by omega),af (by omega),ah b]at a;simp only[bZ,eB,decide_eq_true_eq]at a;show 1<=L k 1/\L k 1<=1000;omega
     .have e:k<n:=f;have a:=o k (by omega) (by omega);have b:L k 0=1:=d;unfold aF at a;rw[ah b]at a;simp only[bZ,eB,decide_eq_true_eq]at a;show(1<=L k 1/\L k 1<=9)/\(0<=L k 2/\L k 2<=1000)/\(1<=L k 3/\L k 3<=9)/\(0<=L k 4/\L k 4<=10000);omega
     .have p:c<m:=l;have a:=s c (by omega) (by omega);simp only[Cl.YM,iF,bZ,eB,decide_eq_true_eq,mA,decide_eq_false_iff_not]at a;show 0<=(g c).st/\(g c).st<=1000;omega
     .have p:c<m:=l;have a:=s c (by omega) (by omega);simp only[Cl.YM,iF,bZ,eB,decide_eq_true_eq,mA,decide_eq_false_iff_not]at a;show(g c).nt<=12;omega
     .have p:c<m:=l;have x:j<(g c).nt:=y;have a:=s c (by omega) (by omega);simp only[Cl.YM,iF,bZ]at a;exact uG (g c).T (g c).nt 0 a.2 j (by omega) (by omega)
abbrev oG(L:oF)(i:Nat):List Value:=[i6 (L i 0),i6 (L i 1),i6 (L i 2),i6 (L i 3),i6 (L i 4),i6 (L i 5)]
theorem iI(F:aB prog u (DX Q) H)(p:HB B Q)(n lo f:Int)(o:Sat Q w M)(a:B<=w.heap.size)(K:∀I,Sat Q I M->w.heap.size<=I.heap.size->H (G (d.finish (.bool (eB lo n f))) Y) I):H (G (Frame.enter prog 57 #[i6 lo,i6 n,i6 f] .normal) (d::Y)) w:=by
 by_cases q:lo<=n
 .have k:decide (lo<=n)=true:=by simp_all
  refine cJ func57 o 15 λU s B1 r b c a m i=>ZI F p b c a m 16 [] 126 [] 6 (.bool (decide (n<=f))) 16 1 [] [] [(decide (lo<=n),true)] [] [] λg l h j=>?_;have e:eB lo n f=decide (n<=f):=by unfold eB;simp[q]
  rw[e]at K;exact K g l.sat (by omega)
 .have k:decide (lo<=n)=false:=by simp_all
  refine cJ func57 o 15 λU s B1 r b c a m i=>ZI F p b c a m 16 [] 84 [] 6 (.bool false) 16 1 [] [] [(decide (lo<=n),false)] [] [] λg l h j=>?_;have e:eB lo n f=false:=by unfold eB;simp[q]
  rw[e]at K;exact K g l.sat (by omega)
theorem F8(F:aB prog u (DX Q) H)(h:HB B Q)(k a b c zW e:Int)(hS:Sat Q w M)(yQ:B<=w.heap.size)(K:∀I,Sat Q I M->w.heap.size<=I.heap.size->H (G (d.finish (.bool (aF k a b c zW e))) Y) I):H (G (Frame.enter prog 40 #[.agg #[i6 k,i6 a,i6 b,i6 c,i6 zW,i6 e]] .normal) (d::Y)) w:=by
 by_cases k1:k=1
 .subst k1;refine cJ func40 hS 79 λU a0 B1 hn f g l P N=>aq (λM=>bR (B1) [i6 1,i6 a,i6 b,i6 c,i6 zW,i6 e]::(M)) 1 F h f l P 22 [0,0,0,2] 7 [] [(8,i6 a),(1,ptr B1)] 22 3 [] λa1 w1 s r L O o9=>j5 F f r s 9 57 #[i6 1,i6 a,i6 9] λyS i=>iI F h a 1 9 s.sat (by omega) λw2 h2 Z=>i _ _ _ h2 λa2 B2 y j X=>?_;cases m:eB 1 a 9<;>rw[m]at y
  .refine UF F h f g j y 17 [] 349525 [] 2 (.bool false) 40 3 [] λJ p t v=>?_;rw[show aF 1 a b c zW e=false by simp[aF,m]]at K;exact K J p.sat.tail (by omega)
  refine Rb F h f j y 3 [0,0,2,1] 31 [] [(12,i6 b),(10,.bool true),(1,ptr B1)] 26 3 [] λa3 J p C t v mH=>j5 F f C p 13 57 #[i6 0,i6 b,i6 1000] λDl o=>iI F h b 0 1000 p.sat (by omega) λw4 h4 FO=>o _ _ _ h4 λa4 B4 D n Bj=>?_;cases q:eB 0 b 1000<;>rw[q]at D
  .refine UF F h f g n D 13 [] 5461 [] 2 (.bool false) 40 3 [] λE x z A=>?_;rw[show aF 1 a b c zW e=false by simp[aF,m,q]]at K;exact K E x.sat.tail (by omega)
  refine Rb F h f n D 4 [0,0,3,1] 31 [] [(17,i6 c),(15,.bool true),(1,ptr B1)] 31 3 [] λa5 E x Yv z A qO=>j5 F f Yv x 18 57 #[i6 1,i6 c,i6 9] λJC V=>iI F h c 1 9 x.sat (by omega) λw6 h6 Hf=>V _ _ _ h6 λa6 B6 S6 S YG=>?_;cases W:eB 1 c 9<;>rw[W]at S6
  .refine UF F h f g S S6 8 [] 85 [] 2 (.bool false) 40 3 [] λw7 S7 OD YQ=>?_;rw[show aF 1 a b c zW e=false by simp[aF,m,q,W]]at K;exact K w7 S7.sat.tail (by omega)
  refine Rb F h f S S6 4 [0,0,4,1] 31 [] [(22,i6 zW),(20,.bool true)] 36 3 [] λa7 w7 S7 CI OD YQ DJ=>j5 F f CI S7 23 57 #[i6 0,i6 zW,i6 10000] λRU T=>iI F h zW 0 10000 S7.sat (by omega) λw8 h8 IV=>T _ _ _ h8 λa8 B8 S8 R FN=>?_;cases q4:eB 0 zW 10000<;>rw[q4]at S8
  .refine UF F h f g R S8 3 [] 1 [] 2 (.bool false) 40 3 [] λw9 S9 Tl He=>?_;rw[show aF 1 a b c zW e=false by simp[aF,m,q,W,q4]]at K;exact K w9 S9.sat.tail (by omega)
  refine UF F h f g R S8 3 [] 1 [] 2 (.bool true) 40 3 [] λw9 S9 Tl He=>?_;rw[show aF 1 a b c zW e=true by simp[aF,m,q,W,q4]]at K;exact K w9 S9.sat.tail (by omega)
 have w:(k==1)=false:=by simp_all
 by_cases k2:k=2
 .subst k2;refine cJ func40 hS 79 λU a0 B1 hn f g l P N=>bB (λM=>bR (B1) [i6 2,i6 a,i6 b,i6 c,i6 zW,i6 e]::(M)) 1 F h f g l P 28 [0,0,0,1] 29 [] 2 (.bool true) 28 6 [] λw1 s L O=>K w1 s.sat.tail (by omega)
 have w:(k==2)=false:=by simp_all
 by_cases k3:k=3
 .subst k3;refine cJ func40 hS 79 λU a0 B1 hn f g l P N=>aq (λM=>bR (B1) [i6 3,i6 a,i6 b,i6 c,i6 zW,i6 e]::(M)) 1 F h f l P 34 [0,0,0,2] 117 [] [(30,i6 a),(1,ptr B1)] 34 12 [] λa1 w1 s r L O o9=>j5 F f r s 31 57 #[i6 1,i6 a,i6 1000] λyS i=>iI F h a 1 1000 s.sat (by omega) λw2 h2 Z=>i _ _ _ h2 λa2 B2 y j X=>?_;cases m:eB 1 a 1000<;>rw[m]at y
  .refine UF F h f g j y 7 [] 85 [] 2 (.bool false) 42 12 [] λJ p t v=>?_;rw[show aF 3 a b c zW e=false by simp[aF,m]]at K;exact K J p.sat.tail (by omega)
  refine Rb F h f j y 3 [0,0,2,1] 31 [] [(34,i6 b),(32,.bool true)] 38 12 [] λa3 J p C t v mH=>j5 F f C p 35 57 #[i6 1,i6 b,i6 20] λDl o=>iI F h b 1 20 p.sat (by omega) λw4 h4 FO=>o _ _ _ h4 λa4 B4 D n Bj=>?_;cases q:eB 1 b 20<;>rw[q]at D
  .refine UF F h f g n D 3 [] 1 [] 2 (.bool false) 42 12 [] λE x z A=>?_;rw[show aF 3 a b c zW e=false by simp[aF,m,q]]at K;exact K E x.sat.tail (by omega)
  refine UF F h f g n D 3 [] 1 [] 2 (.bool true) 42 12 [] λE x z A=>?_;rw[show aF 3 a b c zW e=true by simp[aF,m,q]]at K;exact K E x.sat.tail (by omega)
 have w:(k==3)=false:=by simp_all
 by_cases k4:k=4
 .subst k4;refine cJ func40 hS 79 λU a0 B1 hn f g l P N=>aq (λM=>bR (B1) [i6 4,i6 a,i6 b,i6 c,i6 zW,i6 e]::(M)) 1 F h f l P 40 [0,0,0,2] 469 [] [(40,i6 a),(1,ptr B1)] 40 24 [] λa1 w1 s r L O o9=>j5 F f r s 41 57 #[i6 1,i6 a,i6 20] λyS i=>iI F h a 1 20 s.sat (by omega) λw2 h2 Z=>i _ _ _ h2 λa2 B2 y j X=>?_;cases m:eB 1 a 20<;>rw[m]at y
  .refine UF F h f g j y 24 [] 357913941 [] 2 (.bool false) 65 24 [] λJ p t v=>?_;rw[show aF 4 a b c zW e=false by simp[aF,m]]at K;exact K J p.sat.tail (by omega)
  refine Rb F h f j y 5 [0,0,2,1,0,0,1,1] 511 [] [(46,i6 a),(42,.bool true),(44,i6 b),(1,ptr B1)] 46 24 [] λa3 J p C t v mH=>j5 F f C p 47 57 #[i6 1,i6 b,i6 a] λDl o=>iI F h b 1 a p.sat (by omega) λw4 h4 FO=>o _ _ _ h4 λa4 B4 D n Bj=>?_;cases q:eB 1 b a<;>rw[q]at D
  .refine UF F h f g n D 18 [] 349525 [] 2 (.bool false) 65 24 [] λE x z A=>?_;rw[show aF 4 a b c zW e=false by simp[aF,m,q]]at K;exact K E x.sat.tail (by omega)
  refine Rb F h f n D 4 [0,0,3,1] 31 [] [(51,i6 c),(49,.bool true),(1,ptr B1)] 51 24 [] λa5 E x Yv z A qO=>j5 F f Yv x 52 57 #[i6 1,i6 c,i6 100] λJC V=>iI F h c 1 100 x.sat (by omega) λw6 h6 Hf=>V _ _ _ h6 λa6 B6 S6 S YG=>?_;cases W:eB 1 c 100<;>rw[W]at S6
  .refine UF F h f g S S6 13 [] 5461 [] 2 (.bool false) 65 24 [] λw7 S7 OD YQ=>?_;rw[show aF 4 a b c zW e=false by simp[aF,m,q,W]]at K;exact K w7 S7.sat.tail (by omega)
  refine Rb F h f S S6 4 [0,0,4,1] 31 [] [(56,i6 zW),(54,.bool true),(1,ptr B1)] 56 24 [] λa7 w7 S7 CI OD YQ DJ=>j5 F f CI S7 57 57 #[i6 0,i6 zW,i6 1000] λRU T=>iI F h zW 0 1000 S7.sat (by omega) λw8 h8 IV=>T _ _ _ h8 λa8 B8 S8 R FN=>?_;cases q4:eB 0 zW 1000<;>rw[q4]at S8
  .refine UF F h f g R S8 8 [] 85 [] 2 (.bool false) 65 24 [] λw9 S9 Tl He=>?_;rw[show aF 4 a b c zW e=false by simp[aF,m,q,W,q4]]at K;exact K w9 S9.sat.tail (by omega)
  refine Rb F h f R S8 4 [0,0,5,1] 31 [] [(61,i6 e),(59,.bool true)] 61 24 [] λw w9 S9 w Tl He B=>j5 F f w S9 62 57 #[i6 1,i6 e,i6 9] λw w=>iI F h e 1 9 S9.sat (by omega) λB B G=>w _ _ _ B λw w yU Zl w=>?_;cases q5:eB 1 e 9<;>rw[q5]at yU
  .refine UF F h f g Zl yU 3 [] 1 [] 2 (.bool false) 65 24 [] λw B G R=>?_;rw[show aF 4 a b c zW e=false by simp[aF,m,q,W,q4,q5]]at K;exact K w B.sat.tail (by omega)
  refine UF F h f g Zl yU 3 [] 1 [] 2 (.bool true) 65 24 [] λw B G R=>?_;rw[show aF 4 a b c zW e=true by simp[aF,m,q,W,q4,q5]]at K;exact K w B.sat.tail (by omega)
 have w:(k==4)=false:=by simp_all
 by_cases k5:k=5
 .subst k5;refine cJ func40 hS 79 λU a0 B1 hn f g l P N=>aq (λM=>bR (B1) [i6 5,i6 a,i6 b,i6 c,i6 zW,i6 e]::(M)) 1 F h f l P 46 [0,0,0,2] 1877 [] [(67,i6 a),(1,ptr B1)] 46 48 [] λa1 w1 s r L O o9=>j5 F f r s 68 57 #[i6 1,i6 a,i6 9] λyS i=>iI F h a 1 9 s.sat (by omega) λw2 h2 Z=>i _ _ _ h2 λa2 B2 y j X=>?_;cases m:eB 1 a 9<;>rw[m]at y
  .refine UF F h f g j y 7 [] 85 [] 2 (.bool false) 54 48 [] λJ p t v=>?_;rw[show aF 5 a b c zW e=false by simp[aF,m]]at K;exact K J p.sat.tail (by omega)
  refine Rb F h f j y 3 [0,0,2,1] 31 [] [(71,i6 b),(69,.bool true)] 50 48 [] λa3 J p C t v mH=>j5 F f C p 72 57 #[i6 0,i6 b,i6 1000] λDl o=>iI F h b 0 1000 p.sat (by omega) λw4 h4 FO=>o _ _ _ h4 λa4 B4 D n Bj=>?_;cases q:eB 0 b 1000<;>rw[q]at D
  .refine UF F h f g n D 3 [] 1 [] 2 (.bool false) 54 48 [] λE x z A=>?_;rw[show aF 5 a b c zW e=false by simp[aF,m,q]]at K;exact K E x.sat.tail (by omega)
  refine UF F h f g n D 3 [] 1 [] 2 (.bool true) 54 48 [] λE x z A=>?_;rw[show aF 5 a b c zW e=true by simp[aF,m,q]]at K;exact K E x.sat.tail (by omega)
 have n:(k==5)=false:=by simp_all
 by_cases hk:k=6
 .subst hk;refine cJ func40 hS 79 λU a0 B1 hn f g l P N=>aq (λM=>bR (B1) [i6 6,i6 a,i6 b,i6 c,i6 zW,i6 e]::(M)) 1 F h f l P 52 [0,0,0,2] 7509 [] [(77,i6 a)] 52 96 [] λa1 w1 s r L O o9=>j5 F f r s 78 57 #[i6 1,i6 a,i6 1000] λyS i=>iI F h a 1 1000 s.sat (by omega) λw2 h2 Z=>i _ _ _ h2 λa2 B2 y j X=>UF F h f g j y 2 [] 1 [] 2 (.bool (eB 1 a 1000)) 55 96 [] λJ p t v=>?_;rw[show aF 6 a b c zW e=eB 1 a 1000 by simp[aF]]at K;exact K J p.sat.tail (by omega)
 have i:(k==6)=false:=by simp_all
 refine cJ func40 hS 79 λU a0 B1 hn f g l P N=>oH (λM=>bR (B1) [i6 k,i6 a,i6 b,i6 c,i6 zW,i6 e]::(M)) 1 F h f g l P 54 [0,0,0,1] 4096 [] 2 (.bool false) 54 64 [] [] [(k==6,false),(k==5,false),(k==4,false),(k==3,false),(k==2,false),(k==1,false)] [] [] λw1 s L O=>?_;have e:aF k a b c zW e=false:=by simp only[aF,af k1,af k2,af k3,af k4,af k5,af hk]
 rw[e]at K;exact K w1 s.sat.tail (by omega)
theorem IG(F:aB prog u (DX Q) H)(f:HB B Q){U:aC}(b:U.kind=.normal)(c:U.fn=41){d:aC}{Y:cO}{M:aW}{t:eP}{n l:Nat}{T:oF}(O:n<=12)(o:0<n->∃a,t=some a){B1:Nat}(z:B<=B1):
 ∀(m i:Nat)(r:Act)(w:aj)(g:Nat),i+m=n->r.defers=[]->B1<=g->w.heap.size=g->St Q g 33 [(18,i6 i),(17,i6 n),(16,.slice t n l)] (fR (t.getD ⟨0,0,none⟩) 3 (λj=>[i6 (T j 0),i6 (T j 1),i6 (T j 2)]) n false::M) 0 r w->
   (∀I,Sat Q I M->w.heap.size<=I.heap.size->H (G (d.finish (.bool (lQ T m i))) Y) I)->H (G (U.at r (pc prog 41 31 [false] [])) (d::Y)) w
 |0,i,r,w,g,P,k,A,x,E,K=>by
  have a:decide ((i:Int)<(n:Int))=false:=by simp;omega
  refine ZI F f b c k E 11 [] 4 [] 2 (.bool true) 42 4 [] [] [(decide ((↑i:Int)<(↑n:Int)),false)] [] [] λJ s v y=>K J s.sat.tail (by omega)
 |m+1,i,r,w,g,P,k,A,x,E,K=>by
  obtain⟨S,rfl⟩:=o (by omega);have e:lQ T (m+1) i=(eB 1 (T i 0) 4&&eB 0 (T i 2) 1000&&lQ T m (i+1)):=rfl;rw[e]at K;refine aX (λM=>bR (g) [i6 (T i 0),i6 (T i 1),i6 (T i 2)]::(M)) 1 F f b k E 20 [0,i,0,103,0,0,0,3,0,0,0,1] 26 [] [(23,i6 (T i 0)),(4,ptr g),(18,i6 i),(17,i6 n),(16,.slice (some S) n l)] 51 6 [] [] [(decide ((↑i:Int)<(↑n:Int)),true)] [((↑i:Int),n)] [(3,(i,n))] λa J s a v y e=>j5 F b a s 24 57 #[i6 1,i6 (T i 0),i6 4] λa a=>iI F f (T i 0) 1 4 s.sat (by omega) λe j e=>a _ _ _ j λa a D q a=>?_;cases N:eB 1 (T i 0) 4<;>rw[N]at D K
  .refine UF F f b c q D 13 [] 2047 [] 2 (.bool false) 65 14 [] λk e a j=>K k e.sat.tail.tail (by omega)
  refine Rb F f b q D 4 [0,0,2,1] 21 [] [(28,i6 (T i 2)),(26,.bool false),(27,.pointer (some (Addr.mk g 2 none))),(18,i6 i),(17,i6 n),(16,.slice (some S) n l)] 56 6 [] λq k e k a j a=>j5 F b k e 29 57 #[i6 0,i6 (T i 2),i6 1000] λa a=>iI F f (T i 2) 0 1000 e.sat (by omega) λe j e=>a _ _ _ j λa R C p a=>?_;cases L:eB 0 (T i 2) 1000<;>rw[L]at C K
  .refine UF F f b c p C 8 [] 29 [] 2 (.bool false) 65 14 [] λa h e j=>K a h.sat.tail.tail (by omega)
  have k:wp i=((i+1:Nat):Int):=j6;refine Rb F f b p C 11 [] 21 [] [(18,i6 (wp i)),(30,.bool false),(29,.bool true),(28,i6 (T i 2)),(27,.pointer (some (Addr.mk g 2 none))),(17,i6 n),(16,.slice (some S) n l)] 68 10 [] λp a h g e j e=>?_;rw[k]at h;replace h:=h.dB [(18,i6 ((i+1:Nat):Int)),(17,i6 n),(16,.slice (some S) n l)] rfl;rw[show pc prog 41 68 (Bo 10) []=pc prog 41 31 [false] [] by kernel_rfl];exact IG F f b c O o z m (i+1) p a R (by omega) g (by omega) (by omega) ⟨h.env,h.sat.tail,h.sz⟩ λI a b=>K I a (by omega)
theorem NJ(F:aB prog u (DX Q) H)(h:HB B Q){st:Int}{g:eP}{k:Nat}{T:oF}(i:0<n->∃a,g=some a/\Has M (fR a 3 (λj=>[i6 (T j 0),i6 (T j 1),i6 (T j 2)]) n false))(l:Sat Q w M)(a:B<=w.heap.size)(K:∀I,Sat Q I M->w.heap.size<=I.heap.size->H (G (d.finish (.bool (iF st n T))) Y) I):H (G (Frame.enter prog 41 #[.agg #[i6 st,.slice g n k]] .normal) (d::Y)) w:=by
 replace l:Sat Q w (fR (g.getD ⟨0,0,none⟩) 3 (λj=>[i6 (T j 0),i6 (T j 1),i6 (T j 2)]) n false::M):=by
  by_cases z:0<n
  .obtain⟨a,rfl,o⟩:=i z;exact l.get o
  .exact l.qj (by simp_all) rfl
 refine cJ func41 l 33 λU a B1 a b f a j i=>aq (λM=>bR (B1) [i6 st,.slice g n k]::(M)) 1 F h b a j 10 [0,0,0,1] 1 [] [(6,i6 st),(1,ptr B1)] 10 1 [] λa a i a j j j=>j5 F b a i 7 57 #[i6 0,i6 st,i6 1000] λa a=>iI F h st 0 1000 i.sat (by omega) λi j i=>a _ _ _ j λa p m e a=>?_;unfold iF at K;cases r:eB 0 st 1000<;>rw[r]at m K
 .refine UF F h b f e m 13 [] 2047 [] 2 (.bool false) 24 3 [] λa c i j=>K a c.sat.tail.tail (by omega)
 by_cases q:n<=12
 .have o:decide ((n:Int)>12)=false:=by simp;omega
  rw[show decide (12<n)=false by simp;omega]at K;refine TP F h b e m 20 [0,0,1,1,0,0,1,1] 1109 [] [(18,i6 0),(17,i6 n),(16,.slice g n k)] 31 2 [] [] [(decide ((↑n:Int)>12),false)] [] [] λt a c o i j s=>?_;replace c:=c.dB [(18,i6 ((0:Nat):Int)),(17,i6 n),(16,.slice g n k)] rfl;exact IG F h b f q (λz=>by grind) (B1:=p) (by omega) n 0 t a p (bK _) o (az _) (by omega) ⟨c.env,c.sat.tail,c.sz⟩ λI g k=>K I g (by omega)
 .rw[show decide (12<n)=true by simp;omega]at K;refine ZI F h b f e m 13 [0,0,1,1] 1621 [] 2 (.bool false) 24 3 [] [] [(decide ((↑n:Int)>12),true)] [] [] λa c i j=>K a c.sat.tail.tail (by omega)
theorem KZ(F:aB prog u (DX Q) H)(k:HB B Q){U:aC}(b:U.kind=.normal)(h:U.fn=27){d:aC}{Y:cO}{M:aW}{sa:eP}{n cap:Nat}{g:Nat->Cl}(N:n<=9)(o:0<n->∃a,sa=some a)(J:∀j,j<n->0<(g j).nt->∃a,(g j).ta=some a/\Has M (fR a 3 (λi=>[i6 ((g j).T i 0),i6 ((g j).T i 1),i6 ((g j).T i 2)]) (g j).nt false)):
 ∀(m i:Nat)(q:Act)(w:aj)(l:Nat),i+m=n->q.defers=[]->B<=l->w.heap.size=l->St Q l 19 [(7,i6 i),(6,i6 n),(5,.slice sa n cap),(0,.slice sa n cap)] (fR (sa.getD ⟨0,0,none⟩) 2 (λj=>[i6 (g j).st,.slice (g j).ta (g j).nt (g j).tc]) n false::M) 0 q w->
   (∀I,Sat Q I M->w.heap.size<=I.heap.size->H (G (d.finish (i6 (fY g m i))) Y) I)->H (G (U.at q (pc prog 27 13 [] [])) (d::Y)) w
 |0,i,q,w,l,O,f,y,v,C,K=>by
  have j:decide ((i:Int)<(n:Int))=false:=by simp;omega
  have e:fY g 0 i=n:=by show i=n;omega
  rw[e]at K;refine ZI F k b h f C 13 [] 4 [] 2 (i6 n) 26 2 [] [] [(decide ((↑i:Int)<(↑n:Int)),false)] [] [] λE r t x=>K E r.sat.tail (by omega)
 |m+1,i,q,w,l,O,f,y,v,C,K=>by
  obtain⟨R,rfl⟩:=o (by omega);refine aX (λM=>bR (l) [i6 (g i).st,.slice (g i).ta (g i).nt (g i).tc]::(M)) 1 F k b f C 21 [0,i,0,102,0,0,0,2,0,0,0,2] 26 [] [(12,.agg #[i6 (g i).st,.slice (g i).ta (g i).nt (g i).tc]),(3,i6 i),(7,i6 i),(6,i6 n),(5,.slice (some R) n cap),(0,.slice (some R) n cap)] 34 3 [] [] [(decide ((↑i:Int)<(↑n:Int)),true)] [((↑i:Int),n)] [(2,(i,n))] λf E r f t x j=>j5 F b f r 13 41 #[.agg #[i6 (g i).st,.slice (g i).ta (g i).nt (g i).tc]] λf f=>?_;have j:=J i (by omega);refine NJ F k (λz=>by let⟨a,s,D⟩:=j z;exact⟨a,s,D.cons.cons⟩) r.sat (by omega) λa j a=>f _ _ _ j λa P A p a=>?_;have e:fY g (m+1) i=if iF (g i).st (g i).nt (g i).T=false then i else fY g m (i+1):=rfl;rw[e]at K;cases L:iF (g i).st (g i).nt (g i).T<;>rw[L]at A K
  .refine UF F k b h p A 8 [] 7 [] 2 (i6 i) 43 7 [] λa c e f=>K a c.sat.tail.tail (by omega)
  have j:IntKind.wrap .i64 ((i:Int)+1)=((i+1:Nat):Int):=by rw[aA (by omega) (by omega)];rfl
  refine Rb F k b p A 10 [] 5 [] [(7,i6 (IntKind.wrap .i64 ((↑i:Int)+1))),(6,i6 n),(5,.slice (some R) n cap),(0,.slice (some R) n cap)] 45 5 [] λl a c g e f e=>?_;rw[j]at c;replace c:=c.dB [(7,i6 ((i+1:Nat):Int)),(6,i6 n),(5,.slice (some R) n cap),(0,.slice (some R) n cap)] rfl;rw[show pc prog 27 45 (Bo 5) []=pc prog 27 13 [] [] by kernel_rfl];exact KZ F k b h N o J m (i+1) l a P (by omega) g (by omega) (by omega) ⟨c.env,c.sat.tail,c.sz⟩ λI s D=>K I s (by omega)
theorem Ge(F:aB prog u (DX Q) H)(g:HB B Q){U:aC}(b:U.kind=.normal)(f:U.fn=26){d:aC}{Y:cO}{M:aW}{sL:eP}{n cap:Nat}{L:oF}(hn:n<=6)(x:0<n->∃a,sL=some a):
 ∀(m i:Nat)(r:Int)(N:Act)(w:aj)(o:Nat),i+m=n->0<=r->r<=2->N.defers=[]->B<=o->w.heap.size=o->St Q o 29 [(8,i6 i),(7,i6 n),(6,.slice sL n cap),(3,i6 r),(0,.slice sL n cap)] (fR (sL.getD ⟨0,0,none⟩) 6 (oG L) n false::M) 0 N w->
   (∀I,Sat Q I M->w.heap.size<=I.heap.size->H (G (d.finish (i6 (cZ L m i r))) Y) I)->H (G (U.at N (pc prog 26 17 [] [])) (d::Y)) w
 |0,i,r,N,w,o,hi,Z,hr,j,Rg,S,O,K=>by
  have g1:decide ((i:Int)<(n:Int))=false:=by simp;omega
  have e:cZ L 0 i r=n:=by show i=n;omega
  rw[e]at K;refine ZI F g b f j O 13 [] 4 [] 2 (i6 n) 30 2 [] [] [(decide ((↑i:Int)<(↑n:Int)),false)] [] [] λD l s v=>K D l.sat.tail (by omega)
 |m+1,i,r,N,w,o,hi,Z,hr,j,Rg,S,O,K=>by
  have g1:decide ((i:Int)<(n:Int))=true:=by simp;omega
  obtain⟨zY,rfl⟩:=x (by omega);have e:cZ L (m+1) i r=if 2<(if L i 0=1 then r+1 else r)\/aF (L i 0) (L i 1) (L i 2) (L i 3) (L i 4) (L i 5)=false then i else cZ L m (i+1) (if L i 0=1 then r+1 else r):=rfl;rw[e]at K;have hw:IntKind.wrap .i64 ((i:Int)+1)=((i+1:Nat):Int):=by rw[aA (by omega) (by omega)];rfl
  have V:IntKind.wrap .i64 (r+1)=r+1:=aA (by omega) (by omega);by_cases J:L i 0=1
  .have E:(L i 0==1)=true:=by simp_all
   rw[ah J]at K;by_cases X:r=2
   .subst X;rw[ah (.inl (by decide))]at K;refine oH (λM=>bR (o) [i6 (L i 0),i6 (L i 1),i6 (L i 2),i6 (L i 3),i6 (L i 4),i6 (L i 5)]::(M)) 1 F g b f j O 47 [0,i,0,106,0,0,0,6,0,0,0,1] 32746 [] 2 (i6 i) 64 15 [] [] [(L i 0==1,true),(decide ((↑i:Int)<(↑n:Int)),true)] [((↑i:Int),n)] [(6,(i,n))] λD l s v=>K D l.sat.tail.tail (by omega)
   have a:decide (r+1>2)=false:=by simp;omega
   have W:decide (IntKind.wrap .i64 (r+1)>2)=false:=by simp_all
   refine aX (λM=>bR (o) [i6 (L i 0),i6 (L i 1),i6 (L i 2),i6 (L i 3),i6 (L i 4),i6 (L i 5)]::(M)) 1 F g b j O 37 [0,i,0,106,0,0,0,6,0,0,0,1,0,0,0,6] 298 [] [(21,.agg #[i6 (L i 0),i6 (L i 1),i6 (L i 2),i6 (L i 3),i6 (L i 4),i6 (L i 5)]),(20,.bool false),(3,i6 (IntKind.wrap .i64 (r+1))),(4,i6 i),(8,i6 i),(7,i6 n),(6,.slice (some zY) n cap),(0,.slice (some zY) n cap)] 54 7 [] [] [(decide (IntKind.wrap .i64 (r+1)>2),false),(L i 0==1,true),(decide ((↑i:Int)<(↑n:Int)),true)] [((↑i:Int),n)] [(6,(i,n))] λa1 D l z s v o9=>j5 F b z l 22 40 #[.agg #[i6 (L i 0),i6 (L i 1),i6 (L i 2),i6 (L i 3),i6 (L i 4),i6 (L i 5)]] λyS k=>F8 F g (L i 0) (L i 1) (L i 2) (L i 3) (L i 4) (L i 5) l.sat (by omega) λw2 A T=>k _ _ _ A λa2 B3 C h R=>?_;cases hq:aF (L i 0) (L i 1) (L i 2) (L i 3) (L i 4) (L i 5)<;>rw[hq]at C K
   .rw[ah (.inr rfl)]at K;refine UF F g b f h C 9 [] 29 [] 2 (i6 i) 64 15 [] λp c q t=>K p c.sat.tail.tail (by omega)
   rw[af (by simp_all)]at K;refine Rb F g b h C 11 [] 21 [] [(8,i6 (IntKind.wrap .i64 ((↑i:Int)+1))),(23,.bool false),(22,.bool true),(21,.agg #[i6 (L i 0),i6 (L i 1),i6 (L i 2),i6 (L i 3),i6 (L i 4),i6 (L i 5)]),(3,i6 (IntKind.wrap .i64 (r+1))),(7,i6 n),(6,.slice (some zY) n cap),(0,.slice (some zY) n cap)] 66 11 [] λa3 p c y q t mH=>?_;rw[hw,V]at c;replace c:=c.dB [(8,i6 ((i+1:Nat):Int)),(7,i6 n),(6,.slice (some zY) n cap),(3,i6 (r+1)),(0,.slice (some zY) n cap)] rfl;rw[show pc prog 26 66 (Bo 11) []=pc prog 26 17 [] [] by kernel_rfl];exact Ge F g b f hn x m (i+1) (r+1) a3 p B3 (by omega) (by omega) (by omega) y (by omega) (by omega) ⟨c.env,c.sat.tail,c.sz⟩ λI P z2=>K I P (by omega)
  .have E:(L i 0==1)=false:=by simp_all
   rw[af J]at K;have W:decide (r>2)=false:=by simp;omega
   refine aX (λM=>bR (o) [i6 (L i 0),i6 (L i 1),i6 (L i 2),i6 (L i 3),i6 (L i 4),i6 (L i 5)]::(M)) 1 F g b j O 33 [0,i,0,106,0,0,0,6,0,0,0,1,0,0,0,6] 266 [] [(21,.agg #[i6 (L i 0),i6 (L i 1),i6 (L i 2),i6 (L i 3),i6 (L i 4),i6 (L i 5)]),(20,.bool false),(4,i6 i),(8,i6 i),(7,i6 n),(6,.slice (some zY) n cap),(3,i6 r),(0,.slice (some zY) n cap)] 50 5 [] [] [(decide (r>2),false),(L i 0==1,false),(decide ((↑i:Int)<(↑n:Int)),true)] [((↑i:Int),n)] [(6,(i,n))] λa1 D l z s v o9=>j5 F b z l 22 40 #[.agg #[i6 (L i 0),i6 (L i 1),i6 (L i 2),i6 (L i 3),i6 (L i 4),i6 (L i 5)]] λyS k=>F8 F g (L i 0) (L i 1) (L i 2) (L i 3) (L i 4) (L i 5) l.sat (by omega) λw2 A T=>k _ _ _ A λa2 B3 C h R=>?_;cases hq:aF (L i 0) (L i 1) (L i 2) (L i 3) (L i 4) (L i 5)<;>rw[hq]at C K
   .rw[ah (.inr rfl)]at K;refine UF F g b f h C 9 [] 29 [] 2 (i6 i) 60 13 [] λp c q t=>K p c.sat.tail.tail (by omega)
   rw[af (by simp_all)]at K;refine Rb F g b h C 11 [] 21 [] [(8,i6 (IntKind.wrap .i64 ((↑i:Int)+1))),(23,.bool false),(22,.bool true),(21,.agg #[i6 (L i 0),i6 (L i 1),i6 (L i 2),i6 (L i 3),i6 (L i 4),i6 (L i 5)]),(7,i6 n),(6,.slice (some zY) n cap),(3,i6 r),(0,.slice (some zY) n cap)] 62 9 [] λa3 p c y q t mH=>?_;rw[hw]at c;replace c:=c.dB [(8,i6 ((i+1:Nat):Int)),(7,i6 n),(6,.slice (some zY) n cap),(3,i6 r),(0,.slice (some zY) n cap)] rfl;rw[show pc prog 26 62 (Bo 9) []=pc prog 26 17 [] [] by kernel_rfl];exact Ge F g b f hn x m (i+1) r a3 p B3 (by omega) (by omega) (by omega) y (by omega) (by omega) ⟨c.env,c.sat.tail,c.sz⟩ λI P z2=>K I P (by omega)
theorem Rj(F:aB prog u (DX Q) H)(g:HB B Q)(j:n<=6)(c:0<n->∃a,sL=some a/\Has M (fR a 6 (oG L) n false))(b:Sat Q w M)(a:B<=w.heap.size)(K:∀I,Sat Q I M->w.heap.size<=I.heap.size->H (G (d.finish (i6 (cZ L n 0 0))) Y) I):H (G (Frame.enter prog 26 #[.slice sL n cap] .normal) (d::Y)) w:=by
 replace b:Sat Q w (fR (sL.getD ⟨0,0,none⟩) 6 (oG L) n false::M):=by
  by_cases z:0<n
  .obtain⟨a,rfl,e⟩:=c z;exact b.get e
  .exact b.qj (by simp_all) rfl
 refine cJ func26 b 29 λU a B1 a a e c i h=>Rb F g a c i 17 [] 1 [] [(8,i6 0),(7,i6 n),(6,.slice sL n cap),(3,i6 0),(0,.slice sL n cap)] 17 1 [] λk h f c i i i=>?_;replace f:=f.dB [(8,i6 ((0:Nat):Int)),(7,i6 n),(6,.slice sL n cap),(3,i6 0),(0,.slice sL n cap)] rfl;exact Ge F g a e j (λz=>by grind) n 0 0 k h B1 (bK _) (by omega) (by omega) c (by omega) (by omega) f λI a c=>K I a (by omega)
theorem Rk(F:aB prog u (DX Q) H)(h:HB B Q)(l:n<=9)(e:0<n->∃a,sa=some a/\Has M (fR a 2 (λj=>[i6 (g j).st,.slice (g j).ta (g j).nt (g j).tc]) n false))(k:∀j,j<n->0<(g j).nt->∃a,(g j).ta=some a/\Has M (fR a 3 (λi=>[i6 ((g j).T i 0),i6 ((g j).T i 1),i6 ((g j).T i 2)]) (g j).nt false))(b:Sat Q w M)(a:B<=w.heap.size)(K:∀I,Sat Q I M->w.heap.size<=I.heap.size->H (G (d.finish (i6 (fY g n 0))) Y) I):H (G (Frame.enter prog 27 #[.slice sa n cap] .normal) (d::Y)) w:=by
 replace b:Sat Q w (fR (sa.getD ⟨0,0,none⟩) 2 (λj=>[i6 (g j).st,.slice (g j).ta (g j).nt (g j).tc]) n false::M):=by
  by_cases z:0<n
  .obtain⟨a,rfl,c⟩:=e z;exact b.get c
  .exact b.qj (by simp_all) rfl
 refine cJ func27 b 19 λU a B1 a a e c i g=>Rb F h a c i 13 [] 1 [] [(7,i6 0),(6,i6 n),(5,.slice sa n cap),(0,.slice sa n cap)] 13 1 [] λj g f c i i i=>?_;replace f:=f.dB [(7,i6 ((0:Nat):Int)),(6,i6 n),(5,.slice sa n cap),(0,.slice sa n cap)] rfl;exact KZ F h a e l (λz=>by grind) k n 0 j g B1 (bK _) c (by omega) (by omega) f λI a c=>K I a (by omega)
theorem r8(F:aB prog u (DX Q) H)(e:HB B Q)(t:0<n->∃a,sL=some a/\Has M (fR a 6 (oG L) n false))(x:0<m->∃a,sa=some a/\Has M (fR a 2 (λj=>[i6 (g j).st,.slice (g j).ta (g j).nt (g j).tc]) m false))(v:∀j,j<m->0<(g j).nt->∃a,(g j).ta=some a/\Has M (fR a 3 (λi=>[i6 ((g j).T i 0),i6 ((g j).T i 1),i6 ((g j).T i 2)]) (g j).nt false))(q:Sat Q w M)(a:B<=w.heap.size)(K:∀I,Sat Q I M->w.heap.size<=I.heap.size->H (G (d.finish (.tuple #[i6 (jG n L m g).1,i6 (jG n L m g).2])) Y) I):H (G (Frame.enter prog 16 #[.slice sL n cA,.slice sa m cap] .normal) (d::Y)) w:=by
 unfold jG at K;by_cases r:6<n
 .have a:decide ((n:Int)>6)=true:=by simp;omega
  rw[ah r]at K;refine cJ func16 q 28 λU y B1 s a b f o j=>TP F e a f o 18 [] 6 [] [(5,i6 0),(4,i6 1)] 18 3 [] [] [(decide ((↑n:Int)>6),true)] [] [] λw p h c i k l=>cC F h a b c [] (.tuple #[i6 1,i6 0]) ?_;exact K p h.sat (by omega)
 rw[af r]at K;refine cJ func16 q 28 λU y B1 s a b f o j=>TP F e a f o 18 [] 4 [] [(11,.slice sL n cA),(0,.slice sL n cA),(1,.slice sa m cap)] 18 2 [] [] [(decide ((↑n:Int)>6),false)] [] [] λw p h c i k l=>j5 F a c h 12 26 #[.slice sL n cA] λc c=>Rj F e (by omega) t h.sat (by omega) λf h f=>c _ _ _ h λc c p h c=>?_;by_cases q:cZ L n 0 0<n
 .have o:decide (((cZ L n 0 0:Nat):Int)<(n:Int))=true:=by simp_all
  rw[ah q]at K;refine TP F e a h p 16 [] 6 [] [(5,i6 (↑(cZ L n 0 0):Int)),(4,i6 2)] 35 6 [] [] [(decide ((↑(cZ L n 0 0):Int)<(↑n:Int)),true)] [] [] λr l f c i j k=>cC F f a b c [] (.tuple #[i6 2,i6 (↑(cZ L n 0 0):Int)]) ?_;exact K l f.sat (by omega)
 have o:decide (((cZ L n 0 0:Nat):Int)<(n:Int))=false:=by simp_all
 rw[af q]at K;by_cases o:9<m
 .have q:decide ((m:Int)>9)=true:=by simp;omega
  rw[ah o]at K;refine TP F e a h p 24 [] 24 [] [(5,i6 0),(4,i6 3)] 43 12 [] [] [(decide ((↑m:Int)>9),true),(decide ((↑(cZ L n 0 0):Int)<(↑n:Int)),false)] [] [] λr l f c i j k=>cC F f a b c [] (.tuple #[i6 3,i6 0]) ?_;exact K l f.sat (by omega)
 rw[af o]at K;refine TP F e a h p 24 [] 16 [] [(21,.slice sa m cap),(1,.slice sa m cap)] 43 8 [] [] [(decide ((↑m:Int)>9),false),(decide ((↑(cZ L n 0 0):Int)<(↑n:Int)),false)] [] [] λr l f c i j k=>j5 F a c f 22 27 #[.slice sa m cap] λc c=>Rk F e (by omega) x v f.sat (by omega) λf h f=>c _ _ _ h λc c p f c=>?_;by_cases i:fY g m 0<m
 .have h:decide (((fY g m 0:Nat):Int)<(m:Int))=true:=by simp_all
  rw[ah i]at K;refine TP F e a f p 16 [] 6 [] [(5,i6 (↑(fY g m 0):Int)),(4,i6 4)] 60 24 [] [] [(decide ((↑(fY g m 0):Int)<(↑m:Int)),true)] [] [] λq k j c l n o=>cC F j a b c [] (.tuple #[i6 4,i6 (↑(fY g m 0):Int)]) ?_;exact K k j.sat (by omega)
 have h:decide (((fY g m 0:Nat):Int)<(m:Int))=false:=by simp_all
 rw[af i]at K;refine TP F e a f p 16 [] 4 [] [(5,i6 0),(4,i6 0)] 60 16 [] [] [(decide ((↑(fY g m 0):Int)<(↑m:Int)),false)] [] [] λq k j c l n o=>cC F j a b c [] (.tuple #[i6 0,i6 0]) ?_;exact K k j.sat (by omega)
theorem bkU(Z:aW)(alt:List (Nat×List Hint))(F:aB P u (DX Q) H)(Nd:P.follows .mixedOrders=true)(hB:HB B Q)(hk:b.kind=.normal){f g:Nat}{d:iy}{c:aN}(q:Nat)(V:List Hint)(W:iK)(C E2:Env)(cY:iK)(X:List (Int×Nat))(A:List (Nat×Nat))(x:List Hint)(ed:List aH->List aH)(dx:Nat)(vx:ay){ds:wN}(hd:a.defers=ds)(ht:mP (pc P f g d c)=true)(r:((aL (pc P f g d c))[q]?).map (λo=>o.guard.isNone&&o.dst.isNone)=some true)(m:((aL (pc P f g d c))[q+1]?).map (λo=>o.guard.isNone&&!lN o&&o.op.operands.all (kn []))=some true)(j:((aL (pc P f g d c))[q+1]?).map (λo=>(o.dst,cV P (execOp (ev []) o)))=some (some dx,some (.value vx)))(h:J6 P Z alt (aL (pc P f g d c)) q E M 0 0 (C.map Prod.fst) (E2.map Prod.fst) [] (ux P B N E M 0 V W (aL (pc P f g d c)) q)=some (⟨C.map (λp=>some p.2),E2.map (λp=>some p.2),M,0,cY,X,A,true⟩,[],true))(hq:K5 Prod.fst (ux P B N E M 0 V W (aL (pc P f g d c)) q)=K5 Prod.snd (ux P B N E M 0 V W (aL (pc P f g d c)) q))(halt:tT P (aL (pc P f g d c)) Z alt true (ux P B N E M 0 V W (aL (pc P f g d c)) q)=tT P (aL (pc P f g d c)) Z alt false (ux P B N E M 0 V W (aL (pc P f g d c)) q))(i:(MF P B C (((aL (pc P f g d c))[q]?).getD default) ⟨[],⟨x,M,0,[],[]⟩,[],[],[]⟩).map (λp=>(p.1,p.2.m.M,p.2.m.c,p.2.m.cW,p.2.cY,p.2.eK))=some (.tuple #[],ed M,0,[],[],[]))(n:(MF P B C (((aL (pc P f g d c))[q]?).getD default) ⟨[],⟨x,M,0,[],[]⟩,[],[],[]⟩).map (λp=>p.2.m.eqs.map Prod.fst)=(MF P B C (((aL (pc P f g d c))[q]?).getD default) ⟨[],⟨x,M,0,[],[]⟩,[],[],[]⟩).map (λp=>p.2.m.eqs.map Prod.snd))(UU:.inRegion (aL (pc P f g d c)) (bP (q+2) ((aL (pc P f g d c)).size-(q+2)))::behind (pc P f g d c)=pc P f (g+1) d (c++[q+2]))(KN:∀p∈cY,p.1=p.2)(Vo:∀p∈X,0<=p.1/\p.1<(p.2:Int))(VE:∀p∈A,p.1<p.2)(hZ:∀w,Sat Q w (ed M)->Sat Q w Z)(S:St Q B N E M 0 a w)(K:∀a' I,St Q B N ((dx,vx)::E2) (ed M) 0 a' I->a'.defers=ds->I.heap.size=B->H (G (b.at a' (pc P f (g+1) d (c++[q+2]))) Y) I):H (G (b.at a (pc P f g d c)) Y) w:=by
 have Nh:b.kind≠.early:=by simp_all
 have L:∃id,pc P f g d c=.code (.region id (aL (pc P f g d c)) true)::behind (pc P f g d c):=by
  unfold mP at ht;split at ht
  .rename_i e;rw[e];exact⟨_,rfl⟩
  .cases ht
 let⟨id,L⟩:=L;rw[L];generalize UY:aL (pc P f g d c)=J at*;generalize QX:behind (pc P f g d c)=k at*;cases ho:J[q]? with
 |none=>rw[ho]at r;cases r
 |some o=>
 cases R:J[q+1]? with
 |none=>rw[R]at m;cases m
 |some ox=>
 rw[ho]at r i n;rw[R]at m j;simp only[cQ]at i n;simp only[fI,Option.some.injEq,bZ,Option.isNone_iff_eq_none,mA,Prod.mk.injEq]at r m j;let⟨hg,Nl⟩:=r;let⟨⟨Uw,Qb⟩,UM⟩:=m;let⟨j,Uu⟩:=j;cases O:ux P B N E M 0 V W J q with
 |none=>rw[O]at h;cases h
 |some rr=>
  let⟨gL,al,y⟩:=rr;rw[O]at h hq halt;simp only[J6,Option.some.injEq,Prod.mk.injEq,PX.mk.injEq,bZ]at h;let⟨⟨h1,h2,h3,h4,h5,h6,h7,h8,h9⟩,KW,KV⟩:=h;have hM:oE y:=⟨fB _ hq,by simp_all,by simp_all,by grind⟩;cases hv:MF P B C o ⟨[],⟨x,M,0,[],[]⟩,[],[],[]⟩with
  |none=>rw[hv]at i;cases i
  |some vy=>
   let⟨v,y2⟩:=vy;rw[hv]at i n;simp only[fI,Option.some.injEq,Prod.mk.injEq]at i n;obtain⟨rfl,ZV,s3,s4,s5,s6⟩:=i;have hm:oE y2:=⟨fB _ n,(by simp_all),(by simp_all),(by simp_all)⟩;refine XT (Post:=λv U=>v=.tuple #[]/\Sat Q U y2.m.M/\U.heap.size=B) (ox:=ox) (Ex:=λ_=>[]) (vx:=λ_=>vx) F Nd hB Nh (az 1) ho O hM h8 h9 halt S (λv U hp=>⟨hZ _ (by simp_all),by omega⟩) (λ_=>⟨R,KV,Uw⟩) (λv U Ze _ a hA w=>?_) (λv U _ _ e zU t=>by cases t) (λa1 w1 rest z1 D z3 z4=>?_) (λM5 v U l a' w3 z1 D z3 z4 z5=>?_)
   .have T:execOp a.eval ox=execOp (ev []) ox:=execOp_congr Qb λy hy=>hA.eval (yJ.1 UM y hy);have Na:=fV _ _ Uu;exact⟨by rw[T,<-fH (es:=#[]),Na],by unfold raw Sem.events;simp_all⟩
   .have S1:St Q B N C M 0 a1 w1:=⟨⟨z1.sz,λe zU t=>z1.val e zU (fy C _ h1 e zU t)⟩,by rw[<-h3];exact D.fg _,by rw[z3,h4]⟩
    refine Fe F hB Nh ho (by simp[Region.wanted,hg]) hv hm S1.env ⟨S1.sat,S1.sz⟩ λI hI _ _=>z4 _ _ ⟨rfl,hI.sat,by have:=hI.sz;omega⟩
   .rw[UU];refine K a' w3 ⟨⟨D.sz,λe zU t=>?_⟩,by rw[<-ZV];exact z1.2.1.keep z4,by omega⟩ (D.DL.trans hd) (by omega);simp only[look]at t;cases he:(dx==e)with
    |true=>rw[he]at t;simp at he t;subst he;subst t;exact D.ext rfl (z3 (q+1) (by omega)) _ j
    |false=>
     rw[he]at t;have:=fy E2 _ h2 e zU t;rcases lM _ _ _ _ this with ⟨s,s1,s2,s3⟩|z
     .rw[<-s3];exact D.val s s1 (z3 s.i (by grind)) e s2
     .exact D.old e zU z
abbrev sK(e:eP)(ev:Nat->OZ)(el:Nat):aH:=fR (e.getD ⟨0,0,none⟩) 5 (λj=>yt (ev j)) el false
abbrev nv(o:eP)(ou:Nat->Se)(oh:yX)(n:Nat):aH:=fR (o.getD ⟨0,0,none⟩) 4 (λj=>yL (ou j,oh j)) n false
abbrev Ru:aH:=oR 0 0 [.iface 217 (.agg #[.pointer (some ⟨1,121,none⟩)])] false
abbrev Yt(sa:eP)(m:Nat)(g:Nat->Cl):aH:=fR (sa.getD ⟨0,0,none⟩) 2 (λj=>[i6 (g j).st,.slice (g j).ta (g j).nt (g j).tc]) m false
abbrev Kd(g:Nat->Cl)(j:Nat):aH:=fR ((g j).ta.getD ⟨0,0,none⟩) 3 (λi=>[i6 ((g j).T i 0),i6 ((g j).T i 1),i6 ((g j).T i 2)]) (g j).nt false
def cM(sa:eP)(m:Nat)(g:Nat->Cl):List aH:=Ru::Yt sa m g::(List.range m).map (Kd g)
abbrev El(s0:eP)(n:Nat)(L:oF):aH:=fR (s0.getD ⟨0,0,none⟩) 6 (oG L) n false
theorem pY:∀r∈cM sa m g,r.wr=false:=λr a=>by
 simp only[cM,ak,gV]at a;grind
theorem GP:Flat (cM sa m g):=by
 rw[bO];intro r a;simp only[cM,ak,gV]at a;grind
theorem Yn(h:r∈C)(a:r.wr=false):Has C r:=mq.2 ⟨a,h⟩
theorem lD(h:∀r∈M,xE Q w r/\r.wr=false):Sat Q w M:=by
 refine sat_iff.2 ⟨λr a=>(h r a).1,?_⟩;refine WE λr a a a a=>?_;simp_all
theorem nU(a:r.wr=false)(a:r.row=none)(a:∀j,r.has j->w.cell? (r.ad j)=some (r.get j))(b:∀j,r.has j->Q (r.ad j) false):xE Q w r:=
 ⟨a,λj a=>⟨b j a,λz=>(by simp_all)⟩,λz=>(by simp_all),λg e n z=>(by simp_all)⟩
theorem vD(h:nF w s0 n L)(k:∀p:Addr,s0=some p->∀a:Addr,a.block=p.block->Q a false):xE Q w (El s0 n L):=by
 refine nU rfl rfl (λj c=>?_) (λj c=>?_)
 .let⟨i,f⟩:=j;let⟨g,e⟩:=c;obtain⟨b,o,rfl,d⟩:=h i g;simp only at g e;have:=d f e;simp only[cQ,ey];rw[show o+i*6+f=o+i*6+f from rfl,this];rcases f with _|_|_|_|_|_|f
  .rfl
  .rfl
  .rfl
  .rfl
  .rfl
  .rfl
  .omega
 .let⟨i,f⟩:=j;obtain⟨b,o,rfl,d⟩:=h i c.1;exact k _ rfl _ (by simp only[cQ,ey])
theorem zv(h:sG w sa m g)(u:w.cell? ⟨0,0,none⟩=some (.iface 217 (.agg #[.pointer (some ⟨1,121,none⟩)])))(t:TO Q sa m g)(q:Q ⟨0,0,none⟩ false):Sat Q w (cM sa m g):=by
 refine lD λr p=>?_;refine⟨?_,pY r p⟩;simp only[cM,ak,gV]at p;rcases p with rfl|rfl|⟨j,a,rfl⟩
 .refine nU rfl rfl (λj a=>?_) (λj a=>?_)
  .let⟨i,f⟩:=j;let⟨c,d⟩:=a;simp only[gB,iT]at c d;have s:f=0:=by omega
   subst s;exact u
  .let⟨i,f⟩:=j;let⟨c,d⟩:=a;simp only[gB,iT]at c d;have s:f=0:=by omega
   subst s;exact q
 .refine nU rfl rfl (λj a=>?_) (λj a=>?_)
  .let⟨i,f⟩:=j;let⟨c,d⟩:=a;obtain⟨b,o,rfl,n,l,_⟩:=h i c;simp only at c d;simp only[cQ,ey];rcases f with _|_|f
   .exact n
   .exact l
   .omega
  .let⟨i,f⟩:=j;obtain⟨b,o,rfl,n,l,_⟩:=h i a.1;exact t.1 _ rfl _ (by simp only[cQ,ey])
 .have l:j<m:=aZ.1 a;let⟨_,a,_,_,_,m⟩:=h j l;refine nU rfl rfl (λk a=>?_) (λk a=>?_)
  .let⟨i,f⟩:=k;let⟨c,d⟩:=a;let⟨b,o,e,h⟩:=m i c;simp only at c d;have:=h f d;show w.cell? ((((g j).ta.getD ⟨0,0,none⟩).add (i*3)).add f)=some (List.getD [i6 ((g j).T i 0),i6 ((g j).T i 1),i6 ((g j).T i 2)] f undef);rw[e];simp only[cQ,ey];grind
  .let⟨i,f⟩:=k;let⟨b,o,e,h⟩:=m i a.1;have b:=a.1;show Q ((((g j).ta.getD ⟨0,0,none⟩).add (i*3)).add f) false;rw[e];exact t.2 j l (by grind) _ e _ (by simp only[cQ,ey])
theorem Sat.ZL(h:Sat Q w (pM s++C)):Sat Q w (sK s.ea s.l.ev s.l.el::nv (some ⟨s.k.O,0,none⟩) s.l.ou s.oh s.k.V.nc::C):=by
 have c:Sat Q w ([vR s.ea 5 (λj=>yt (s.l.ev j)) s.l.el s.ec 55,fR ⟨s.k.O,0,none⟩ 4 (λj=>yL (s.l.ou j,s.oh j)) s.k.V.nc true]++C):=h.sub (D7 (by
  show List.Sublist [_,_] [_,_,_,_,_,_,_];exact .cons _ (.cons _ (.cons _ (.cons_cons _ (.cons _ (.cons _ (.cons_cons _ .slnil))))))) C)
 have b:=c.G7 0 rfl (sK s.ea s.l.ev s.l.el) (λj a=>⟨a,rfl,rfl⟩) (λz=>by cases z) rfl;exact b.G7 1 rfl (nv (some ⟨s.k.O,0,none⟩) s.l.ou s.oh s.k.V.nc) (λj a=>⟨a,rfl,rfl⟩) (λz=>by cases z) rfl
theorem Sat.Wp{b:Nat}(h:Sat Q w M)(l:∀j,j<vs.length->w.cell? ⟨b,j,none⟩=some (vs.getD j undef))(k:∀j wr,Q ⟨b,j,none⟩ wr)(m:∀j,j<vs.length->w.frozen? ⟨b,j,none⟩=false)(o:∀r∈M,∀j,r.has j->∀i,i<vs.length->r.ad j≠⟨b,i,none⟩):Sat Q w (bR b vs::M):=by
 refine sat_iff.2 ⟨λr d=>?_,iG.2 ⟨λr d i j f a c e=>?_,(sat_iff.1 h).2⟩⟩
 .rcases ak.1 d with rfl|d
  .refine⟨λj a=>?_,λj a=>⟨k _ _,λ_=>⟨k _ _,m _ a.2⟩⟩,λ_ j f a c e=>?_,λg e n z=>(by cases z)⟩
   .rw[show(bR b vs).ad j=⟨b,j.2,none⟩from rfl,l j.2 a.2];congr 1;have b:j.2<vs.length:=a.2;unfold aH.get;grind
   .have b:j.1<1:=a.1;have b:f.1<1:=c.1;grind
  .exact(sat_iff.1 h).1 r d
 .exact o r d f c j.2 a.2 e.symm
theorem Sat.aaw{b:Nat}(h:Sat Q w M)(a:∀j,j<vs.length->w.cell? ⟨b,j,none⟩=some (vs.getD j undef))(c:∀j wr,Q ⟨b,j,none⟩ wr)(d:∀j,j<vs.length->w.frozen? ⟨b,j,none⟩=false):∃C,Sat Q w (bR b vs::C)/\∀r,Has M r->(∀j,r.has j->∀i,i<vs.length->r.ad j≠⟨b,i,none⟩)->Has C r:=by
 classical
 refine⟨M.filter λr=>decide (∀j,r.has j->∀i,i<vs.length->r.ad j≠⟨b,i,none⟩),(h.sub List.filter_sublist).Wp a c d λr a=>?_,λr a b=>?_⟩
 .simp_all
 .let⟨c,b⟩:=mq.1 a;exact mq.2 ⟨c,mK.2 ⟨b,by simp_all⟩⟩
theorem Ba:∀{E:Env}{n:Nat}{v:ay},look E n=some v->(n,v)∈E
 |[],n,v,h=>by cases h
 |(d,u)::E,n,v,h=>by
  simp only[look]at h;by_cases e:d=n
  .simp_all
  .have a:(d==n)=false:=by simp_all
   rw[a]at h;exact aP _ (Ba h)
theorem aR.sub{b:Env}(h:aR E N a)(c:∀p∈b,look E p.1=some p.2):aR b N a:=⟨h.sz,λn v a=>h.val n v (c (n,v) (Ba a))⟩
theorem Iw(w:aj):Old w w:=⟨rfl,rfl,rfl,az _,λ_ _=>rfl⟩
theorem Fg{a b c:aj}(h:Old a b)(k:Old b c):Old a c:=⟨k.1.trans h.1,k.2.1.trans h.2.1,k.2.2.1.trans h.2.2.1,aT h.2.2.2.1 k.2.2.2.1,λi a=>(k.2.2.2.2 i (ga a h.2.2.2.1)).trans (h.2.2.2.2 i a)⟩
theorem zw{L:LS}(Q:wM V)(R:yI V L)(P:Fin V Z m none L)(m:0<ng)(L:∀x∈l,x<w.heap.size)(B:Sj V sa dL eu M)(t:0<V.nl->∃u,sL=some u/\Has M (fR u 6 (λi=>EV (V.ly i)) V.nl false))(x:Sat (cP wI.heap.size l []) w M)(p:O3 (cP w.heap.size l []) (nM prog Post (Old w) (jq l) ng) w.heap.size M 16 #[.slice sL V.nl cA,.slice sa V.nc cap] (.tuple #[i6 0,i6 0]))(K:∀(Lf:LS),Z Lf->∀(b A:Nat)(o:Nat)(i:eP)(T:Nat)(u:yX)(C:aW)(I:aj),0<b->w.heap.size<=A->A<I.heap.size->(0<V.nc->w.heap.size<=o)->Old w I->Old wI I->(0<Lf.el->∃a,i=some a)->Sat (cP wI.heap.size (A::l) []) I (sK i Lf.ev Lf.el::nv (some ⟨o,0,none⟩) Lf.ou u V.nc::C)->(∀r,Has M r->Has C r)->(∀j,j<V.nc->fu C (u j) (Lf.ou j).b.ch)->
 nM prog Post (Old wI) (jq (A::l)) b (G (d.finish (.tuple #[.agg #[.slice (some ⟨o,0,none⟩) V.nc V.nc,.slice i Lf.el T],i6 0,i6 0])) Y) I):
 nM prog Post (Old wI) (jq l) ng (G (Frame.enter prog 24 #[.slice sL V.nl cA,.slice sa V.nc cap] .normal) (d::Y)) w:=by
 refine At.assume gN λq=>At.keep (K':=Old w) (λU=>Iw w) ?_;have n:wI.heap.size<=w.heap.size:=q.2.2.2.1;refine Pm Q R P m L B t (x.OB (λr c j y h=>⟨h.1,λz=>by cases z⟩) (λr c k=>by rw[B.ro r c]at k;cases k)) p λb A s C I O N J H F e v E D f=>?_;subst F;refine At.keep (λU=>Fg q e) ?_;have S:Sat (cP wI.heap.size (A::l) []) I (pM s++C):=v.OB (λr c j y h=>⟨h.1,λz=>by cases z⟩) (λr c k j y h=>⟨h.1,λz=>⟨aT n (h.2 z).1,(h.2 z).2⟩⟩);exact K s.l H b A s.k.O s.ea s.ec s.oh C I O N J (λz=>(((v.ok 6 (fR ⟨s.k.O,0,none⟩ 4 (λj=>yL (s.l.ou j,s.oh j)) s.k.V.nc true) rfl (0,0) ⟨z,(by decide:0<4)⟩).2 rfl).1.2 rfl).1) e (Fg q e) (λz=>by
  rcases E.jr.row with ⟨_,a,_⟩|⟨g,a,_⟩
  .omega
  simp_all) S.ZL D f
theorem iX(c:∀A∈l,A<N)(c:N0<=N){a:Addr}(c:N<=a.block)(wr:Bool):cP N0 l [] a wr:=
 ⟨fun⟨A,a,z⟩=>by grind,λ_=>⟨by omega,fun⟨p,b,z⟩=>by cases b⟩⟩
theorem RP(h:jG n L m g≠(0,0)):(jG n L m g).1≠0:=by
 unfold jG at h ⊢;grind
structure Ds(wI:aj)(s0:eP)(n:Nat)(L:oF)(sa:eP)(m:Nat)(g:Nat->Cl):Prop where
 hL:nF wI s0 n L
 bL:∀p:Addr,s0=some p->p.block<wI.heap.size
 hC:sG wI sa m g
 bC:∀p:Addr,sa=some p->p.block<wI.heap.size
 bT:∀i,i<m->0<(g i).nt->∀p:Addr,(g i).ta=some p->p.block<wI.heap.size
 i0:0<wI.heap.size
 hg:wI.cell? ⟨0,0,none⟩=some (.iface 217 (.agg #[.pointer (some ⟨1,121,none⟩)]))
theorem JA(h:sG w sa m g)(a:Old w I):sG I sa m g:=λi c=>by
 let⟨b,o,e,g,d,f⟩:=h i c;exact⟨b,o,e,a.cell _ _ g,a.cell _ _ d,λj c=>by
  let⟨b,o,e,d⟩:=f j c;exact⟨b,o,e,λk b=>a.cell _ _ (d k b)⟩⟩
theorem IJ(h:nF w sa n L)(c:Old w I):nF I sa n L:=λi a=>by
 let⟨b,o,e,d⟩:=h i a;exact⟨b,o,e,λk a=>c.cell _ _ (d k a)⟩
theorem jN{a:Addr}(h:a.block∉l):cP N0 l [] a false:=
 ⟨fun⟨A,a,z⟩=>h (by grind),λz=>by cases z⟩
theorem Ds.rd(h:Ds wI s0 n L sa m g)(b:∀B∈l,wI.heap.size<=B):TO (cP N0 l []) sa m g:=⟨λp b a d=>jN λz=>by have:=h.bC p b;grind,λi c e p b a d=>jN λz=>by have:=h.bT i c e p b;grind⟩
def Q3(_ j:Nat):Int:=match j with|0=>1|1=>7|_=>3
abbrev CN(t:Nat)(_:Nat):Cl:=⟨5,some ⟨t,0,none⟩,1,1,Q3⟩
theorem Xy(t:Nat):jG 0 (λ_ _=>0) 1 (CN t)=(0,0):=by kernel_rfl
theorem Oe(V:Ev0):yI V (ko V):=⟨rfl,rfl,λ_ _=>⟨rfl,rfl,rfl,rfl⟩,λ_=>rfl,λ_=>rfl,rfl,λ_=>rfl,rfl,rfl,λ_ _=>⟨rfl,rfl,rfl,rfl,rfl⟩⟩
theorem F5(hg:wI.cell? ⟨0,0,none⟩=some (.iface 217 (.agg #[.pointer (some ⟨1,121,none⟩)])))(i0:0<wI.heap.size)(hO:Old wI w)(K:∀l' C I,0<C->(∀x∈l',wI.heap.size<=x/\x<I.heap.size)->Old wI I->nM prog Post (Old wI) (jq l') C (G (d.finish (.bool true)) Y) I):nM prog Post (Old wI) (jq []) 1 (G (Frame.enter prog 30 #[] .normal) (d::Y)) w:=by
 have F:=nA (P:=prog) (Post:=Post) (wI:=wI) (l:=[]) 1;have h:wI.heap.size<=w.heap.size:=hO.2.2.2.1;have u:∀(a:Addr)(wr:Bool),w.heap.size<=a.block->cP wI.heap.size [] [] a wr:=λa wr z=>iX (λx g=>by cases g) h z wr;have hS:Sat (cP wI.heap.size [] []) w []:=lD λr s=>by cases s
 have n:w.heap.size<=w.heap.size:=az _;generalize hB0:w.heap.size=B at u n h;rw[<-hB0]at n;replace n:B<=w.heap.size:=by omega
 refine cJ func30 hS 59 λU a0 B1 hn m qh tN S0 P9=>aq (λM=>bR (B1+1) [i6 5,.slice (some ⟨B1,0,none⟩) 1 1]::(bR (B1) [i6 1,i6 7,i6 3]::(M))) 2 F u m tN S0 10 [] 1 [] [(9,.slice (some ⟨B1+1,0,none⟩) 1 1)] 10 1 [] λa1 W V Nt zS Dx o9=>?_;have J:sG W (some ⟨B1+1,0,none⟩) 1 (CN B1):=λi hi=>by
  have e:i=0:=by omega
  subst e;refine⟨B1+1,0,rfl,V.sat.val 0 _ rfl (0,0) ⟨aD,(by decide:0<2)⟩,V.sat.val 0 _ rfl (0,1) ⟨aD,(by decide:1<2)⟩,λj t=>?_⟩;have e:j=0:=by simp_all
  subst e;refine⟨B1,0,rfl,λk hk=>?_⟩;have:=V.sat.val 1 _ rfl (0,k) ⟨aD,hk⟩;rw[show(⟨B1,0+0*3+k,none⟩:Addr)=⟨B1,k,none⟩ by simp];refine this.trans (cT some ?_);have Nh:k=0\/k=1\/k=2:=by omega
  rcases Nh with rfl|rfl|rfl<;>rfl
 have H:∀N:Nat,TO (cP N [] []) (some ⟨B1+1,0,none⟩) 1 (CN B1):=λN=>⟨λp S a ha=>jN (by simp),λi hi h0 p S a ha=>jN (by simp)⟩
 refine Af F m 10 24 #[.slice none 0 0,.slice (some ⟨B1+1,0,none⟩) 1 1] (by kernel_rfl) (by kernel_rfl) (by decide) V λcR L=>At.assume gN λhO3=>?_;have VR:Sat (cP wI.heap.size [] []) W (cM (some ⟨B1+1,0,none⟩) 1 (CN B1)):=zv J (hO3.cell _ _ hg) (H _) (jN (by simp));have b:∀r∈cM (some ⟨B1+1,0,none⟩) 1 (CN B1),Has (cM (some ⟨B1+1,0,none⟩) 1 (CN B1)) r:=λr s=>Yn s (pY r s);refine zw (V:=nC 0 (λ_ _=>0) 1 (CN B1)) (M:=cM (some ⟨B1+1,0,none⟩) 1 (CN B1)) (dL:=λ_=>some ⟨B1,0,none⟩) (eu:=λ_=>1) (sL:=none) (cA:=0) (sa:=some ⟨B1+1,0,none⟩) (cap:=1) (zl (Xy B1)) (Oe _) Xs (by decide) (λx g=>by cases g) ⟨λr s=>pY r s,GP,λ_=>⟨_,rfl,b _ (aP _ (bI ..))⟩,λc hc _=>⟨_,rfl,?_⟩,b _ (bI ..)⟩ (λz=>absurd z (Ap 0)) VR (λBL yR I M' O VO LM KK=>?_) λX1 hX1 A Q R ea1 P y C1 f k1 k2' k3 k3o k4 k5 k6 X k8 k9=>L _ _ _ λa4 o l=>?_
 .have e:c=0:=by have:c<1:=hc;omega
  subst e;exact b (Kd (CN B1) 0) (aP _ (aP _ (gV.2 ⟨0,aZ.2 (by decide),rfl⟩)))
 .exact r8 (n:=0) (m:=1) (L:=λ_ _=>0) (g:=CN B1) (nA 1) (λa wr z=>iX (N:=W.heap.size) (λx g=>by cases g) (az _) z wr) (λz=>by omega) (λ_=>⟨_,rfl,O _ (b _ (aP _ (bI ..)))⟩) (λj t _=>⟨_,rfl,O _ (by
   have e:j=0:=by omega
   subst e;exact b (Kd (CN B1) 0) (aP _ (aP _ (gV.2 ⟨0,aZ.2 (by decide),rfl⟩))))⟩) VO LM (by rw[Xy];exact KK)
 clear F;have F:=nA (P:=prog) (Post:=Post) (wI:=wI) (l:=[Q]) A;let⟨f1,f2,f3⟩:=end_1 hX1;replace l:=l.trans Nt;obtain⟨T,rfl⟩:=k6 (by omega);obtain⟨q,v,hoh⟩:∃q v,y 0=.slice q 0 v:=by
  have:=k9 0 aD;rw[f1]at this;rcases this with ⟨z,_⟩|⟨ca,cap,i,z,_⟩
  .simp_all
  simp_all
 rw[f2]at o X;have h7:=(X.sub (M':=[_,_]) (.cons_cons _ (.cons_cons _ (List.nil_sublist _)))).G7 0 rfl (fR T 5 (λj=>if j=1 then[i6 8,i6 0,i6 (-1),i6 2,i6 0]else yt (X1.ev j)) 2 false) (λj t=>⟨t,rfl,by
  show(if j.1=1 then[i6 8,i6 0,i6 (-1),i6 2,i6 0]else yt (X1.ev j.1)).getD j.2 undef=(yt (X1.ev j.1)).getD j.2 undef;split
  .rename_i e;rw[e,f3];rfl
  .rfl⟩) (λz=>by cases z) rfl
 have h8:=h7.G7 1 rfl (fR ⟨R,0,none⟩ 4 (λ_=>[i6 8,i6 1,i6 7,.slice q 0 v]) 1 false) (λj t=>⟨t,rfl,by
  have e:j.1=0:=by have:j.1<1:=t.1;omega
  show List.getD [i6 8,i6 1,i6 7,.slice q 0 v] j.2 undef=(yL (X1.ou j.1,y j.1)).getD j.2 undef;rw[e,hoh,f1];rfl⟩) (λz=>by cases z) rfl
 have S4:St (cP wI.heap.size [Q] []) f.heap.size 59 [(10,.tuple #[.agg #[.slice (some ⟨R,0,none⟩) 1 1,.slice (some T) 2 P],i6 0,i6 0])] [fR T 5 (λj=>if j=1 then[i6 8,i6 0,i6 (-1),i6 2,i6 0]else yt (X1.ev j)) 2 false,fR ⟨R,0,none⟩ 4 (λ_=>[i6 8,i6 1,i6 7,.slice q 0 v]) 1 false] 0 a4 f:=⟨o.sub (by intro p S;simp only[ak,bH,or_false]at S;subst S;rfl),h8,rfl⟩;have E:wI.heap.size<=f.heap.size:=k5.2.2.2.1;clear u;have D:∀x∈[Q],wI.heap.size<=x/\x<f.heap.size:=λx g=>by
  grind
 have u:∀(a:Addr)(wr:Bool),f.heap.size<=a.block->cP wI.heap.size [Q] [] a wr:=λa wr z=>iX (N:=f.heap.size) (λx g=>(D x g).2) E z wr;have Z:f.heap.size=f.heap.size:=rfl;clear o X k8 k9 L h7 h8;generalize hB4:f.heap.size=B4 at S4 Z u D;refine oH (λM=>bR (B4+1) [i6 8,i6 1,i6 7,.slice q 0 v]::(bR (B4) [.slice (some ⟨R,0,none⟩) 1 1,.slice (some T) 2 P]::(M))) 2 F u m qh l S4 69 [0,0,0,2,0,0,0,2,0,0,0,1,2,0,0,4,0,0,0,4,0,0,0,4,1,0,1,1,2,1,0,5] 35958428274349397 [] 0 (.bool true) 80 2 [] [] [] [(1,2),(0,1)] [] λw5 S5 Y5 Dw=>At.assume gN λXh=>K [Q] A w5 k1 (λx g=>by grind) Xh
theorem Ds.sat(H:Ds wI s0 n L sa m g)(d:∀x∈l,wI.heap.size<=x)(c:Old wI w):Sat (cP wI.heap.size l []) w (El s0 n L::cM sa m g):=lD λr b=>by
 rcases ak.1 b with rfl|b
 .exact⟨vD (IJ H.hL c) λp e a a=>jN λz=>by have:=H.bL p e;grind,rfl⟩
 .exact⟨(zv (JA H.hC c) (c.cell _ _ H.hg) (H.rd d) (jN λz=>by have h:wI.heap.size<=0:=d _ z;have:=H.i0;omega)).mem b,pY r b⟩
theorem Ds.lt(H:Ds wI s0 n L sa m g)(b:r∈El s0 n L::cM sa m g){j:Nat×Nat}(c:r.has j):(r.ad j).block<wI.heap.size:=
 au (((H.sat (l:=[]) (λx a=>by cases a) (Iw wI)).mem b).val j c)
theorem Ds.ro(a:r∈El s0 n L::cM sa m g):r.wr=false:=by
 rcases ak.1 a with rfl|a
 .rfl
 .exact pY r a
theorem Ds.q1(H:Ds wI s0 n L sa m g):0<n->∃a,s0=some a/\Has (El s0 n L::cM sa m g) (fR a 6 (oG L) n false):=λz=>by
 obtain⟨b,o,rfl,_⟩:=H.hL 0 z;exact⟨_,rfl,Yn (bI ..) rfl⟩
theorem Ds.q2(H:Ds wI s0 n L sa m g):0<m->∃a,sa=some a/\Has (El s0 n L::cM sa m g) (fR a 2 (λj=>[i6 (g j).st,.slice (g j).ta (g j).nt (g j).tc]) m false):=λz=>by
 obtain⟨b,o,rfl,_⟩:=H.hC 0 z;exact⟨_,rfl,Yn (aP _ (aP _ (bI ..))) rfl⟩
theorem Ds.q3(H:Ds wI s0 n L sa m g):∀j,j<m->0<(g j).nt->∃a,(g j).ta=some a/\Has (El s0 n L::cM sa m g) (fR a 3 (λi=>[i6 ((g j).T i 0),i6 ((g j).T i 1),i6 ((g j).T i 2)]) (g j).nt false):=λj a z=>by
 let⟨_,_,_,_,_,c⟩:=H.hC j a;let⟨b,o,e,_⟩:=c 0 z;refine⟨_,e,?_⟩;have:=Yn (C:=El s0 n L::cM sa m g) (r:=Kd g j) (aP _ (aP _ (aP _ (gV.2 ⟨j,aZ.2 a,rfl⟩)))) rfl;grind
theorem Yx(a:jG n L m g≠(0,0)):(1<=(jG n L m g).1/\(jG n L m g).1<=4)/\0<=(jG n L m g).2/\(jG n L m g).2<=8:=by
 unfold jG at a ⊢;grind
theorem HP(F:aB prog true (DX Q) H)(n:HB B Q)(b:U.kind=.normal)(l:U.fn=19){m:Act}{g:aj}{e:Nat}(j:m.defers=[])(o:B<=e)(o:1<=c/\c<=4)(o:0<=i/\i<=8)(f:St Q e 70 [(12,i6 i),(11,i6 c),(10,ptr e),(9,i6 i),(8,i6 c),(7,.bool true),(4,ptr B1)] (bR e [.slice none 0 0,.slice none 0 0]::bR B1 [.slice none 0 0,.slice none 0 0]::M) 1 m g)(K:∀I,g.heap.size<=I.heap.size->H (G (d.finish (.tuple #[.agg #[.slice none 0 0,.slice none 0 0],.bool false,.bool true])) Y) I):H (G (U.at m (pc prog 19 44 [true] [])) (d::Y)) g:=by
 replace f:=St.mk (c:=0) (B:=e+1) f.env f.sat f.sz;have g:i=0\/i=1\/i=2\/i=3\/i=4\/i=5\/i=6\/i=7\/i=8:=by omega
 have k:c=1\/c=2\/c=3\/c=4:=by omega
 have c:=f.sz;rcases g with rfl|rfl|rfl|rfl|rfl|rfl|rfl|rfl|rfl<;>rcases k with rfl|rfl|rfl|rfl
 all_goals
  refine bkU [oR e 0 [.slice none 0 0,.slice none 0 0] false] [(19,[]),(20,[(0,(0,1),true)]),(21,[]),(22,[]),(23,[])] F aK (λa wr z=>n a wr (by omega)) b 24 (Hq [0,0,0,2,0,0,0,2]) [(true,true),(true,true),(true,true),(true,true),(true,true),(true,true),(true,true),(true,true),(true,true),(true,true),(true,true),(true,true),(true,true),(true,true)] [(30,.agg #[.slice none 0 0,.slice none 0 0]),(4,ptr B1)] [(53,.bool true),(4,ptr B1)] [] [] [] (Hq [1,0,0,2]) (λM=>bh 1 (0,1) (.slice none 0 0) (bh 1 (0,0) (.slice none 0 0) (M))) 5 (.bool false) j (by kernel_rfl) (by kernel_rfl) (by kernel_rfl) (by kernel_rfl) (by kernel_rfl) (by kernel_rfl) (by kernel_rfl) (by kernel_rfl) (by kernel_rfl) (by kernel_rfl) eU eU eU (λw h=>(h.sub (M':=[bR e [.slice none 0 0,.slice none 0 0]]) (.cons_cons _ (List.nil_sublist _))).fix) f λa a e a c=>Rb F n b a e 2 [] 1 [] [(6,.bool true),(5,.bool false),(4,ptr B1)] 47 3 [26] λa c g a e e e=>cC F g b l a [1,0,0,2] (.tuple #[.agg #[.slice none 0 0,.slice none 0 0],.bool false,.bool true]) ?_;exact K c (by omega)
theorem ES(H:Ds wI s0 n L sa m g)(hZ:jG n L m g=(0,0)->Fin (nC n L m g) Z 80001 none (ko (nC n L m g)))(K0:∀l' K I,0<K->(∀x∈l',wI.heap.size<=x/\x<I.heap.size)->Old wI I->nM prog Post (Old wI) (jq l') K (G (d.finish (.tuple #[.agg #[.slice none 0 0,.slice none 0 0],.bool false,.bool true])) Y) I)(K1:jG n L m g=(0,0)->∀Lf,Z Lf->∀l' K (o:Nat) P ec oh C I,0<K->(∀x∈l',wI.heap.size<=x/\x<I.heap.size)->Old wI I->(0<Lf.el->∃a,P=some a)->Sat (cP wI.heap.size l' []) I C->Has C (sK P Lf.ev Lf.el)->Has C (nv (some ⟨o,0,none⟩) Lf.ou oh m)->(∀j,j<m->fu C (oh j) (Lf.ou j).b.ch)->(∀r∈El s0 n L::cM sa m g,Has C r)->nM prog Post (Old wI) (jq l') K (G (d.finish (.tuple #[.agg #[.slice (some ⟨o,0,none⟩) m m,.slice P Lf.el ec],.bool true,.bool true])) Y) I):
 nM prog Post (Old wI) (jq []) 1 (G (Frame.enter prog 19 #[.slice s0 n c0,.slice sa m cap] .normal) (d::Y)) wI:=by
 have F:=nA (P:=prog) (Post:=Post) (wI:=wI) (l:=[]) 1;have t:∀(a:Addr)(wr:Bool),wI.heap.size<=a.block->cP wI.heap.size [] [] a wr:=λa wr z=>iX (λx v=>by cases v) (az _) z wr;have hS:Sat (cP wI.heap.size [] []) wI []:=lD λr k=>by cases k
 refine cJ func19 hS 70 λU G B1 G h qh G Z K=>aq (λM=>bR (B1) [.slice none 0 0,.slice none 0 0]::(M)) 1 F t h G Z 8 [] 1 [] [(4,ptr B1),(0,.slice s0 n c0),(1,.slice sa m cap)] 8 1 [] λG G S1 Z K K K=>Af F h 14 30 #[] (by kernel_rfl) (by kernel_rfl) (by decide) S1 λcR O=>At.assume gN λK=>At.keep (K':=Old G) (λjQ=>Iw G) ?_;refine F5 (wI:=G) (K.cell _ _ H.hg) (by omega) (Iw G) λD W J S hl1 y=>?_;have hO2:=Fg K y;refine At.keep (K':=Old wI) (λjQ=>hO2) ?_;refine O _ _ _ λa2 OR DF=>?_;replace DF:=DF.trans Z;clear F O;have F:=nA (P:=prog) (Post:=Post) (wI:=wI) (l:=D) W;have K:G.heap.size<=J.heap.size:=y.2.2.2.1;clear t;have t:∀(a:Addr)(wr:Bool),J.heap.size<=a.block->cP wI.heap.size D [] a wr:=λa wr z=>iX (N:=J.heap.size) (λx v=>(hl1 x v).2) (by omega) z wr;have hsB:∀l:List Nat,(∀x∈l,G.heap.size<=x)->∀j wr,cP wI.heap.size l [] ⟨B1,j,none⟩ wr:=λl G j wr=>⟨(jN (N0:=0) (l:=l) (a:=⟨B1,j,none⟩) λz=>by grind).1,λ_=>⟨by grind,fun⟨p,X,z⟩=>by cases X⟩⟩
 have l:∀j,j<2->J.cell? ⟨B1,j,none⟩=some ([Value.slice none 0 0,.slice none 0 0].getD j undef):=λj b=>by
  refine y.cell _ _ ?_;refine(S1.sat.val 0 _ rfl (0,j) ⟨aD,b⟩).trans (cT some ?_);rfl
 have G:∀j,j<2->J.frozen? ⟨B1,j,none⟩=false:=λj b=>(World.frozen?_of_block (y.2.2.2.2 B1 (by omega))).trans ((S1.sat.ok 0 _ rfl (0,j) ⟨aD,b⟩).2 rfl).2;have h2:Sat (cP wI.heap.size D []) J (bR B1 [.slice none 0 0,.slice none 0 0]::El s0 n L::cM sa m g):=(H.sat (λx v=>by grind) hO2).Wp l (hsB D λx v=>(hl1 x v).1) G λr k j b i T e=>by
  have:=H.lt k b;grind
 have S2:St (cP wI.heap.size D []) J.heap.size 70 [(14,.bool true),(0,.slice s0 n c0),(1,.slice sa m cap),(4,ptr B1)] (bR B1 [.slice none 0 0,.slice none 0 0]::El s0 n L::cM sa m g) 0 a2 J:=⟨OR.sub (by intro p X;simp only[ak,bH,or_false]at X;rcases X with rfl|rfl|rfl|rfl<;>rfl),h2,rfl⟩;have tM:J.heap.size=J.heap.size:=rfl;have q1:=H.q1;have q2:=H.q2;have q3:=H.q3;have M6:∀r∈El s0 n L::cM sa m g,r.wr=false:=λr k=>Ds.ro k;have l:∀r∈El s0 n L::cM sa m g,∀j,r.has j->(r.ad j).block<wI.heap.size:=λr k j b=>H.lt k b;generalize hM:El s0 n L::cM sa m g=M at*;generalize hB2:J.heap.size=l at S2 tM t;refine Rb F t h DF S2 6 [] 1 [] [(17,.slice sa m cap),(16,.slice s0 n c0),(7,.bool true),(0,.slice s0 n c0),(1,.slice sa m cap),(4,ptr B1)] 15 1 [] λl l y l G G G=>j5 F h l y 18 16 #[.slice s0 n c0,.slice sa m cap] λl l=>r8 F t (λz=>by let⟨a,w,u⟩:=q1 z;exact⟨a,w,u.cons⟩) (λz=>by let⟨a,w,u⟩:=q2 z;exact⟨a,w,u.cons⟩) (λj b z=>by let⟨a,w,u⟩:=q3 j b z;exact⟨a,w,u.cons⟩) y.sat (by omega) λy G y=>l _ _ _ G λl l S4 Vx l=>?_;by_cases E:jG n L m g=(0,0)
 .rw[E]at S4;refine Rb F t h Vx S4 10 [] 1 [] [(23,.slice sa m cap),(22,.slice s0 n c0),(9,i6 0),(8,i6 0),(7,.bool true),(1,.slice sa m cap),(4,ptr B1)] 26 1 [] λa5 w5 S5 Yv Y5 Dw qO=>Af F h 24 24 #[.slice s0 n c0,.slice sa m cap] (by kernel_rfl) (by kernel_rfl) (by decide) S5 λcR O=>At.assume gN λl=>?_;have Xi:Sj (nC n L m g) sa (λj=>(g j).ta) (λj=>(g j).tc) M:=⟨M6,by
   subst hM;rw[bO];intro r k;rcases ak.1 k with rfl|k
   .rfl
   .exact(bO.1 GP) r k,q2,q3,by
   subst hM;exact Yn (aP _ (bI ..)) rfl⟩
  have l:∀x∈D,x<w5.heap.size:=λx v=>by grind
  refine zw (V:=nC n L m g) (zl E) (Oe _) (hZ E) S l (sL:=s0) (sa:=sa) (cA:=c0) (cap:=cap) Xi q1 S5.sat.tail (λBL yR I M' Q VO LM KK=>?_) λLf hLf W9 A o P ec oh C B k1 y y k3o k4 y k6 k7 k8 k9=>O _ _ _ λa6 TF N=>?_
  .exact r8 (n:=n) (m:=m) (L:=L) (g:=g) (nA W) (λa wr z=>iX (N:=w5.heap.size) l (az _) z wr) (λz=>by grind) (λz=>by grind) (λj b z=>by let⟨a,w,u⟩:=q3 j b z;grind) VO LM (by grind)
  replace N:=N.trans Yv;clear F O;have F:=nA (P:=prog) (Post:=Post) (wI:=wI) (l:=A::D) W9;have l:w5.heap.size<=B.heap.size:=k4.2.2.2.1;have hl6:∀x∈A::D,wI.heap.size<=x/\x<B.heap.size:=λx v=>by
   rcases ak.1 v with rfl|v
   .omega
   grind
  clear t;have t:∀(a:Addr)(wr:Bool),B.heap.size<=a.block->cP wI.heap.size (A::D) [] a wr:=λa wr z=>iX (N:=B.heap.size) (λx v=>(hl6 x v).2) (by omega) z wr;have hv6:∀j,j<2->B.cell? ⟨B1,j,none⟩=some ([Value.slice none 0 0,.slice none 0 0].getD j undef):=λj b=>by
   refine k4.cell _ _ ?_;refine(S5.sat.val 0 _ rfl (0,j) ⟨aD,b⟩).trans (cT some ?_);rfl
  have hf6:∀j,j<2->B.frozen? ⟨B1,j,none⟩=false:=λj b=>(World.frozen?_of_block (k4.2.2.2.2 B1 (by omega))).trans ((S5.sat.ok 0 _ rfl (0,j) ⟨aD,b⟩).2 rfl).2;have sl:∀i,i<2->∃s p q,B.cell? ⟨B1,i,none⟩=some (Value.slice s p q):=λi T=>by
   rw[hv6 i T];have KG:i=0\/i=1:=by omega
   rcases KG with rfl|rfl<;>exact⟨_,_,_,rfl⟩
  let⟨C',h6,R⟩:=Sat.aaw (b:=B1) (vs:=[.slice none 0 0,.slice none 0 0]) k7 hv6 (hsB (A::D) λx v=>by
   grind) hf6
  have c1:Has C' (sK P Lf.ev Lf.el):=R _ (Yn (bI ..) rfl) λj b i T e=>by
   have hv:=(k7.mem (bI ..)).val j b;let⟨s,p,q,z⟩:=sl i T;rw[e,z]at hv;let⟨j,f⟩:=j;have hf:f<5:=b.2;have Wm:f=0\/f=1\/f=2\/f=3\/f=4:=by omega
   rcases Wm with rfl|rfl|rfl|rfl|rfl<;>cases hv
  have c2:Has C' (nv (some ⟨o,0,none⟩) Lf.ou oh m):=R _ (Yn (aP _ (bI ..)) rfl) λj b i T e=>by
   have l:=k3o (by have:j.1<m:=b.1;show 0<m;omega);have hb:(((⟨o,0,none⟩:Addr).add (j.1*4)).add j.2).block=B1:=cT Addr.block e;rw[add_add]at hb;grind
  have c3:∀j,j<m->fu C' (oh j) (Lf.ou j).b.ch:=λj b=>by
   rcases k9 j b with z|⟨ca,cp,i,w,u⟩
   .exact .inl z
   .have l:Has C (gQ ca (Lf.ou j).b.ch):=⟨rfl,i,u⟩
    let⟨_,i',KG⟩:=R _ l.cons.cons λj b i T e=>by
     have hv:=(k7.mem (aP _ (aP _ (gO u)))).val j b;let⟨s,p,q,z⟩:=sl i T;rw[e,z]at hv;let⟨j,f⟩:=j;have hf:f<3:=b.2;have Wm:f=0\/f=1\/f=2:=by omega
     rcases Wm with rfl|rfl|rfl<;>cases hv
    exact .inr ⟨ca,cp,i',w,KG⟩
  have c4:∀r∈M,Has C' r:=λr k=>R _ (k8 r (Yn k (M6 r k))).cons.cons λj b i T e=>by
   grind
  have t1:((m:Int)==(m:Int))=true:=by simp
  have S6:St (cP wI.heap.size (A::D) []) B.heap.size 70 [(24,.tuple #[.agg #[.slice (some ⟨o,0,none⟩) m m,.slice P Lf.el ec],i6 0,i6 0]),(8,i6 0),(7,.bool true),(1,.slice sa m cap),(4,ptr B1)] (bR B1 [.slice none 0 0,.slice none 0 0]::C') 0 a6 B:=⟨TF.sub (by intro p X;simp only[ak,bH,or_false]at X;rcases X with rfl|rfl|rfl|rfl|rfl<;>rfl),h6,rfl⟩;have YG:B.heap.size=B.heap.size:=rfl;generalize hB6:B.heap.size=B6 at S6 YG t;generalize Ty:Lf.el=el at S6;refine aq (λM=>bR (B6) [.slice (some ⟨o,0,none⟩) m m,.slice P el ec]::(bh 0 (0,1) (.slice P el ec) (bh 0 (0,0) (.slice (some ⟨o,0,none⟩) m m) (M)))) 1 F t h N S6 43 [0,0,0,2,0,0,0,1,0,0,0,2,1,0,0,2] 131069 [] [(6,.bool ((↑m:Int)==(↑m:Int))),(5,.bool ((↑m:Int)==(↑m:Int))),(4,ptr B1)] 70 2 [] λa7 w7 S7 CI OD YQ DJ=>cC F S7 h qh CI [1,0,0,2] (.tuple #[.agg #[.slice (some ⟨o,0,none⟩) m m,.slice P el ec],.bool ((↑m:Int)==(↑m:Int)),.bool ((↑m:Int)==(↑m:Int))]) ?_;subst Ty;rw[t1];exact At.assume gN λXh=>K1 E Lf hLf (A::D) W9 o P ec oh C' w7 k1 (λx v=>by grind) Xh k6 S7.sat.tail.tail c1 c2 c3 c4
 .have W1:=RP E;have V:((jG n L m g).1 !=0)=true:=by grind
  have t1:((jG n L m g).1==(jG n L m g).1)=true:=by simp
  have t2:((jG n L m g).2==(jG n L m g).2)=true:=by simp
  generalize k:jG n L m g=r at W1 V t1 t2 S4;let⟨c,i⟩:=r;dsimp only at W1 V t1 t2 S4;refine Rb F t h Vx S4 10 [] 1 [] [(23,.slice sa m cap),(22,.slice s0 n c0),(9,i6 i),(8,i6 c),(7,.bool true),(1,.slice sa m cap),(4,ptr B1)] 26 1 [] λa5 w5 S5 Yv Y5 Dw qO=>j5 F h Yv S5 24 24 #[.slice s0 n c0,.slice sa m cap] λe e=>Ui (i:=i) F t W1 S5.sat (by omega) (λBL yR I M' Q VO LM KK=>?_) λB h6 f=>e _ _ _ h6 λa6 B6 S6 N YG=>?_
  .exact r8 F t (λz=>by let⟨a,w,u⟩:=q1 z;exact⟨a,w,Q _ u.cons⟩) (λz=>by let⟨a,w,u⟩:=q2 z;exact⟨a,w,Q _ u.cons⟩) (λj b z=>by let⟨a,w,u⟩:=q3 j b z;exact⟨a,w,Q _ u.cons⟩) VO LM (by grind)
  refine aX (λM=>bR (B6) [.slice none 0 0,.slice none 0 0]::(M)) 1 F t h N S6 17 [0,0,0,2] 6 [] [(12,i6 i),(11,i6 c),(10,ptr B6),(9,i6 i),(8,i6 c),(7,.bool true),(4,ptr B1)] 44 3 [] [] [(c !=0,true)] [] [] λa7 w7 S7 CI OD YQ DJ=>?_;let⟨r1,r2⟩:=Yx E;rw[k]at r1 r2;exact HP F t h qh CI (by omega) r1 r2 (S7.dB _ rfl) λa b=>At.assume gN λXh=>K0 D W a S (λx v=>by grind) Xh
theorem T5:Qc prog 22 51 6 48=true:=by kernel_rfl
def RO(y:Nat->Int)(L:oF)(i j:Nat):Int:=if i=0 then y j else L (i-1) j
abbrev Tg(y:Nat->Int):List Value:=[i6 (y 0),i6 (y 1),i6 (y 2),i6 (y 3),i6 (y 4),i6 (y 5)]
theorem Ib(y:Nat->Int)(a:j<6):(Tg y)[j]? =some (i6 (y j)):=by
 match j,a with
 |0,_=>rfl
 |1,_=>rfl
 |2,_=>rfl
 |3,_=>rfl
 |4,_=>rfl
 |5,_=>rfl
theorem ZA(F:aB prog u (DX Q) H)(hB:HB B Q)(P:b.kind=.normal){B' c:Nat}{t:eC}(s x d:Nat){q:Nat}{y:Nat->Int}(ho:kI t=true)(O:oD (aQ t) s x d 22=true)(hd:d<N)(X:look E s=some (.slice (some ⟨q,0,none⟩) 1 1))(W:look E x=some (.slice s0 n c0))(hn:n<=2932031007317)(D:nF w s0 n L)(hBB:B<=B')(S:St Q B' N E (bR q (Tg y)::M) c a w)(p:∀a:Addr,Q a false)(K:∀c R V I,w.heap.size<=I.heap.size->c<I.heap.size->nF I (some ⟨c,0,none⟩) (n+1) (RO y L)->aR ((d,.slice (some ⟨c,0,none⟩) (n+1) R)::E) N V->V.defers=a.defers->H (G (b.at V (jB t)) Y) I):H (G (b.at a t) Y) w:=by
 let⟨_,i,r,b,ht,A,C⟩:=dH ho;let⟨g1,g2,g3⟩:=mh O;have l:∀q v,look E q=some v->a.eval (.tmp q)=v:=λq v o=>by rw[S.env.eval (by simp[kn,o])];simp[ev,o]
 have f:∀j,j<6->w.cell? ⟨q,j,none⟩=some (i6 (y j)):=λj g=>by
  have:=S.sat.val 0 _ rfl (0,j) ⟨aD,g⟩;refine this.trans (cT some ?_);match j,g with
  |0,_=>rfl
  |1,_=>rfl
  |2,_=>rfl
  |3,_=>rfl
  |4,_=>rfl
  |5,_=>rfl
 have o:q<w.heap.size:=au (f 0 (by omega));rw[ht];by_cases h0:n=0
 .subst h0;refine aB.app0 T5 F A (by simp[Region.wanted,g1]) (by rw[P];decide) (.tmp s) (.tmp x) g3 (l s _ X) (l x _ W) (λz=>by cases z) (az _) ?_;rw[<-C,g2];refine K q 1 _ w (az _) o (λi hi=>⟨q,0,rfl,λj g=>?_⟩) (S.env.put hd) (put_defers _ _ _);have e:i=0:=by omega
  subst e;rw[show 0+0*6+j=j by omega];exact f j g
 .obtain⟨ab,T,rfl,_⟩:=D 0 (by omega);have Z:∀k,k<n*6->w.cell? ((⟨ab,T,none⟩:Addr).add k)=some (i6 (L (k / 6) (k % 6))):=λk P=>by
   let⟨_,b,e,hc⟩:=D (k / 6) (by omega);cases e;have:=hc (k % 6) (by omega);rw[show T+k / 6*6+k % 6=T+k by omega]at this;rw[ey];exact this
  refine aB.Om T5 (by decide) F A (by simp[Region.wanted,g1]) (by rw[P];decide) (.tmp s) (.tmp x) g3 (olds:=Tg y) (news:=(List.range (n*6)).map λk=>i6 (L (k / 6) (k % 6))) (l s _ X) (l x _ W) rfl (λb m j jZ g=>?_) (λz=>by cases z) (by simp) (λj jZ g=>?_) (λjZ b=>by obtain⟨k,_,rfl⟩:=gV.1 b;rfl) (by omega) (by omega) (λU m=>by cases m;exact⟨o,λa _=>p a⟩) ⟨au (Z 0 (by omega)),λa _=>p a⟩ λR rs b b b J=>?_
  .cases m;have h:j<6:=by simpa using(lg.1 g).1
   rw[Ib y h]at g;cases g;rw[ey,bK];exact f j h
  .have h:j<n*6:=by simpa using(lg.1 g).1
   rw[Z j h];simp[h]at g;rw[g]
  .rw[<-C,g2];subst J;have b:HB w.heap.size Q:=λa wr z=>hB a wr (by have:=S.sz;omega);have a:=S.sat.R0 b ((Tg y++(List.range (n*6)).map λk=>i6 (L (k / 6) (k % 6))).toArray++rs) 51;refine K w.heap.size R _ _ (by simp) (by simp) (λi hi=>⟨w.heap.size,0,rfl,λj g=>?_⟩) (by rw[Nat.add_comm];exact S.env.put hd) (put_defers _ _ _);have h3:=a.val 0 _ rfl (i*6+j,0) ⟨by show i*6+j<Array.size _;simp;omega,aD⟩;simp only[aH.get,lm,ey,jI,bK]at h3;rw[bK];refine h3.trans (cT some ?_);rw[ve (by simp;omega)];show((Tg y++(List.range (n*6)).map λk=>i6 (L (k / 6) (k % 6))).toArray[i*6+j]?).getD undef=_;simp only[Hz];unfold RO;by_cases e:i=0
   .subst e;rw[ah rfl,nO (by simp;omega),Nat.zero_mul,bK,Ib y g];rfl
   .rw[af e,vf (by simp;omega)];have a:i*6+j-(Tg y).length=(i-1)*6+j:=by simp;omega
    rw[a];have c:(i-1)*6+j<n*6:=by omega
    have b:((i-1)*6+j) / 6=i-1:=by omega
    have a:((i-1)*6+j) % 6=j:=by omega
    simp[c,b,a]
theorem Ds.old(H:Ds wI s0 n L sa m g)(c:Old wI w):Ds w s0 n L sa m g:=
 have b:wI.heap.size<=w.heap.size:=c.2.2.2.1
 ⟨IJ H.hL c,λp a=>ga (H.bL p a) b,JA H.hC c,λp a=>ga (H.bC p a) b,λi d e p a=>ga (H.bT i d e p a) b,ga H.i0 b,c.cell _ _ H.hg⟩
abbrev SY(o:Nat)(ou:Nat->Se)(os:p9)(oc:bU)(m:Nat):aH:=fR ⟨o,0,none⟩ 4 (λj=>[i6 (ou j).a,i6 (ou j).b.k,i6 (ou j).b.n,.slice (os j) (ou j).b.ch.length (oc j)]) m false
theorem Zt{o:Nat}{a:Nat->Se}{g:yX}(h:Sat Q w C)(q:Has C (nv (some ⟨o,0,none⟩) a g m))(n:∀j,j<m->fu C (g j) (a j).b.ch):
 ∃os l,Sat Q w (SY o a os l m::C)/\∀j,j<m->0<(a j).b.ch.length->∃b,os j=some b/\Has C (gQ b (a j).b.ch):=by
 have d:∀j,∃p:Option Addr×Nat,j<m->g j=.slice p.1 (a j).b.ch.length p.2/\(0<(a j).b.ch.length->∃b,p.1=some b/\Has C (gQ b (a j).b.ch)):=λj=>by
  by_cases c:j<m
  .rcases n j c with ⟨k,f⟩|⟨b,cap,i,k,f⟩
   .exact⟨(none,0),λ_=>⟨by rw[k,f];rfl,λz=>by rw[f]at z;cases z⟩⟩
   .exact⟨(some b,cap),λ_=>⟨k,λ_=>⟨b,rfl,rfl,i,f⟩⟩⟩
  .exact⟨(none,0),λz=>absurd z c⟩
 refine⟨λj=>(d j).choose.1,λj=>(d j).choose.2,?_,λj c=>((d j).choose_spec c).2⟩;refine(h.get q).G7 0 rfl (SY o a _ _ m) (λj c=>⟨c,rfl,?_⟩) (λz=>by cases z) rfl;have e:=((d j.1).choose_spec c.1).1;show List.getD [i6 (a j.1).a,i6 (a j.1).b.k,i6 (a j.1).b.n,.slice (d j.1).choose.1 (a j.1).b.ch.length (d j.1).choose.2] j.2 undef=(yL (a j.1,g j.1)).getD j.2 undef;rw[<-e];rfl
theorem zo{fn:Func}{c:eC}{v:ay}(e:b.kind=.normal)(f:P.inits.idxOf? b.fn=none)(i:a.defers=[])(g:P.funcs[b.fn]? =some fn)(d:(results fn a.tmps).run P w=.ok v w)(h:(results fn a.tmps).events P w #[]=#[]):
 stepG P true (G {b.at a c with mode:=.returning} []) w=.ended (.done v) w #[]:=by
 simp[G,stepG,unwind,doReturn,Frame.at,e,i,g,d,h,f,seen,GStep.after]
theorem HQ:prog.inits.idxOf? 14=none:=by kernel_rfl
theorem MD(F:aB prog true (DX (cP wI.heap.size l [])) (nM prog Post (Old wI) (jq l) ng))(e:U.kind=.normal)(b:U.fn=14){k:eC}(g:a.defers=[])(i:aR [(4,.bool true)] N a)(h:∀I,Old wI I->Post (.bool true) I):nM prog Post (Old wI) (jq l) ng (G (U.at a (.code .ret::k)) []) w:=by
 have b:∀t:List Item,nM prog Post (Old wI) (jq l) ng (G {U.at a t with mode:=.returning} []) w:=λt=>by
  have f:a.tmps.getD 4 undef=.bool true:=by rw[oK,i.val 4 (.bool true) rfl];rfl
  have c:=resultsC_tmp (P:=prog) (fn:=f14) (t:=4) (by rfl) a.tmps;rw[f]at c;refine At.Rv (v:=.bool true) (es:=#[]) rfl (λd=>?_) (by simp) (λd a=>h _ a) gN;exact zo e (by simp_all) g (by simp_all) (c _).1 (c _).2
 exact F.ctl (λ_=>stepG_ret') (b _)
theorem Eu(F:aB prog u (DX Q) H)(n:HB B Q){U:aC}(a:U.kind=.normal){g:Nat->Cl}{jJ ta ca:Addr}{i q C cap m s len cc:Nat}{oa ok on:Int}{ch:Nat->iN}{R:aW}(hm:m<=9)(v:s<=12)(x:i<m)(c:0<len)(l:∀j,j<s->1<=(g i).T j 0/\(g i).T j 0<=4)(Y:(g i).ta=some ta)(X:(g i).nt=s)(W:∃p,p<s/\(g i).T p 0=4/\(g i).T p 1=(ch 0).n):
 ∀(r j:Nat)(f:Bool)(T:Act)(w:aj)(k:Nat),j+r=s->(∀p,p<j->(g i).T p 0=4->(g i).T p 1=(ch 0).n->f=true)->T.defers=[]->B<=k->w.heap.size=k->
   St Q k 121 [(12,i6 j),(11,.bool f),(10,ptr C),(9,i6 i),(6,ptr q),(1,.slice (some jJ) m cap)] (bR C [i6 oa,i6 ok,i6 on,.slice (some ca) len cc]::fR ta 3 (λj=>[i6 ((g i).T j 0),i6 ((g i).T j 1),i6 ((g i).T j 2)]) s false::Yt (some jJ) m g::fR ca 3 (λj=>qg (ch j)) len false::R) 0 T w->
   (∀o I,w.heap.size<=I.heap.size->o.defers=[]->aR [(9,i6 ((i+1:Nat):Int)),(6,ptr q),(1,.slice (some jJ) m cap)] 121 o->Sat Q I R->H (G (U.at o (pc prog 14 45 [false] [])) []) I)->H (G (U.at T (pc prog 14 136 [false,true,false,false,true] [])) []) w
 |0,j,f,T,w,k,hj,hf,A,hle,P9,S0,K=>by
  have B:decide ((j:Int)<((g i).nt:Int))=false:=by simp;omega
  have hwi:wp i=((i+1:Nat):Int):=j6;let⟨p,Z,L,J⟩:=W;have ef:=hf p (by omega) L J;subst ef;refine TP F n a A S0 28 [2,i,1,101] 82 [] [(9,i6 (wp i)),(6,ptr q),(1,.slice (some jJ) m cap)] 164 146 [] [] [(decide ((↑j:Int)<(↑(g i).nt:Int)),false)] [((↑i:Int),m)] [(1,(i,m))] λa1 w1 D z zS Dx o9=>?_;rw[hwi]at D;rw[show pc prog 14 164 (Bo 146) []=pc prog 14 45 [false] [] by kernel_rfl];exact K a1 w1 (by omega) z D.env D.sat.tail.tail.tail.tail
 |r+1,j,f,T,w,k,hj,hf,A,hle,P9,S0,K=>by
  refine TP F n a A S0 24 [2,i,1,101,2,i,1,101] 106 [] [(100,i6 j),(99,.slice (g i).ta (g i).nt (g i).tc),(12,i6 j),(11,.bool f),(10,ptr C),(9,i6 i),(6,ptr q),(1,.slice (some jJ) m cap)] 160 114 [] [] [(decide ((↑j:Int)<(↑(g i).nt:Int)),true)] [((↑i:Int),m),((↑i:Int),m)] [(2,(i,m))] λa1 w1 D z zS Dx o9=>?_;rw[Y,X]at D;refine aX (λM=>bR (k) [i6 ((g i).T j 0),i6 ((g i).T j 1),i6 ((g i).T j 2)]::(M)) 1 F n a z D 5 [1,j,0,103,0,0,0,3] 6 [] [(13,ptr k),(12,i6 j),(11,.bool f),(10,ptr C),(9,i6 i),(6,ptr q),(1,.slice (some jJ) m cap)] 165 114 [] [] [] [((↑j:Int),s)] [(3,(j,s))] λs s V y s s s=>?_;have t:wp j=((j+1:Nat):Int):=j6;cases f with
  |true=>
   refine aq (λM=>M) 1 F n a y V 13 [] 2047 [13] [(12,i6 (wp j)),(11,.bool true),(10,ptr C),(9,i6 i),(6,ptr q),(1,.slice (some jJ) m cap)] 178 114 [13] λS E b d N O P=>?_;rw[t]at b;rw[show pc prog 14 178 (Bo 114) [13]=pc prog 14 136 [false,true,false,false,true] [] by kernel_rfl];exact Eu F n a hm v x c l Y X W r (j+1) true S E (k+1) (by omega) (λp Z L J=>rfl) d (by omega) (by omega) ⟨b.env,b.sat.tail,b.sz⟩ λo I z1=>K o I (by omega)
  |false=>
   have f:=l j (by omega);by_cases f:(g i).T j 0=4
   .rw[f]at V;refine aX (λM=>M) 1 F n a y V 13 [0,0,0,2,1,0,3,1,4,0,2,101] 402390869 [13] [(12,i6 (wp j)),(11,.bool ((g i).T j 1==(ch 0).n)),(10,ptr C),(9,i6 i),(6,ptr q),(1,.slice (some jJ) m cap)] 178 114 [13] [] [] [(0,len)] [(1,(0,len))] λS E b d N O P=>?_;rw[t]at b;rw[show pc prog 14 178 (Bo 114) [13]=pc prog 14 136 [false,true,false,false,true] [] by kernel_rfl];exact Eu F n a hm v x c l Y X W r (j+1) ((g i).T j 1==(ch 0).n) S E (k+1) (by omega) (λp Z L J=>by
     grind) d (by omega) (by omega) ⟨b.env,b.sat.tail,b.sz⟩ λo I z1=>K o I (by omega)
   .rcases(by omega:(g i).T j 0=1\/(g i).T j 0=2\/(g i).T j 0=3)with h|h|h
    all_goals
     rw[h]at V;refine aq (λM=>M) 1 F n a y V 13 [0,0,0,1] 89478485 [13] [(12,i6 (wp j)),(11,.bool false),(10,ptr C),(9,i6 i),(6,ptr q),(1,.slice (some jJ) m cap)] 178 114 [13] λS E b d N O P=>?_;rw[t]at b;rw[show pc prog 14 178 (Bo 114) [13]=pc prog 14 136 [false,true,false,false,true] [] by kernel_rfl];exact Eu F n a hm v x c l Y X W r (j+1) false S E (k+1) (by omega) (λp Z L J=>by
      by_cases e:p=j
      .subst e;omega
      .exact hf p (by omega) L J) d (by omega) (by omega) ⟨b.env,b.sat.tail,b.sz⟩ λo I z1=>K o I (by omega)
theorem Xk(F:aB prog u (DX Q) H)(s:HB B Q)(d:U.kind=.normal){X t:Addr}{i q v len M:Nat}{J on:Int}{ch:Nat->iN}{R:aW}(T:m<=9)(A:i<m)(w:1<=len/\len<=3)(L:(g i).nt<=12/\∀p,p<(g i).nt->1<=(g i).T p 0/\(g i).T p 0<=4)(V:(ch 0).k=6->∃p,p<(g i).nt/\(g i).T p 0=4/\(g i).T p 1=(ch 0).n)(C:Has R (Yt (some X) m g))(x:0<(g i).nt->∃a,(g i).ta=some a/\Has R (fR a 3 (λj=>[i6 ((g i).T j 0),i6 ((g i).T j 1),i6 ((g i).T j 2)]) (g i).nt false)){D:Act}{a:aj}{w:Nat}(e:D.defers=[])(y:B<=w)(B:a.heap.size=w)(E:St Q w 121 [(10,ptr v),(9,i6 i),(6,ptr q),(1,.slice (some X) m cap)] (bR v [i6 J,i6 2,i6 on,.slice (some t) len M]::fR t 3 (λj=>qg (ch j)) len false::R) 0 D a)(K:∀r I,a.heap.size<=I.heap.size->r.defers=[]->aR [(9,i6 ((i+1:Nat):Int)),(6,ptr q),(1,.slice (some X) m cap)] 121 r->Sat Q I R->H (G (U.at r (pc prog 14 45 [false] [])) []) I):H (G (U.at D (pc prog 14 69 [false,true] [])) []) a:=by
 have l:wp i=((i+1:Nat):Int):=j6;by_cases a:(ch 0).k=6
 .have O:((ch 0).k==6)=true:=by simp_all
  by_cases B:(ch 0).l=0
  .have N:((ch 0).l==0)=true:=by simp_all
   refine TP F s d e E 67 [0,0,1,1,0,0,1,1,0,0,1,1,0,0,3,1,0,0,3,1,0,0,1,1,0,0,3,1,1,0,0,101,0,0,3,1,1,0,1,101] 2016469071399485311 [] [(12,i6 0),(11,.bool false),(10,ptr v),(9,i6 i),(6,ptr q),(1,.slice (some X) m cap)] 136 50 [] [] [((ch 0).l==0,true),((ch 0).k==6,true),(decide ((↑len:Int)>3),false),(decide ((↑len:Int)<1),false)] [(0,len),(0,len)] [(2,(0,len))] λo f c b h k n=>?_;let⟨p,S,P,G⟩:=V a;let⟨B,V,a⟩:=x (by omega);have W:=(((c.sat.get C.cons.cons).get a.cons.cons.cons)).perm (M':=bR v [i6 J,i6 2,i6 on,.slice (some t) len M]::fR B 3 (λj=>[i6 ((g i).T j 0),i6 ((g i).T j 1),i6 ((g i).T j 2)]) (g i).nt false::Yt (some X) m g::fR t 3 (λj=>qg (ch j)) len false::R) (D2 (l₁:=[_,_]) (l₂:=[_])|>.append_right _);exact Eu F s d T L.1 A (by omega) L.2 V rfl ⟨p,S,P,G⟩ (g i).nt 0 false o f w (by omega) (λp a=>by omega) b y (by omega) ⟨(c.dB _ rfl).env,W,c.sz⟩ λr I z=>K r I (by omega)
  .have N:((ch 0).l==0)=false:=by simp_all
   refine TP F s d e E 64 [0,0,1,1,0,0,1,1,0,0,1,1,0,0,3,1,0,0,3,1,0,0,1,1,0,0,3,1,1,0,0,101,0,0,3,1,1,0,1,101] 1440008319096061823 [] [(9,i6 (wp i)),(6,ptr q),(1,.slice (some X) m cap)] 133 34 [] [] [((ch 0).l==0,false),((ch 0).k==6,true),(decide ((↑len:Int)>3),false),(decide ((↑len:Int)<1),false)] [(0,len),(0,len)] [(2,(0,len))] λo f c b h k n=>?_;rw[l]at c;rw[show pc prog 14 133 (Bo 34) []=pc prog 14 45 [false] [] by kernel_rfl];exact K o f (by omega) b (c.dB _ rfl).env c.sat.tail.tail
 .have O:((ch 0).k==6)=false:=by simp_all
  refine TP F s d e E 64 [0,0,1,1,0,0,1,1,0,0,1,1,0,0,3,1,0,0,3,1,0,0,1,1,0,0,3,1,1,0,0,101] 384301234570657663 [] [(9,i6 (wp i)),(6,ptr q),(1,.slice (some X) m cap)] 133 34 [] [] [((ch 0).k==6,false),(decide ((↑len:Int)>3),false),(decide ((↑len:Int)<1),false)] [(0,len)] [(1,(0,len))] λo f c b h k n=>?_;rw[l]at c;rw[show pc prog 14 133 (Bo 34) []=pc prog 14 45 [false] [] by kernel_rfl];exact K o f (by omega) b (c.dB _ rfl).env c.sat.tail.tail
theorem Of(F:aB prog u (DX Q) H)(O:HB B Q){U:aC}(f:U.kind=.normal){sa Y:eP}{o q el X cap m:Nat}{b:Nat->Se}{os:p9}{D:bU}{g:Nat->Cl}(hm:m<=9)(J:0<m->∃a,sa=some a)(hg:∀j,j<m->(g j).nt<=12/\∀p,p<(g j).nt->1<=(g j).T p 0/\(g j).T p 0<=4)(L:∀j,j<m->((b j).b.k=1\/(b j).b.k=2)/\((b j).b.k=2->1<=(b j).b.ch.length/\(b j).b.ch.length<=3)/\∀x∈(b j).b.ch,x.k=6->∃p,p<(g j).nt/\(g j).T p 0=4/\(g j).T p 1=x.n):
 ∀(r i:Nat)(C:aW)(R:Act)(w:aj)(n:Nat),i+r=m->R.defers=[]->B<=n->w.heap.size=n->(∀j,j<m->0<(b j).b.ch.length->∃Z,os j=some Z/\Has C (gQ Z (b j).b.ch))->Has C (Yt sa m g)->(∀j,j<m->0<(g j).nt->∃a,(g j).ta=some a/\Has C (fR a 3 (λi=>[i6 ((g j).T i 0),i6 ((g j).T i 1),i6 ((g j).T i 2)]) (g j).nt false))->
   St Q n 121 [(9,i6 i),(6,ptr q),(1,.slice sa m cap)] (bR q [.slice (some ⟨o,0,none⟩) m m,.slice Y el X]::SY o b os D m::C) 0 R w->
   (∀A I,w.heap.size<=I.heap.size->A.defers=[]->aR [(4,.bool true)] 121 A->H (G (U.at A (pc prog 14 59 [false,false] [])) []) I)->H (G (U.at R (pc prog 14 45 [false] [])) []) w
 |0,i,C,R,w,n,hi,l,W,T,y,v,t,S,K=>by
  have g:decide ((i:Int)<(m:Int))=false:=by simp;omega
  refine TP F O f l S 14 [] 4 [] [(4,.bool true)] 59 4 [] [] [(decide ((↑i:Int)<(↑m:Int)),false)] [] [] λh c k d s E P=>K h c (by omega) d k.env
 |r+1,i,C,R,w,n,hi,l,W,T,y,v,t,S,K=>by
  have V:wp i=((i+1:Nat):Int):=j6;let⟨N,hl,h6⟩:=L i (by omega);obtain⟨jX,rfl⟩:=J (by omega);have jB:∀(h:Act)(c:aj),w.heap.size<=c.heap.size->h.defers=[]->aR [(9,i6 ((i+1:Nat):Int)),(6,ptr q),(1,.slice (some jX) m cap)] 121 h->Sat Q c (bR q [.slice (some ⟨o,0,none⟩) m m,.slice Y el X]::SY o b os D m::C)->H (G (U.at h (pc prog 14 45 [false] [])) []) c:=λh c w g x p=>Of F O f hm J hg L r (i+1) C h c c.heap.size (by omega) g (by omega) rfl y v t ⟨x,p,rfl⟩ λA I z=>K A I (by omega);rcases N with N|N
  .have p:((b i).b.k !=1)=false:=by simp_all
   have p:((b i).b.k==2)=false:=by simp_all
   refine aX (λM=>bR (n) [i6 (b i).a,i6 (b i).b.k,i6 (b i).b.n,.slice (os i) (List.length (b i).b.ch) (D i)]::(M)) 1 F O f l S 88 [0,0,0,1,1,i,0,104,0,0,0,4,0,0,1,1,0,0,1,1,0,0,1,1] 6004799436047690 [] [(9,i6 (wp i)),(6,ptr q),(1,.slice (some jX) m cap)] 133 34 [] [2] [((b i).b.k==2,false),((b i).b.k !=1,false),(decide ((↑i:Int)<(↑m:Int)),true)] [((↑i:Int),m)] [(4,(i,m))] λh c k d s E P=>?_;rw[V]at k;rw[show pc prog 14 133 (Bo 34) []=pc prog 14 45 [false] [] by kernel_rfl];exact jB h c (by omega) d (k.dB _ rfl).env k.sat.tail
  .have p:=hl N;let⟨Z,e,r⟩:=y i (by omega) (by omega);refine aX (λM=>bR (n) [i6 (b i).a,i6 (b i).b.k,i6 (b i).b.n,.slice (os i) (List.length (b i).b.ch) (D i)]::(M)) 1 F O f l S 24 [0,0,0,1,1,i,0,104,0,0,0,4] 26 [] [(10,ptr n),(9,i6 i),(6,ptr q),(1,.slice (some jX) m cap)] 69 6 [] [] [(decide ((↑i:Int)<(↑m:Int)),true)] [((↑i:Int),m)] [(4,(i,m))] λh c k d s E P=>?_;rw[e,N]at k;have c:=(k.sat.get r.cons.cons.cons).perm (.swap ..);refine Xk (ch:=λj=>(b i).b.ch.getD j ⟨0,0,0⟩) (R:=bR q [.slice (some ⟨o,0,none⟩) m m,.slice Y el X]::SY o b os D m::C) F O f hm (by omega) p (hg i (by omega)) (λz=>h6 _ ?_ z) v.cons.cons (λz=>by let⟨a,w,g⟩:=t i (by omega) z;exact⟨a,w,g.cons.cons⟩) d (by omega) s ⟨k.env,c,k.sz⟩ λA I z=>jB A I (by omega);grind
def gdY(j:Nat):Int:=match j with|0=>2|_=>0
theorem E4(H:Ds wI s0 n L sa m g)(hn:0<n)(S:L 0 0=2)(e:U.kind=.normal)(P:U.fn=14){T:Act}(tN:T.defers=[])(hA:aR [(17,.slice s0 n c0),(1,.slice sa m cap)] 121 T)(hP:∀I,Old wI I->Post (.bool true) I):nM prog Post (Old wI) (jq []) 1 (G (U.at T (pc prog 14 10 [] [])) []) wI:=by
 have F:=nA (P:=prog) (Post:=Post) (wI:=wI) (l:=[]) 1;have i:∀(a:Addr)(wr:Bool),wI.heap.size<=a.block->cP wI.heap.size [] [] a wr:=λa wr z=>iX (λx J=>by cases J) (az _) z wr;have hS:Sat (cP wI.heap.size [] []) wI []:=lD λr X=>by cases X
 have G:St (cP wI.heap.size [] []) wI.heap.size 121 _ [] 0 T wI:=⟨hA,hS,rfl⟩;refine Rb F i e tN G 6 [] 1 [] [(20,.slice sa m cap),(19,.slice s0 n c0),(1,.slice sa m cap)] 16 1 [] λG f S1 N G G G=>Af F e 21 19 #[.slice s0 n c0,.slice sa m cap] (by kernel_rfl) (by kernel_rfl) (by decide) S1 λG O=>At.assume gN λA=>At.keep (K':=Old f) (λd=>Iw f) ?_;have d:=H.old A;refine ES (wI:=f) d (λh=>Rr (zl h) (Vz hn S) (aac _)) (λk l b d v y=>?_) λhck Lf B k l o ea ec h C b d v y d hC d Y mQ K=>?_
 .refine O _ _ _ λa2 D c=>?_;clear F i;have F:=nA (P:=prog) (Post:=Post) (wI:=f) (l:=k) l;have t:f.heap.size<=b.heap.size:=y.2.2.2.1;have i:∀(a:Addr)(wr:Bool),b.heap.size<=a.block->cP f.heap.size k [] a wr:=λa wr z=>iX (N:=b.heap.size) (λx J=>(v x J).2) t z wr;have T0:Sat (cP f.heap.size k []) b []:=lD λr X=>by cases X
  have E:St (cP f.heap.size k []) b.heap.size 121 [(21,.tuple #[.agg #[.slice none 0 0,.slice none 0 0],.bool false,.bool true])] [] 0 a2 b:=⟨D.sub (by intro p u;simp only[ak,bH,or_false]at u;subst u;rfl),T0,rfl⟩;have q:b.heap.size=b.heap.size:=rfl;replace c:=c.trans N;generalize hB2:b.heap.size=R at E q i;refine aq (λM=>bR (R) [.slice none 0 0,.slice none 0 0]::(M)) 1 F i e c E 25 [0,0,0,2] 127 [] [(4,.bool true)] 42 3 [] λa3 w3 Q w V W mH=>MD F e P w Q.env λI s=>hP I (Fg A s)
 .refine O _ _ _ λa2 D c=>?_;clear F i;have F:=nA (P:=prog) (Post:=Post) (wI:=f) (l:=k) l;have t:f.heap.size<=b.heap.size:=y.2.2.2.1;have i:∀(a:Addr)(wr:Bool),b.heap.size<=a.block->cP f.heap.size k [] a wr:=λa wr z=>iX (N:=b.heap.size) (λx J=>(v x J).2) t z wr;let⟨os,d,S,Z⟩:=Zt hC Y mQ;have E:St (cP f.heap.size k []) b.heap.size 121 [(21,.tuple #[.agg #[.slice (some ⟨o,0,none⟩) m m,.slice ea Lf.el ec],.bool true,.bool true]),(1,.slice sa m cap)] (SY o Lf.ou os d m::C) 0 a2 b:=⟨D.sub (by intro p u;simp only[ak,bH,or_false]at u;rcases u with rfl|rfl<;>rfl),S,rfl⟩;have q:b.heap.size=b.heap.size:=rfl;replace c:=c.trans N;generalize hB2:b.heap.size=R at E q i;generalize Ty:Lf.el=el at E;refine aq (λM=>bR (R) [.slice (some ⟨o,0,none⟩) m m,.slice ea el ec]::(M)) 1 F i e c E 28 [0,0,0,2] 85 [] [(9,i6 0),(6,ptr R),(1,.slice sa m cap)] 45 2 [] λa3 w3 Q w V W mH=>?_;have d:=zl hck;refine Of F i e (g:=g) (m:=m) d.nc (λz=>by let⟨a,h,_⟩:=H.q2 z;simp_all) (λj b=>⟨d.nt j b,λp u=>(d.tr j b p u).1⟩) (λj b=>?_) m 0 C a3 w3 (R+1) (by omega) w (by omega) (by omega) Z (K _ (aP _ (aP _ (bI ..)))) (λj b z=>?_) ⟨Q.env,Q.sat,Q.sz⟩ λf I h f k=>MD F e P f k λI s=>hP I (Fg A s)
  .have e:=B.1.ou j b (B.2.2 j (ga b B.2.1));refine⟨?_,λz=>?_,e.2.2.2⟩
   .rcases e.1 with z|z|z
    .exact .inl z
    .exact .inr z
    .exact absurd (e.2.1 z).1 (Ap 0)
   .have:=e.2.2.1 z;have S:Uk (nC n L m g) 0<=2:=aT (Nat.sub_le _ _) d.r2;omega
  .let⟨a,h,f⟩:=H.q3 j b z;exact⟨a,h,K _ (mq.1 f).2⟩
theorem Cf(H:Ds wI s0 n L sa m g)(c:n<=2932031007317)(l:∀I,Old wI I->Post (.bool true) I):nM prog Post (Old wI) (jq []) 1 (G (Frame.enter prog 14 #[.slice s0 n c0,.slice sa m cap] .normal) []) wI:=by
 have F:=nA (P:=prog) (Post:=Post) (wI:=wI) (l:=[]) 1;have j:∀(a:Addr)(wr:Bool),wI.heap.size<=a.block->cP wI.heap.size [] [] a wr:=λa wr z=>iX (λx b=>by cases b) (az _) z wr;have h:Sat (cP wI.heap.size [] []) wI []:=lD λr f=>by cases f
 refine cJ func14 h 121 λU b B1 b b h f i g=>aq (λM=>bR (B1) [i6 2,i6 0,i6 0,i6 0,i6 0,i6 0]::(M)) 1 F j b f i 9 [] 1 [] [(16,.slice s0 n c0),(15,.slice (some ⟨B1,0,none⟩) 1 1),(1,.slice sa m cap)] 9 1 [] λf f i g f f f=>At.assume gN λf=>ZA F j b 15 16 17 (y:=gdY) (by kernel_rfl) (by kernel_rfl) (by decide) rfl rfl c (IJ H.hL f) (by omega) ⟨i.env,i.sat,i.sz⟩ (λa=>jN (by simp)) λk m a c a a i j f=>At.assume gN λa=>At.keep (K':=Old c) (λd=>Iw c) ?_;have c:=H.old a;refine E4 (c0:=m) (cap:=cap) (L:=RO gdY L) (s0:=some ⟨k,0,none⟩) ⟨i,λp e=>by grind,c.hC,c.bC,c.bT,c.i0,c.hg⟩ (Nat.succ_pos _) rfl b h (f.trans g) (j.sub ?_) λI b=>l I (Fg a b);intro p e;simp only[ak,bH,or_false]at e;rcases e with rfl|rfl<;>rfl
end Go.Proofs.YtobagnjnbmgidaaGreatDoor
