import Derived.Test.YtobagnjnbmgidaaGreatDoorB2
set_option linter.all false
set_option maxHeartbeats 0
set_option maxRecDepth 100000
namespace Go.Proofs.YtobagnjnbmgidaaGreatDoor
open Go.Conc Go.RowKit Tryz
variable{a:Act}{ca:Addr}{b:Bk}{e:rj}{E:Env}{L ch:List iF}{y:iF}{B' B1 N c cap cr hc hl i k m n t:Nat}{r:aJ}{C C' M:aX}{w w':aj}{bb cf:aE}{h:ay}{dH:ru}{dU:cm}{cs:cW}{ho sL sa:eN}
variable{main:Bool}{B:Nat}{Ok:dw}{Ψ:gi}{V:Ev0}
def nP(B:Nat)(C:aX)(h:ay)(L:List iF):Prop:=(h=.slice none 0 0/\L=[])\/∃ca cap i,h=.slice (some ca) L.length cap/\nth C i=some (gZ ca L)/\B<=ca.block/\L.length<=cap
def dY(C C':aX):Prop:=∀i r,nth C i=some r->∃j,nth C' j=some r
theorem dY.cA:dY C C:=λi r h=>⟨i,h⟩
theorem dY.trans{A D:aX}(h:dY A C)(d:dY C D):dY A D:=λi r z=>by obtain⟨j,z⟩:=h i r z;exact d j r z
theorem dY.cons(h:dY C C'):dY C (r::C'):=λi x z=>by obtain⟨j,z⟩:=h i x z;exact⟨j+1,z⟩
theorem nP.inc(H:nP B C h L)(d:dY C C'):nP B C' h L:=by
 rcases H with H|⟨ca,cap,i,l,g,f⟩
 .exact .inl H
 .obtain⟨j,hj⟩:=d i _ g;exact .inr ⟨ca,cap,j,l,hj,f⟩
theorem nP.Ul(H:nP B C h L)(A:aX):eY (A++C) h L:=by
 rcases H with H|⟨ca,cap,i,f,d,g⟩
 .exact .inl H
 .exact .inr ⟨ca,cap,A.length+i,f,by rw[bV,af (by omega),EL];exact d⟩
theorem CL(F:aC prog main (DX Ok) Ψ)(hB:HB B Ok){bb:aE}(g:bb.kind=.normal){cs:cW}{M:aX}{U T S:ay}{gm b1 b2 t k:Nat}{y:ko}{n:Int}(Y:n<=9)(hc:1<=y.c/\y.c<=9)(Q:0<=y.d/\y.d<=10000){B1:Nat}(O:B<=B1):
 ∀(m:Nat)(i p:Int),i+m=n->1<=i->0<=p->p<=100000->∀(x:Act)(w:aj),x.defers=[]->w.heap.size=B1->St Ok B1 130 [(15,i6 i),(14,i6 p),(12,i6 n),(8,ptr b1),(0,ptr gm),(1,i6 t),(2,i6 k)] (bR b2 [U,T,S]::bR b1 (qR y)::M) 0 x w->
   (∀a' w',a'.defers=[]->w'.heap.size=B1->St Ok B1 130 [(14,i6 (dF y.c y.d m p)),(12,i6 n),(8,ptr b1),(0,ptr gm),(1,i6 t),(2,i6 k)] (bR b2 [U,T,S]::bR b1 (qR y)::M) 0 a' w'->Ψ (G (bb.at a' (pc prog 116 86 [false,false,false] [])) cs) w')->
   Ψ (G (bb.at x (pc prog 116 69 [false,false] [])) cs) w
 |0,i,p,Z,P,X,J,x,w,f,D,A,K=>by
  have h1:decide (i<n)=false:=by simp;omega
  refine bA F hB g f A 17 [] [0,1,1,1,1] [] [(14,i6 p),(12,i6 n),(8,ptr b1),(0,ptr gm),(1,i6 t),(2,i6 k)] (λM=>M) 0 86 [false,false,false] [] [(decide (i<n),false)] [] [] λv l j d o q u=>?_
  exact K v l d (by omega) j
 |m+1,i,p,Z,P,X,J,x,w,f,D,A,K=>by
  have h1:decide (i<n)=true:=by simp;omega
  have e:dF y.c y.d (m+1) p=if p<=y.d then dF y.c y.d m (p*y.c)else p:=rfl
  by_cases z:p<=y.d
  .have R:decide (p<=y.d)=true:=by simpa using z
   have s:0<=p*y.c:=rI X (by omega);have W:p*y.c<=10000*9:=xy (by omega) hc.2 (by omega) (by omega);have I:IntKind.wrap .i64 (i+1)=i+1:=aA (by omega) (by omega);have H:IntKind.wrap .i64 (p*y.c)=p*y.c:=aA (by omega) (by omega);refine bA F hB g f A 31 [1,0,4,1,1,0,3,1] [2,3,3,3,2] [] [(15,i6 (IntKind.wrap .i64 (i+1))),(14,i6 (IntKind.wrap .i64 (p*y.c))),(12,i6 n),(8,ptr b1),(0,ptr gm),(1,i6 t),(2,i6 k)] (λM=>M) 0 69 [false,false] [] [(decide (p<=y.d),true),(decide (i<n),true)] [] [] λv l j d o q u=>?_
   rw[I,H]at j;rw[e,ah z]at K;exact CL F hB g Y hc Q O m (i+1) (p*y.c) (by omega) (by omega) s (by omega) v l d (by omega) j K
  .have R:decide (p<=y.d)=false:=by simpa using z
   refine bA F hB g f A 17 [1,0,4,1] [2,3,3,3,0] [] [(14,i6 p),(12,i6 n),(8,ptr b1),(0,ptr gm),(1,i6 t),(2,i6 k)] (λM=>M) 0 86 [false,false,false] [] [(decide (p<=y.d),false),(decide (i<n),true)] [] [] λv l j d o q u=>?_
   rw[e,af z]at K;exact K v l d (by omega) j
theorem KN(F:aC prog main (DX Ok) Ψ)(hB:HB B Ok){s:RS}{tg:Addr}{y:ko}(hS:Sat Ok w (mR s++C))(hv:RV Ok s)(gp:B<=w.heap.size)(N8:s.ta=some tg)(ht:t<s.l.tl)(hk:k<6)(gI:nP B C (.slice ho hl hc) b.ch)(hlen:b.ch.length<1000000)(uf:b.k=2->b.ch≠[])(Ar:s.l.el<1000000000)(JI:s.l.wl<1000000000)(qW:s.l.al<1000000000)(hx:(s.l.tk t).x=false)(SC:0<=s.l.now/\s.l.now<1000000000000)(hy:(1<=y.a/\y.a<=9)/\(0<=y.b/\y.b<=1000)/\(1<=y.c/\y.c<=9)/\(0<=y.d/\y.d<=10000))(ha:1<=(s.l.tk t).a k/\(s.l.tk t).a k<=y.a)(K:∀zq sP w' C',fT Ok B Ψ cf cs zq sP->dY C C'->w.heap.size<=w'.heap.size->
 ((b.k≠2\/cC b 2=true\/cC b 5=true)->Sat Ok w' (mR s++C')->Ψ (G (Frame.enter prog 83 #[ptr s.gm,i6 t,i6 k,lu b (.slice ho hl hc)] .normal) (zq::sP)) w')/\
 (¬(b.k≠2\/cC b 2=true\/cC b 5=true)->(s.l.tk t).a k=y.a->∀g' cap' vs' ca cap,Sat Ok w' (mR (s.dR g' cap' vs' (s.l.say t k 4 0))++C')->RV Ok (s.dR g' cap' vs' (s.l.say t k 4 0))->nP B C' (.slice (some ca) (b.ch.length+1) cap) (⟨7,k,0⟩::b.ch)->Ψ (G (Frame.enter prog 83 #[ptr s.gm,i6 t,i6 k,lu ⟨2,0,⟨7,k,0⟩::b.ch⟩ (.slice (some ca) (b.ch.length+1) cap)] .normal) (zq::sP)) w')/\
 (¬(b.k≠2\/cC b 2=true\/cC b 5=true)->(s.l.tk t).a k≠y.a->¬0<aH y ((s.l.tk t).a k)->∀g' cap' vs',Sat Ok w' (mR (RS.lD (s.dR g' cap' vs' (s.l.say t k 3 (aH y ((s.l.tk t).a k)))) t k ((s.l.tk t).a k+1))++C')->RV Ok (RS.lD (s.dR g' cap' vs' (s.l.say t k 3 (aH y ((s.l.tk t).a k)))) t k ((s.l.tk t).a k+1))->Ψ (G (Frame.enter prog 58 #[ptr s.gm,i6 t,i6 (k+1:Nat)] .normal) (zq::sP)) w'))(K2:¬(b.k≠2\/cC b 2=true\/cC b 5=true)->(s.l.tk t).a k≠y.a->0<aH y ((s.l.tk t).a k)->∀C' w' g' cap' vs' g2 c2 v2 g3 c3 v3,dY C C'->w.heap.size<=w'.heap.size->Sat Ok w' (mR (RS.mK (RS.cY (RS.lD (s.dR g' cap' vs' (s.l.say t k 3 (aH y ((s.l.tk t).a k)))) t k ((s.l.tk t).a k+1)) g2 c2 v2 t k) g3 c3 v3 (((s.l.say t k 3 (aH y ((s.l.tk t).a k))).lD t k ((s.l.tk t).a k+1)).wait t k (aH y ((s.l.tk t).a k))))++C')->RV Ok (RS.mK (RS.cY (RS.lD (s.dR g' cap' vs' (s.l.say t k 3 (aH y ((s.l.tk t).a k)))) t k ((s.l.tk t).a k+1)) g2 c2 v2 t k) g3 c3 v3 (((s.l.say t k 3 (aH y ((s.l.tk t).a k))).lD t k ((s.l.tk t).a k+1)).wait t k (aH y ((s.l.tk t).a k))))->Ψ (G (cf.finish (.tuple #[])) cs) w'):
 Ψ (G (Frame.enter prog 116 #[ptr s.gm,i6 t,i6 k,.agg (qR y).toArray,lu b (.slice ho hl hc)] .normal) (cf::cs)) w:=by
 obtain⟨s,rfl⟩:=RS.jI N8;replace ht:t<s.l.tl:=ht;replace Ar:s.l.el<1000000000:=Ar;replace JI:s.l.wl<1000000000:=JI;replace qW:s.l.al<1000000000:=qW;replace hx:(s.l.tk t).x=false:=hx;replace SC:0<=s.l.now/\s.l.now<1000000000000:=SC;replace ha:1<=(s.l.tk t).a k/\(s.l.tk t).a k<=y.a:=ha;refine dg f116 func116 _ rfl 130 (by kernel_rfl) hS λbb a0 B1 hn d iK jf S0 iI=>?_
 refine aq F hB d jf S0 8 [0,0,0,3] [] [] [(16,.agg #[i6 b.k,i6 b.n,.slice ho hl hc]),(9,ptr (B1+1)),(8,ptr B1),(0,ptr s.gm),(1,i6 t),(2,i6 k)] (λM=>bR (B1+1) [i6 b.k,i6 b.n,.slice ho hl hc]::(bR (B1) [i6 y.k,i6 y.a,i6 y.b,i6 y.c,i6 y.d,i6 y.e]::(M))) 2 8 [] [] λa1 w1 S1 kJ iH jA dS=>?_
 refine bK F d kJ S1 17 124 #[.agg #[i6 b.k,i6 b.n,.slice ho hl hc],i6 2] λgJ DJ=>?_
 have Ew:=gI.Ul (bR (B1+1) [i6 b.k,i6 b.n,.slice ho hl hc]::bR B1 (qR y)::mR {s with ta:=some tg});refine L8 F hB S1.sat Ew (by omega) (by omega) λw2 h2 je=>DJ _ _ _ h2 λa2 B2 S2 jQ fV=>?_
 refine aq F hB d jQ S2 5 [0,0,0,3] [] [] [(18,.agg #[i6 b.k,i6 b.n,.slice ho hl hc]),(10,.bool (cC b 2)),(9,ptr (B1+1)),(8,ptr B1),(0,ptr s.gm),(1,i6 t),(2,i6 k)] (λM=>M) 0 14 [] [] λa3 w3 S3 jF gQ ji dX=>?_
 refine bK F d jF S3 19 124 #[.agg #[i6 b.k,i6 b.n,.slice ho hl hc],i6 5] λlq Au=>?_
 refine L8 F hB S3.sat Ew (by omega) (by omega) λw4 h4 oB=>Au _ _ _ h4 λa4 B4 S4 oD jP=>?_
 by_cases hq:b.k≠2\/cC b 2=true\/cC b 5=true
 .have J:∀a5 Q,a5.defers=[]->Q.heap.size=B4+0->w4.heap.size<=Q.heap.size->St Ok B4 130 [(32,.agg #[i6 b.k,i6 b.n,.slice ho hl hc]),(31,i6 k),(30,i6 t),(29,ptr s.gm)] (bR (B1+1) [i6 b.k,i6 b.n,.slice ho hl hc]::bR B1 (qR y)::(mR {s with ta:=some tg}++C)) 0 a5 Q->Ψ (G (bb.at a5 (pc prog 116 37 [true] [])) (cf::cs)) Q:=by
   intro a5 Q o x D S5;refine bK F d o S5 33 83 #[ptr s.gm,i6 t,i6 k,.agg #[i6 b.k,i6 b.n,.slice ho hl hc]] λEB XV=>?_
   refine(K EB _ Q _ (λw6 M h6 hb6 hz=>XV _ _ _ h6 λa6 B6 S6 nB oS=>?_) (dY.cA.cons.cons) (by omega)).1 hq (Sat.back (A:=mR {s with ta:=some tg}) (Sat.back (A:=bR (B1+1) [i6 b.k,i6 b.n,.slice ho hl hc]::mR {s with ta:=some tg}) (S5.sat.perm (.swap ..))));refine aq F hB d nB S6 1 [] [] [] [] (λM=>M) 0 39 [true] [] λa7 w7 S7 W oA oT tu=>?_
   refine cV F S7 d iK W [] (.tuple #[]) ?_;exact hz w7 S7.sat oT
  by_cases T:b.k=2
  .by_cases Ih:cC b 2=true
   .refine bA F hB d oD S4 22 [0,0,0,1,0,0,0,3] [0,2,3] [] [(32,.agg #[i6 b.k,i6 b.n,.slice ho hl hc]),(31,i6 k),(30,i6 t),(29,ptr s.gm)] (λM=>M) 0 37 [true] [] [(cC b 2,true),(b.k !=2,false)] [] [] λa5 Q S5 o x D jv=>?_
    exact J a5 Q o x D S5
   .have Su:cC b 5=true:=by
     rcases hq with z|z|z
     .exact absurd T z
     .exact absurd z Ih
     .exact z
    have aaj:cC b 2=false:=by simpa using Ih
    refine bA F hB d oD S4 22 [0,0,0,1,0,0,0,3] [0,0,2] [] [(32,.agg #[i6 b.k,i6 b.n,.slice ho hl hc]),(31,i6 k),(30,i6 t),(29,ptr s.gm)] (λM=>M) 0 37 [true] [] [(cC b 5,true),(cC b 2,false),(b.k !=2,false)] [] [] λa5 Q S5 o x D jv=>?_
    exact J a5 Q o x D S5
  .have aak:(b.k !=2)=true:=by simpa using T
   refine bA F hB d oD S4 22 [0,0,0,1,0,0,0,3] [2,3,3] [] [(32,.agg #[i6 b.k,i6 b.n,.slice ho hl hc]),(31,i6 k),(30,i6 t),(29,ptr s.gm)] (λM=>M) 0 37 [true] [] [(b.k !=2,true)] [] [] λa5 Q S5 o x D jv=>?_
   exact J a5 Q o x D S5
 .have T:b.k=2:=MP λz=>hq (.inl z)
  have Ih:cC b 2=false:=by
   cases z:cC b 2 with
   |false=>rfl
   |true=>exact absurd (.inr (.inl z)) hq
  have Su:cC b 5=false:=by
   cases z:cC b 5 with
   |false=>rfl
   |true=>exact absurd (.inr (.inr z)) hq
  refine bA F hB d oD S4 13 [0,0,0,1] [0,0] [] [(27,.bool (cC b 5)),(26,.bool false),(9,ptr (B1+1)),(8,ptr B1),(0,ptr s.gm),(1,i6 t),(2,i6 k)] (λM=>M) 0 28 [] [] [(cC b 2,false),(b.k !=2,false)] [] [] λa5 Q S5 o x D jv=>?_
  have U:k=0\/k=1\/k=2\/k=3\/k=4\/k=5:=by omega
  refine KA F aB hB (by omega) d o 26 [(2,(0,4),true),(5,(t,7+k),false),(1,(0,1),true)] [(false,false),(true,false),(true,true)] [] [(47,.bool ((s.l.tk t).a k==y.a)),(12,i6 ((s.l.tk t).a k)),(9,ptr (B1+1)),(8,ptr B1),(0,ptr s.gm),(1,i6 t),(2,i6 k)] (λM=>M) 0 54 [false] [] [(cC b 5,false)] [((↑t:Int),s.l.tl)] [(t,s.l.tl)] (by rcases U with rfl|rfl|rfl|rfl|rfl|rfl<;>kernel_rfl) (by rcases U with rfl|rfl|rfl|rfl|rfl|rfl<;>kernel_rfl) (nO (by assumption) cg) (nO (by dsimp only;omega) cg) (nO (by dsimp only;omega) cg) S5 λa6 w6 S6 nB oS yw Qy=>?_
  by_cases Z:(s.l.tk t).a k=y.a
  .have X6:((s.l.tk t).a k==y.a)=true:=by simpa using Z
   refine bA F hB d nB S6 6 [] [2] [] [(50,i6 k),(49,i6 t),(48,ptr s.gm),(9,ptr (B1+1)),(0,ptr s.gm),(1,i6 t),(2,i6 k)] (λM=>M) 0 60 [false,true] [] [((s.l.tk t).a k==y.a,true)] [] [] λa7 w7 S7 W oA oT tu=>?_
   refine bK F d W S7 51 82 #[ptr s.gm,i6 t,i6 k,i6 4,i6 0] λQC G3=>?_
   refine kS F hB (s:={s with ta:=some tg}) (Sat.back (A:=mR {s with ta:=some tg}) (Sat.back (A:=bR (B1+1) [i6 b.k,i6 b.n,.slice ho hl hc]::mR {s with ta:=some tg}) (S7.sat.perm (.swap ..)))) hv (by omega) Ar rfl ht λg' cap' vs' w8 h8 hv8 Em=>G3 _ _ _ h8 λa8 B8 S8 Et yt=>?_
   refine aq F hB d Et S8 13 [15,0,2,1] [] [] [(57,.slice ho hl hc),(55,.slice (some ⟨B8,0,none⟩) 1 1),(0,ptr s.gm),(1,i6 t),(2,i6 k)] (λM=>bR (B8) [i6 7,i6 k,i6 0]::(M)) 1 74 [false,true] [] λa9 w9 S9 H An DD TP=>?_
   obtain⟨ca,cap,i,e1,e2,e3,e4⟩:∃ca cap i,Value.slice ho hl hc=.slice (some ca) b.ch.length cap/\nth C i=some (gZ ca b.ch)/\B<=ca.block/\b.ch.length<=cap:=by
    rcases gI with ⟨_,z⟩|z
    .exact absurd z (uf T)
    .exact z
   cases e1
   refine Ut F hB d 55 57 58 (1+(14+(2+i))) (L0:=[⟨7,k,0⟩]) (by kernel_rfl) (by kernel_rfl) (by decide) rfl rfl ?_ (.inr ⟨B8,⟨7,k,0⟩,0,rfl,rfl,rfl⟩) (by omega) (λa z=>by cases z;show B<=B8;omega) (uf T) (by simp only[eG,gM];omega) e3 S9 λg2 c2 CN R Cg Aq v8 XZ Yz l=>?_
   .rw[show 1+(14+(2+i))=14+(2+i)+1 by omega]
    show nth (mR _++_) (14+(2+i))=_
    rw[bV,af (by show¬14+(2+i)<14;omega),show 14+(2+i)-(mR (RS.dR {s with ta:=some tg} g' cap' vs' (s.l.say t k 4 0))).length=i+1+1 by show 14+(2+i)-14=_;omega];exact e2
   rw[show jY (pc prog 116 74 [false,true] [])=pc prog 116 75 [false,true] [] by kernel_rfl];have zu:St Ok R.heap.size 130 _ _ 0 CN R:=⟨Yz,Cg,rfl⟩;have tY:R.heap.size=R.heap.size:=rfl;have Y:CN.defers=[]:=l.trans H;clear l;have l:=Y;clear Y;generalize aay:R.heap.size=Ib at zu tY v8;refine aq F hB d l zu 9 [] [] [] [(63,.agg #[i6 2,i6 0,.slice (some ⟨g2,0,none⟩) (List.length ([iF.mk 7 (↑k:Int) 0]++b.ch)) c2]),(61,i6 k),(60,i6 t),(59,ptr s.gm)] (λM=>M) 0 84 [false,true] [] λPF vp g P yu v7 O5=>?_
   refine bK F d P g 64 83 #[ptr s.gm,i6 t,i6 k,.agg #[i6 2,i6 0,.slice (some ⟨g2,0,none⟩) (List.length ([iF.mk 7 (↑k:Int) 0]++b.ch)) c2]] λYU Ti=>?_
   refine(K YU _ vp _ (λQU M TH aax hz=>Ti _ _ _ TH λPE B12 v u JG=>?_) (dY.cA.cons.cons.cons.cons) (by omega)).2.1 hq Z g' cap' vs' ⟨g2,0,none⟩ c2 (Sat.back (A:=mR (RS.dR {s with ta:=some tg} g' cap' vs' (s.l.say t k 4 0))) (Sat.back (A:=bR B8 [i6 7,i6 k,i6 0]::mR (RS.dR {s with ta:=some tg} g' cap' vs' (s.l.say t k 4 0))) g.sat)) hv8 (.inr ⟨⟨g2,0,none⟩,c2,1,rfl,rfl,by show B<=g2;omega,XZ⟩);refine aq F hB d u v 1 [] [] [] [] (λM=>M) 0 86 [false,true] [] λPD Ek S q Gx Gy O4=>?_
   refine cV F S d iK q [] (.tuple #[]) ?_;exact hz Ek S.sat Gy
  .have X6:((s.l.tk t).a k==y.a)=false:=by simpa using Z
   refine bA F hB d nB S6 15 [1,0,2,1] [0] [] [(15,i6 1),(14,i6 y.b),(12,i6 ((s.l.tk t).a k)),(8,ptr B1),(0,ptr s.gm),(1,i6 t),(2,i6 k)] (λM=>M) 0 69 [false,false] [] [((s.l.tk t).a k==y.a,false)] [] [] λa7 w7 S7 W oA oT tu=>?_
   refine CL F hB d (b1:=B1) (b2:=B1+1) (by omega) hy.2.2.1 hy.2.2.2 (by omega) ((s.l.tk t).a k-1).toNat 1 y.b (by omega) (by omega) (by omega) (by omega) a7 w7 W (by omega) S7 λa8 w8 Et yt S8=>?_
   have Sl:∀a9 w9 p,p=aH y ((s.l.tk t).a k)->a9.defers=[]->w9.heap.size=B4->St Ok B4 130 [(91,i6 p),(90,i6 k),(89,i6 t),(88,ptr s.gm),(14,i6 p),(12,i6 ((s.l.tk t).a k)),(0,ptr s.gm),(1,i6 t),(2,i6 k)] (bR (B1+1) [i6 b.k,i6 b.n,.slice ho hl hc]::bR B1 (qR y)::(mR {s with ta:=some tg}++C)) 0 a9 w9->Ψ (G (bb.at a9 (pc prog 116 100 [false,false,false,false] [])) (cf::cs)) w9:=by
    intro a9 w9 p ep H An S9;refine bK F d H S9 92 82 #[ptr s.gm,i6 t,i6 k,i6 3,i6 p] λcf9 G2=>?_
    refine kS F hB (s:={s with ta:=some tg}) (Sat.back (A:=mR {s with ta:=some tg}) (Sat.back (A:=bR (B1+1) [i6 b.k,i6 b.n,.slice ho hl hc]::mR {s with ta:=some tg}) (S9.sat.perm (.swap ..)))) hv (by omega) Ar rfl ht λg' cap' vs' R Cg O v8=>G2 _ _ _ Cg λCN Ib zu l tY=>?_
    have hw:IntKind.wrap .i64 ((s.l.tk t).a k+1)=(s.l.tk t).a k+1:=aA (by omega) (by omega);refine KA F aB hB (by omega) d l 15 [(0,(0,4),true),(3,(t,7+k),false)] [(true,false),(true,true)] [] [(14,i6 p),(0,ptr s.gm),(1,i6 t),(2,i6 k)] (λM=>bu 3 (t,7+k) (i6 (IntKind.wrap .i64 ((s.l.tk t).a k+1))) (M)) 0 116 [false,false,false,false] [] [] [((↑t:Int),s.l.tl)] [(t,s.l.tl)] (by rcases U with rfl|rfl|rfl|rfl|rfl|rfl<;>kernel_rfl) (by rcases U with rfl|rfl|rfl|rfl|rfl|rfl<;>kernel_rfl) cg (nO (by dsimp only;omega) cg) (nO (by dsimp only;omega) cg) zu λPF vp g P yu v7 O5=>?_
    rw[hw]at g;replace g:St Ok Ib 130 _ (mR (RS.lD (RS.dR {s with ta:=some tg} g' cap' vs' (s.l.say t k 3 p)) t k ((s.l.tk t).a k+1))++(bR (B1+1) [i6 b.k,i6 b.n,.slice ho hl hc]::bR B1 (qR y)::C)) 0 PF vp:=⟨g.env,g.sat.re 3 rfl rfl _ λj _ f _=>fN (by rcases U with rfl|rfl|rfl|rfl|rfl|rfl<;>rfl) (show 7+k<19 by omega) j f,g.sz⟩;have R9:(upd s.l.tk t {s.l.tk t with a:=upd (s.l.tk t).a k ((s.l.tk t).a k+1)} t).x=false:=by simp only[upd,if_true];exact hx
    have Se:RV Ok (RS.lD (RS.dR {s with ta:=some tg} g' cap' vs' (s.l.say t k 3 p)) t k ((s.l.tk t).a k+1)):=⟨O.a,O.t,O.w,O.e⟩
    by_cases Ol:0<p
    .have Xa:decide (p>0)=true:=by simpa using Ol
     refine bA F hB d P g 27 [0,0,4,1,3,t,4,101] [2,0,2] [] [(128,i6 p),(127,i6 k),(126,i6 t),(125,ptr s.gm)] (λM=>M) 0 143 [false,false,false,false,false,true] [] [(decide (p>0),true),((upd s.l.tk t (PG.mk (s.l.tk t).c (s.l.tk t).f (s.l.tk t).p (s.l.tk t).o (s.l.tk t).x (s.l.tk t).e (s.l.tk t).w (upd (s.l.tk t).a k ((s.l.tk t).a k+1)) (s.l.tk t).q) t).x,false)] [((↑t:Int),s.l.tl)] [(1,(t,s.l.tl))] λPE QU v u JG R5 TS=>?_
     refine bK F d u v 129 81 #[ptr s.gm,i6 t,i6 k,i6 p] λUn I=>?_
     have hp9:=BO y ((s.l.tk t).a k) hy.2.2.2;refine EZ F hB (s:=RS.lD (RS.dR {s with ta:=some tg} g' cap' vs' (s.l.say t k 3 p)) t k ((s.l.tk t).a k+1)) v.sat Se (by omega) JI qW rfl ht (by omega) (by show -4611686018427387904<=s.l.now+p;omega) (by show s.l.now+p<4611686018427387904;omega) λg2 c2 v2 g3 c3 v3 Ek OS WE Gy=>I _ _ _ OS λPD B13 S q Gx=>?_
     refine aq F hB d q S 2 [] [] [] [] (λM=>M) 0 146 [false,false,false,false,false,true] [] λa14 VX Uz X Wy R4 YE=>?_
     refine cV F Uz d iK X [] (.tuple #[]) ?_;subst ep;exact K2 hq Z Ol _ VX g' cap' vs' g2 c2 v2 g3 c3 v3 (dY.cA.cons.cons) (by omega) Uz.sat WE
    .have Xa:decide (p>0)=false:=by simpa using Ol
     have hwk:IntKind.wrap .i64 ((k:Int)+1)=((k+1:Nat):Int):=by rw[aA (by omega) (by omega)];rfl
     refine bA F hB d P g 27 [0,0,4,1,3,t,4,101] [2,0,0] [] [(107,i6 (IntKind.wrap .i64 ((↑k:Int)+1))),(105,i6 t),(104,ptr s.gm)] (λM=>M) 0 143 [false,false,false,false,false,false] [] [(decide (p>0),false),((upd s.l.tk t (PG.mk (s.l.tk t).c (s.l.tk t).f (s.l.tk t).p (s.l.tk t).o (s.l.tk t).x (s.l.tk t).e (s.l.tk t).w (upd (s.l.tk t).a k ((s.l.tk t).a k+1)) (s.l.tk t).q) t).x,false)] [((↑t:Int),s.l.tl)] [(1,(t,s.l.tl))] λPE QU v u JG R5 TS=>?_
     rw[hwk]at v;refine bK F d u v 108 58 #[ptr s.gm,i6 t,i6 (↑(k+1):Int)] λUn I=>?_
     subst ep;refine(K Un _ QU _ (λEk M OS aaw hz=>I _ _ _ OS λPD B13 S q Gx=>?_) (dY.cA.cons.cons) (by omega)).2.2 hq Z Ol g' cap' vs' v.sat Se;refine aq F hB d q S 2 [] [] [] [] (λM=>M) 0 146 [false,false,false,false,false,false] [] λa14 VX Uz X Wy R4 YE=>?_
     refine cV F Uz d iK X [] (.tuple #[]) ?_;exact hz VX Uz.sat R4
   by_cases hp:y.d<dF y.c y.d ((s.l.tk t).a k-1).toNat y.b
   .have Sz:decide (y.d<dF y.c y.d ((s.l.tk t).a k-1).toNat y.b)=true:=by simpa using hp
    refine bA F hB d Et S8 18 [1,0,4,1,1,0,4,1] [2] [] [(91,i6 y.d),(90,i6 k),(89,i6 t),(88,ptr s.gm),(14,i6 y.d),(12,i6 ((s.l.tk t).a k)),(0,ptr s.gm),(1,i6 t),(2,i6 k)] (λM=>M) 0 104 [false,false,false,true] [] [(decide (dF y.c y.d (Int.toNat ((s.l.tk t).a k-1)) y.b>y.d),true)] [] [] λa9 w9 S9 H An DD TP=>?_
    rw[show pc prog 116 104 [false,false,false,true] []=pc prog 116 100 [false,false,false,false] [] by kernel_rfl];exact Sl a9 w9 _ (by unfold aH;exact(ah hp).symm) H (by omega) S9
   .have Sz:decide (y.d<dF y.c y.d ((s.l.tk t).a k-1).toNat y.b)=false:=by simpa using hp
    refine bA F hB d Et S8 14 [1,0,4,1] [0] [] [(91,i6 (dF y.c y.d (Int.toNat ((s.l.tk t).a k-1)) y.b)),(90,i6 k),(89,i6 t),(88,ptr s.gm),(14,i6 (dF y.c y.d (Int.toNat ((s.l.tk t).a k-1)) y.b)),(12,i6 ((s.l.tk t).a k)),(0,ptr s.gm),(1,i6 t),(2,i6 k)] (λM=>M) 0 100 [false,false,false,false] [] [(decide (dF y.c y.d (Int.toNat ((s.l.tk t).a k-1)) y.b>y.d),false)] [] [] λa9 w9 S9 H An DD TP=>?_
    exact Sl a9 w9 _ (by unfold aH;exact(af hp).symm) H (by omega) S9
theorem BW:∀{E:Env}{n:Nat}{v:ay},look E n=some v->(n,v)∈E
 |[],n,v,h=>by cases h
 |(d,u)::E,n,v,h=>by
  simp only[look]at h
  by_cases e:d=n
  .subst e;simp at h;subst h;exact bS ..
  .have f:(d==n)=false:=by simpa using e
   rw[f]at h;exact aO _ (BW h)
theorem aN.sub{d:Env}(h:aN E N a)(g:∀p∈d,look E p.1=some p.2):aN d N a:=⟨h.sz,λn v f=>h.val n v (g (n,v) (BW f))⟩
theorem Sat.Q5{p:Nat}(h:Sat Ok w M)(v:nth M p=some (gZ ca (y::ch))):Sat Ok w (gZ (ca.add 3) ch::M):=by
 have q:=h.dup v rfl;have s:=(sat_iff.1 q).1 _ (bS ..);have l:=dI.1 (sat_iff.1 q).2
 have d:∀j:Ix,(gZ (ca.add 3) ch).ad j=(gZ ca (y::ch)).ad (j.1+1,j.2):=λj=>by
  show((ca.add 3).add (j.1*3)).add j.2=(ca.add ((j.1+1)*3)).add j.2
  rw[Addr.add_add,Addr.add_add,Addr.add_add];congr 1;omega
 refine sat_iff.2 ⟨λr f=>?_,dI.2 ⟨λr f u j j' hj o e=>?_,l.2⟩⟩
 .rcases ak.1 f with rfl|f
  .refine⟨λj hj=>?_,λj hj=>⟨?_,λz=>(by cases z)⟩,λz=>(by cases z),λg e n z=>(by cases z)⟩
   .rw[d]
    exact s.val (j.1+1,j.2) ⟨Bn hj.1,hj.2⟩
   .rw[d]
    exact(s.ok (j.1+1,j.2) ⟨Bn hj.1,hj.2⟩).1
  .exact(sat_iff.1 q).1 r (aO _ f)
 .rw[d]at e
  exact l.1 r f (u.elim (λz=>by cases z) .inr) (j.1+1,j.2) j' ⟨Bn hj.1,hj.2⟩ o e
theorem Wh(F:aC prog main (DX Ok) Ψ)(hB:HB B Ok){s:RS}{tg:Addr}{kk nn:Int}(D:Sat Ok w (mR s++C))(hv:RV Ok s)(gp:B<=w.heap.size)(W:s.ta=some tg)(X:t<s.l.tl)(hk:k=s.V.nl)(gI:nP B C h (y::ch))(hlen:ch.length<1000000)(q:s.l.el<1000000000)(K:∀O J w' C',fT Ok B Ψ cf cs O J->dY C C'->w.heap.size<=w'.heap.size->∀g' cap' vs' ho hl hc,Sat Ok w' (mR (s.dR g' cap' vs' (s.l.say t (-1) 2 y.n))++C')->RV Ok (s.dR g' cap' vs' (s.l.say t (-1) 2 y.n))->nP B C' (.slice ho hl hc) ch->Ψ (G (Frame.enter prog 83 #[ptr s.gm,i6 t,i6 k,lu ⟨kk,nn,ch⟩ (.slice ho hl hc)] .normal) (O::J)) w'):
 Ψ (G (Frame.enter prog 59 #[ptr s.gm,i6 t,i6 k,i6 1,lu ⟨kk,nn,y::ch⟩ h] .normal) (cf::cs)) w:=by
 obtain⟨s,rfl⟩:=RS.jI W;replace X:t<s.l.tl:=X;replace q:s.l.el<1000000000:=q;replace hk:k=s.V.nl:=hk
 obtain⟨ca,cap,i,rfl,e2,e3,e4⟩:∃ca cap i,h=.slice (some ca) (ch.length+1) cap/\nth C i=some (gZ ca (y::ch))/\B<=ca.block/\ch.length+1<=cap:=by
  rcases gI with ⟨_,z⟩|z
  .cases z
  .exact z
 have nA:((k:Int)==(s.V.nl:Int))=true:=by simp[hk]
 have Yh:=D;replace D:=D.Q5 (p:=14+i) (ca:=ca) (y:=y) (ch:=ch) (by rw[bV,af (by show¬14+i<14;omega),show 14+i-(mR {s with ta:=some tg}).length=i by show 14+i-14=i;omega];exact e2);replace D:=D.dup (i:=15+i) (r:=gZ ca (y::ch)) (by rw[show 15+i=14+i+1 by omega];show nth (mR _++_) (14+i)=_;rw[bV,af (by show¬14+i<14;omega),show 14+i-(mR {s with ta:=some tg}).length=i by show 14+i-14=i;omega];exact e2) rfl;have Vr:(y::ch).length=ch.length+1:=rfl;refine dg f59 func59 _ rfl 94 (by kernel_rfl) D λbb a0 B1 hn d iK jf S0 iI=>?_
 refine bA F hB d jf S0 30 [3,0,0,1,0,0,2,1,1,0,2,101] [2,2] [] [(26,i6 (List.getD (y::ch) 0 (iF.mk 0 0 0)).n),(25,i6 t),(24,ptr s.gm),(9,ptr B1),(0,ptr s.gm),(1,i6 t),(2,i6 k)] (λM=>bR (B1) [i6 kk,i6 nn,.slice (some ca) (List.length ch+1) cap]::(M)) 1 30 [true] [] [((↑k:Int)==(↑s.V.nl:Int),true)] [(0,List.length ch+1)] [(1,(0,List.length (y::ch)))] λa1 w1 S1 kJ iH jA dS=>?_
 refine bK F d kJ S1 27 82 #[ptr s.gm,i6 t,i6 (-1),i6 2,i6 (List.getD (y::ch) 0 (iF.mk 0 0 0)).n] λgJ I=>?_
 refine kS F hB (s:={s with ta:=some tg}) (C:=bR B1 [i6 kk,i6 nn,.slice (some ca) (ch.length+1) cap]::gZ ca (y::ch)::gZ (ca.add 3) ch::C) (n:=y.n) (S1.sat.perm ?_) hv (by omega) q rfl X λg' cap' vs' w2 h2 U je=>I _ _ _ h2 λa2 B2 S2 jQ fV=>?_
 .exact(EJ (l₁:=[_,_,_]) (l₂:=mR {s with ta:=some tg})).append_right C|>.trans (by rw[fM];exact .refl _)
 refine aq F hB d jQ S2 10 [14,0,2,1] [] [] [(30,.slice (some ca) (List.length ch+1) cap),(28,.slice none 0 0),(9,ptr B1),(0,ptr s.gm),(1,i6 t),(2,i6 k)] (λM=>M) 0 41 [true] [] λa3 w3 S3 jF gQ ji dX=>?_
 refine Zx t44 F d 30 31 (by kernel_rfl) (by kernel_rfl) (by decide) rfl e4 S3 λa4 Cf l=>?_
 rw[show jY (pc prog 59 41 [true] [])=pc prog 59 42 [true] [] by kernel_rfl];have Q:St Ok B2 94 _ _ 0 a4 w3:=⟨Cf,S3.sat,S3.sz⟩;replace l:=l.trans jF
 have fin:∀ho hl hc f g x C',f.defers=[]->g.heap.size=x->w2.heap.size<=g.heap.size->dY C C'->nP B C' (.slice ho hl hc) ch->St Ok x 94 [(32,.slice ho hl hc),(9,ptr B1),(0,ptr s.gm),(1,i6 t),(2,i6 k)] (mR (RS.dR {s with ta:=some tg} g' cap' vs' (s.l.say t (-1) 2 y.n))++(bR B1 [i6 kk,i6 nn,.slice (some ca) (ch.length+1) cap]::C')) 0 f g->Ψ (G (bb.at f (pc prog 59 43 [true] [])) (cf::cs)) g:=by
  intro ho hl hc f g x C' j mz T hi uT S5;refine aq F hB d j S5 13 [14,0,0,2] [] [] [(41,.agg #[i6 kk,i6 nn,.slice ho hl hc]),(35,i6 k),(34,i6 t),(33,ptr s.gm)] (λM=>M) 0 56 [true] [] λa6 w6 S6 nB oS yw Qy=>?_
  refine bK F d nB S6 42 83 #[ptr s.gm,i6 t,i6 k,.agg #[i6 kk,i6 nn,.slice ho hl hc]] λcf6 H=>?_
  refine K cf6 _ w6 _ (λw7 M h7 hb7 hz=>H _ _ _ h7 λa7 B7 S7 Z oA=>?_) hi.cons (by omega) g' cap' vs' ho hl hc S6.sat U (uT.inc dY.cA.cons);refine aq F hB d Z S7 1 [] [] [] [] (λM=>M) 0 58 [true] [] λa8 w8 S8 Y yt R O3=>?_
  refine cV F S8 d iK Y [] (.tuple #[]) ?_;exact hz w8 S8.sat R
 have sub:∀v f g x M,St Ok x 94 [(32,v),(31,.slice (some (if cap=1 then ca else ca.add 3)) ch.length (cap-1)),(30,.slice (some ca) (ch.length+1) cap),(28,.slice none 0 0),(9,ptr B1),(0,ptr s.gm),(1,i6 t),(2,i6 k)] M 0 f g->St Ok x 94 [(32,v),(9,ptr B1),(0,ptr s.gm),(1,i6 t),(2,i6 k)] M 0 f g:=λv f g x M S=>⟨?_,S.sat,S.sz⟩
 .cases u:ch with
  |nil=>
   subst u;refine ap0 t44 F d 28 31 32 (base:=none) (sl:=0) (sc:=0) (by kernel_rfl) (by kernel_rfl) (by decide) rfl rfl (λ_=>rfl) (az _) Q λf o j=>?_
   rw[show jY (pc prog 59 42 [true] [])=pc prog 59 43 [true] [] by kernel_rfl];exact fin none 0 0 f w3 B2 _ (j.trans l) (by omega) (by omega) (dY.cA.cons.cons) (.inl ⟨rfl,rfl⟩) (sub _ _ _ _ _ ⟨o,Q.sat,Q.sz⟩)
  |cons z zs=>
   have hz:1<=ch.length:=by rw[u];simp
   have ec:(if cap=1 then ca else ca.add 3)=ca.add 3:=af (by omega);have P:=Q;rw[ec]at P;refine Ut F hB d 28 31 32 16 (L0:=[]) (base:=none) (ad:=ca.add 3) (L:=ch) (by kernel_rfl) (by kernel_rfl) (by decide) rfl rfl rfl (.inl ⟨rfl,rfl⟩) (by omega) (λa z=>by cases z) (by rw[u];simp) (by simp only[gM];omega) (by rw[addBlock];exact e3) P λg2 c2 f g h5 Aq T hc5 o j=>?_
   rw[show jY (pc prog 59 42 [true] [])=pc prog 59 43 [true] [] by kernel_rfl];rw[<-ec]at o;exact fin (some ⟨g2,0,none⟩) ch.length c2 f g _ (gZ ⟨g2,0,none⟩ ch::gZ ca (y::ch)::gZ (ca.add 3) ch::C) (j.trans l) rfl (by omega) (dY.cA.cons.cons.cons) (.inr ⟨_,_,0,rfl,rfl,by show B<=g2;omega,hc5⟩) (sub _ _ _ _ _ ⟨o,Sat.back (A:=mR (RS.dR {s with ta:=some tg} g' cap' vs' (s.l.say t (-1) 2 y.n))++[bR B1 [i6 kk,i6 nn,.slice (some ca) (ch.length+1) cap]]) (by simpa using h5)|>(by simpa using ·),rfl⟩)
 .exact S.env.sub (by intro p hp;simp only[ak,bB,or_false]at hp;rcases hp with rfl|rfl|rfl|rfl|rfl<;>rfl)
theorem We(F:aC prog main (DX Ok) Ψ)(hB:HB B Ok){s:RS}{la:Addr}(hS:Sat Ok w (mR s++C))(gp:B<=w.heap.size)(q:s.la=some la)(hk:k<s.V.nl)(O:s.V.nl<=6)(f:(s.V.ly k).k=1)(K:∀l j w' C',fT Ok B Ψ cf cs l j->dY C C'->w.heap.size<=w'.heap.size->Sat Ok w' (mR s++C')->Ψ (G (Frame.enter prog 58 #[ptr s.gm,i6 t,i6 (k+1:Nat)] .normal) (l::j)) w'):
 Ψ (G (Frame.enter prog 59 #[ptr s.gm,i6 t,i6 k,i6 1,lu b (.slice ho hl hc)] .normal) (cf::cs)) w:=by
 obtain⟨s,rfl⟩:=RS.yp q;replace hk:k<s.V.nl:=hk;replace O:s.V.nl<=6:=O;replace f:(s.V.ly k).k=1:=f;have Z:((k:Int)==(s.V.nl:Int))=false:=by simp;omega
 have J:((s.V.ly k).k==1)=true:=by simpa using f
 have p:IntKind.wrap .i64 ((k:Int)+1)=((k+1:Nat):Int):=by rw[aA (by omega) (by omega)];rfl
 refine dg f59 func59 _ rfl 94 (by kernel_rfl) hS λbb a0 B1 hn d D z S0 W=>?_
 refine bA F hB d z S0 48 [1,0,0,1,1,0,0,1,12,k,0,101] [0,1,2,2] [] [(62,i6 (IntKind.wrap .i64 ((↑k:Int)+1))),(60,i6 t),(59,ptr s.gm)] (λM=>bR (B1) [i6 b.k,i6 b.n,.slice ho hl hc]::(M)) 1 48 [false,false,true] [] [((s.V.ly k).k==1,true),((↑k:Int)==(↑s.V.nl:Int),false)] [((↑k:Int),s.V.nl)] [(1,(k,s.V.nl))] λa1 R I x U Y dS=>?_
 rw[p]at I;refine bK F d x I 63 58 #[ptr s.gm,i6 t,i6 (↑(k+1):Int)] λH g=>?_
 refine K H _ R _ (λw2 M h2 uf X=>g _ _ _ h2 λa2 B2 S2 v T=>?_) dY.cA.cons (by omega) (Sat.back (A:=mR {s with la:=some la}) I.sat);refine aq F hB d v S2 2 [] [] [] [] (λM=>M) 0 51 [false,false,true] [] λa3 Q P u S o dX=>?_
 refine cV F P d D u [] (.tuple #[]) ?_;exact X Q P.sat o
abbrev RS.sZ(s:RS)(t:Nat):RS:={s with l:={s.l with us:=upd s.l.us t (s.l.us t+1)}}
abbrev RS.got(s:RS)(i:Nat)(b:Bk)(h:ay):RS:={s with wh:=upd s.wh i h,l:={s.l with wt:=upd s.l.wt i {s.l.wt i with b:=b}}}
theorem ID{g:Nat->H7}{h:CS}{v:ay}(j f:Nat)(l:f<7):(rN (upd g i {g i with b:=b} j,upd h i v j)).getD f undef=eH (eH (eH (λj f=>(rN (g j,h j)).getD f undef) i 4 (i6 b.k)) i 5 (i6 b.n)) i 6 v j f:=by
 unfold eH upd
 by_cases e:j=i
 .subst e
  rcases f with _|_|_|_|_|_|_|f
  .simp[rN]
  .simp[rN]
  .simp[rN]
  .simp[rN]
  .simp[rN]
  .simp[rN]
  .simp[rN]
  .omega
 .have d:(j==i)=false:=by simpa using e
  simp[e,d]
theorem Wd:pc prog 76 79 [true] []=pc prog 76 66 [false] []:=by kernel_rfl
theorem sP1:((aL (pc prog 76 115 [false,false,false,false,false] [9]))[14]?).map (λo=>oM o 117 119 120 44)=some true:=by kernel_rfl
theorem sP2:.inRegion (aL (pc prog 76 115 [false,false,false,false,false] [9])) (bM (14+2) ((aL (pc prog 76 115 [false,false,false,false,false] [9])).size-(14+2)))::behind (pc prog 76 115 [false,false,false,false,false] [9])=pc prog 76 116 [false,false,false,false,false] [9,16]:=by kernel_rfl
theorem qI(F:aC prog main (DX Ok) Ψ)(hB:HB B Ok)(d:bb.kind=.normal)(iK:bb.fn=76){s:RS}{tg:Addr}{q6 R:Nat}{n:Int}{x:Mw}{a0:Act}(hv:RV Ok s)(hle:B<=B1)(iI:w.heap.size=B1)(jf:a0.defers=[])(N8:s.ta=some tg)(ht:t<s.l.tl)(W:s.l.el<1000000000)(S:s.l.wl<1000000000)(qW:s.l.al<1000000000)(I:0<=s.l.now/\s.l.now<1000000000000)(hx:0<=x.t/\x.t<=1000)(gI:nP B C (.slice ho hl hc) b.ch)(hlen:b.ch.length<1000000)(K:∀zq sP w' C',fT Ok B Ψ cf cs zq sP->dY C C'->w.heap.size<=w'.heap.size->x.t=0->∀g' cap' vs',Sat Ok w' (mR (s.dR g' cap' vs' (s.l.say t (-1) 2 n))++C')->RV Ok (s.dR g' cap' vs' (s.l.say t (-1) 2 n))->Ψ (G (Frame.enter prog 83 #[ptr s.gm,i6 t,i6 s.V.nl,lu b (.slice ho hl hc)] .normal) (zq::sP)) w')(K2:¬x.t=0->∀C' w' J c2 Q g3 c3 P GI uR wo,dY C C'->w.heap.size<=w'.heap.size->Sat Ok w' (mR (RS.got (RS.mK (RS.cY s J c2 Q t s.V.nl) g3 c3 P (s.l.wait t s.V.nl x.t)) s.l.wl ⟨b.k,b.n,⟨0,0,n⟩::b.ch⟩ (.slice GI uR wo))++C')->RV Ok (RS.mK (RS.cY s J c2 Q t s.V.nl) g3 c3 P (s.l.wait t s.V.nl x.t))->nP B C' (.slice GI uR wo) (⟨0,0,n⟩::b.ch)->Ψ (G (cf.finish (.tuple #[])) cs) w')(S0:St Ok B1 124 [(82,.bool (x.t==0)),(7,ptr R),(6,ptr q6),(5,i6 n),(0,ptr s.gm),(1,i6 t)] (bR R [i6 b.k,i6 b.n,.slice ho hl hc]::bR q6 (tL x)::(mR s++C)) 0 a0 w):
 Ψ (G (bb.at a0 (pc prog 76 108 [false,false,false,false] [])) (cf::cs)) w:=by
 obtain⟨s,rfl⟩:=RS.jI N8;replace ht:t<s.l.tl:=ht;replace W:s.l.el<1000000000:=W;replace S:s.l.wl<1000000000:=S;replace qW:s.l.al<1000000000:=qW;replace I:0<=s.l.now/\s.l.now<1000000000000:=I
 by_cases u:x.t=0
 .have WC:(x.t==0)=true:=by simpa using u
  refine bA F hB d jf S0 6 [] [2] [] [(85,i6 n),(84,i6 t),(83,ptr s.gm),(7,ptr R),(0,ptr s.gm),(1,i6 t)] (λM=>M) 0 114 [false,false,false,false,true] [] [(x.t==0,true)] [] [] λa1 w1 S1 kJ iH jA dS=>?_
  refine bK F d kJ S1 86 82 #[ptr s.gm,i6 t,i6 (-1),i6 2,i6 n] λgJ q=>?_
  refine kS F hB (s:={s with ta:=some tg}) (Sat.back (A:=mR {s with ta:=some tg}) (Sat.back (A:=bR q6 (tL x)::mR {s with ta:=some tg}) S1.sat)) hv (by omega) W rfl ht λg' cap' vs' w2 h2 T je=>q _ _ _ h2 λa2 O S2 jQ fV=>?_
  refine aq F hB d jQ S2 3 [0,0,0,1,15,0,0,3] [] [8] [(94,.agg #[i6 b.k,i6 b.n,.slice ho hl hc]),(93,i6 s.V.nl),(88,i6 t),(87,ptr s.gm)] (λM=>M) 0 118 [false,false,false,false,true] [8] λa3 w3 S3 Z gQ ji dX=>?_
  refine bK F d Z S3 95 83 #[ptr s.gm,i6 t,i6 s.V.nl,.agg #[i6 b.k,i6 b.n,.slice ho hl hc]] λlq Au=>?_
  refine(K lq _ w3 _ (λw4 M h4 L7 hz=>Au _ _ _ h4 λa4 B4 D Y jP=>?_) dY.cA.cons.cons (by omega)) u g' cap' vs' S3.sat T;refine aq F hB d Y D 1 [] [] [] [] (λM=>M) 0 120 [false,false,false,false,true] [8] λa5 w5 S5 X mz kT jv=>?_
  refine cV F S5 d iK X [] (.tuple #[]) ?_;exact hz w5 S5.sat kT
 .have WC:(x.t==0)=false:=by simpa using u
  refine bA F hB d jf S0 4 [2,0,0,1,1,0,2,1] [0] [9] [(104,i6 x.t),(102,i6 s.V.nl),(97,i6 t),(96,ptr s.gm),(7,ptr R),(5,i6 n),(0,ptr s.gm)] (λM=>M) 0 112 [false,false,false,false,false] [9] [(x.t==0,false)] [] [] λa1 w1 S1 kJ iH jA dS=>?_
  refine bK F d kJ S1 105 81 #[ptr s.gm,i6 t,i6 s.V.nl,i6 x.t] λgJ q=>?_
  refine EZ F hB (s:={s with ta:=some tg}) (Sat.back (A:=mR {s with ta:=some tg}) (Sat.back (A:=bR q6 (tL x)::mR {s with ta:=some tg}) S1.sat)) hv (by omega) S qW rfl ht (by omega) (by show -4611686018427387904<=s.l.now+x.t;omega) (by show s.l.now+x.t<4611686018427387904;omega) λJ c2 Q g3 c3 P w2 h2 T je=>q _ _ _ h2 λa2 O S2 jQ fV=>?_
  refine aq F hB d jQ S2 2 [] [] [] [(8,i6 s.l.wl),(7,ptr R),(5,i6 n),(0,ptr s.gm)] (λM=>M) 0 115 [false,false,false,false,false] [9] λa3 w3 S3 Z gQ ji dX=>?_
  have hlE:hl=b.ch.length:=by
   rcases gI with ⟨y,z⟩|⟨_,_,_,y,_⟩
   .cases y;rw[z];rfl
   .cases y;rfl
  subst hlE;obtain⟨ox,H,R7,N6,Ca,WB⟩:=M5 (show VV (aL (pc prog 76 115 [false,false,false,false,false] [9])) 14 121 120 [(112,i6 b.k),(114,i6 b.n)]=true by kernel_rfl);have LF:∀oa n c,cS prog (execOp (ev ((120,.slice oa n c)::[(112,i6 b.k),(114,i6 b.n)])) (((aL (pc prog 76 115 [false,false,false,false,false] [9]))[15]?).getD default))=some (.value (.agg #[i6 b.k,i6 b.n,.slice oa n c])):=λ_ _ _=>by kernel_rfl
  rw[H]at LF;obtain⟨o,U,g⟩:=EK.1 sP1;obtain⟨g1,g2',g3'⟩:=iZ g;refine bkX (Post:=λv w'=>∃g4 c4,v=.slice (some ⟨g4,0,none⟩) (b.ch.length+1) c4/\Sat Ok w' (gZ ⟨g4,0,none⟩ (⟨0,0,n⟩::b.ch)::(mR (RS.mK (RS.cY {s with ta:=some tg} J c2 Q t s.V.nl) g3 c3 P (s.l.wait t s.V.nl x.t))++bR q6 (tL x)::bR R [i6 b.k,i6 b.n,.slice ho b.ch.length hc]::C))/\O<=g4/\O<=w'.heap.size/\b.ch.length+1<=c4) [{bR s.gm (mC (RS.mK (RS.cY {s with ta:=some tg} J c2 Q t s.V.nl) g3 c3 P (s.l.wait t s.V.nl x.t)))with wr:=false},{bR R [i6 b.k,i6 b.n,.slice ho b.ch.length hc]with wr:=false}] [(3,[(0,(0,5),true)]),(6,[(1,(0,0),true)]),(8,[(1,(0,1),true)])] F aB (λa wr z=>hB a wr (by omega)) d 14 [(0,(0,5),true),(15,(0,0),true),(15,(0,1),true),(15,(0,2),true)] [] 0 [(117,.slice (some ⟨O,0,none⟩) 1 1),(119,.slice ho b.ch.length hc)] [(109,.slice (some ⟨J,0,none⟩) (s.l.wl+1) c2),(110,i6 s.l.wl)] [(112,i6 b.k),(114,i6 b.n)] (bR O (qA ⟨0,0,n⟩)::·) 1 [] [] [] 120 121 (λv=>.agg #[i6 b.k,i6 b.n,v]) (by kernel_rfl) U H g2' R7 N6 Ca WB (λv w2 hp=>?_) (by kernel_rfl) (by kernel_rfl) (by simp) (by kernel_rfl) cg cg cg S3 (λv w2 hp=>?_) (λa1 w1 rest D KK=>?_) (λv w2 a4 w4 hp hA Y hf jP=>?_)
  .obtain⟨_,_,rfl,_⟩:=hp
   exact LF _ _ _
  .obtain⟨_,_,rfl,z2,z3,z4,z5⟩:=hp
   exact⟨z2.tail.roZ (λi r h=>by match i,h with|0,h=>cases h;exact⟨rfl,0,_,rfl,rfl⟩|1,h=>cases h;exact⟨rfl,15,_,rfl,rfl⟩),z4⟩
  .have hz:=D.sz
   have e1:=D.env.eval (x:=.tmp 117) rfl;have e2:=D.env.eval (x:=.tmp 119) rfl;cases l:b.ch with
   |nil=>
    rw[l]at e2;refine aC.app0 t44 F U (by simp[Region.wanted,g1]) (by rw[d];decide) (.tmp 117) (.tmp 119) g3' e1 e2 (λz=>by cases z) (az _) ?_;exact KK _ _ ⟨O,1,by rw[l];rfl,by have z:=Sat.Uj D.sat;rw[l]at z ⊢;exact z,by omega,by omega,by rw[l];exact az _⟩
   |cons z zs=>
    obtain⟨ca,cap,i,y1,y2,y3,y4⟩:=gI.resolve_left λy=>by rw[l]at y;cases y.2
    cases y1
    refine F.Ut hB (by omega) U g1 d (.tmp 117) (.tmp 119) g3' (p:=14+(2+i)+1) (L0:=[⟨0,0,n⟩]) (L:=b.ch) D.sat e1 e2 ?_ (.inr ⟨O,_,0,rfl,rfl,rfl⟩) (λa z=>by cases z;show B<=O;omega) (by rw[l];simp) (by simp only[eG,gM];omega) y3 λg' c' w' q1 q2 q3 q4=>KK _ _ ⟨g',c',by simp[Nat.add_comm],Sat.D6 (A:=[gZ ⟨g',0,none⟩ (⟨0,0,n⟩::b.ch)]) q1,by omega,by omega,q4⟩
    show nth (mR _++_) (14+(2+i))=_
    rw[bV,af (by show¬14+(2+i)<14;omega),show 14+(2+i)-(mR (RS.mK (RS.cY {s with ta:=some tg} J c2 Q t s.V.nl) g3 c3 P (s.l.wait t s.V.nl x.t))).length=i+1+1 by show 14+(2+i)-14=_;omega];exact y2
  .obtain⟨g4,c4,rfl,z2,z3,z4,z5⟩:=hp
   rw[sP2];have D:St Ok w4.heap.size 124 _ _ 0 a4 w4:=⟨hA,Sat.back (z2.keep hf),rfl⟩;refine bA F hB d (Y.trans Z) D 4 [5,Int.toNat (↑s.l.wl:Int),4,103] [2] [] [] (λM=>bu 5 (Int.toNat (↑s.l.wl:Int),6) (.slice (some ⟨g4,0,none⟩) (b.ch.length+1) c4) (bu 5 (Int.toNat (↑s.l.wl:Int),5) (i6 b.n) (bu 5 (Int.toNat (↑s.l.wl:Int),4) (i6 b.k) (M)))) 0 120 [false,false,false,false,false] [9,16] [] [((↑s.l.wl:Int),s.l.wl+1)] [(3,(Int.toNat (↑s.l.wl:Int),s.l.wl+1))] λa5 w5 S5 X mz kT jv=>?_
   refine cV F S5 d iK X [] (.tuple #[]) ?_;exact K2 u _ w5 J c2 Q g3 c3 P _ _ _ dY.cA.cons.cons.cons (by omega) (S5.sat.re 5 rfl rfl (λj=>rN (upd (s.l.wait t s.V.nl x.t).wt s.l.wl {(s.l.wait t s.V.nl x.t).wt s.l.wl with b:=⟨b.k,b.n,⟨0,0,n⟩::b.ch⟩} j,upd (upd s.wh s.l.wl (.slice none 0 0)) s.l.wl (.slice (some ⟨g4,0,none⟩) (b.ch.length+1) c4) j)) λj _ f hf=>ID j f hf) T (.inr ⟨_,_,0,rfl,rfl,by show B<=g4;omega,z5⟩)
theorem BA(F:aC prog main (DX Ok) Ψ)(hB:HB B Ok)(q:bb.kind=.normal)(U:bb.fn=76){s:RS}{tg:Addr}{J:Nat}{n:Int}{x:Mw}{a0:Act}(hv:RV Ok s)(hle:B<=B1)(iI:w.heap.size=B1)(T:a0.defers=[])(R:s.ta=some tg)(ht:t<s.l.tl)(S:s.l.el<1000000000)(Q:s.l.wl<1000000000)(W:s.l.al<1000000000)(v:0<=s.l.now/\s.l.now<1000000000000)(hx:0<=x.t/\x.t<=1000)(K:∀o l w' C',fT Ok B Ψ cf cs o l->dY C C'->w.heap.size<=w'.heap.size->x.t=0->∀g' cap' vs' ho hl hc,Sat Ok w' (mR (s.dR g' cap' vs' (s.l.say t (-1) 2 n))++C')->RV Ok (s.dR g' cap' vs' (s.l.say t (-1) 2 n))->nP B C' (.slice ho hl hc) (cN x).ch->Ψ (G (Frame.enter prog 83 #[ptr s.gm,i6 t,i6 s.V.nl,lu (cN x) (.slice ho hl hc)] .normal) (o::l)) w')(K2:¬x.t=0->∀C' w' P c2 I O c3 H f g j,dY C C'->w.heap.size<=w'.heap.size->Sat Ok w' (mR (RS.got (RS.mK (RS.cY s P c2 I t s.V.nl) O c3 H (s.l.wait t s.V.nl x.t)) s.l.wl ⟨(cN x).k,(cN x).n,⟨0,0,n⟩::(cN x).ch⟩ (.slice f g j))++C')->RV Ok (RS.mK (RS.cY s P c2 I t s.V.nl) O c3 H (s.l.wait t s.V.nl x.t))->nP B C' (.slice f g j) (⟨0,0,n⟩::(cN x).ch)->Ψ (G (cf.finish (.tuple #[])) cs) w')(S0:St Ok B1 124 [(6,ptr J),(5,i6 n),(0,ptr s.gm),(1,i6 t)] (bR J (tL x)::(mR s++C)) 0 a0 w):
 Ψ (G (bb.at a0 (pc prog 76 66 [false] [])) (cf::cs)) w:=by
 by_cases z:x.k=2
 .have hb:cN x=⟨2,0,[⟨1,-1,x.n⟩]⟩:=by unfold cN eB;rw[ah z]
  rw[hb]at K K2;refine bA F hB q T S0 50 [0,0,1,1,0,0,0,3,1,0,0,2,1,0,0,3,1,0,0,3,2,0,0,3,3,0,2,1] [2] [] [(82,.bool (x.t==0)),(7,ptr B1),(6,ptr J),(5,i6 n),(0,ptr s.gm),(1,i6 t)] (λM=>bR (B1+2) [i6 1,i6 (-1),i6 x.n]::(bR (B1+1) [i6 2,i6 0,.slice (some ⟨B1+2,0,none⟩) 1 1]::(bR (B1) [i6 2,i6 0,.slice (some ⟨B1+2,0,none⟩) 1 1]::(M)))) 3 101 [false,true] [] [(x.k==2,true)] [] [] λa1 w1 D u X Z dS=>?_
  rw[show pc prog 76 101 [false,true] []=pc prog 76 108 [false,false,false,false] [] by kernel_rfl]
  exact qI F hB q U (b:=⟨2,0,[⟨1,-1,x.n⟩]⟩) (C:=bR (B1+1) [i6 2,i6 0,.slice (some ⟨B1+2,0,none⟩) 1 1]::gZ ⟨B1+2,0,none⟩ [⟨1,-1,x.n⟩]::C) hv (by omega) rfl u R ht S Q W v hx (.inr ⟨_,_,1,rfl,rfl,by show B<=B1+2;omega,az _⟩) (by simp)
   (λo l w' C' hl p Y d g' cap' vs' h1 z=>K o l w' C' hl ((dY.cA.cons.cons).trans p) (by omega) d g' cap' vs' _ _ _ h1 z (nP.inc (.inr ⟨_,_,1,rfl,rfl,by show B<=B1+2;omega,az _⟩) p))
   (λd C' w' P c2 I O c3 H f g j p Y=>K2 d C' w' P c2 I O c3 H f g j ((dY.cA.cons.cons).trans p) (by omega))
   ⟨D.env,Sat.back (A:=bR B1 [i6 2,i6 0,.slice (some ⟨B1+2,0,none⟩) 1 1]::bR J (tL x)::mR s) (Sat.back (A:=bR (B1+1) [i6 2,i6 0,.slice (some ⟨B1+2,0,none⟩) 1 1]::bR B1 [i6 2,i6 0,.slice (some ⟨B1+2,0,none⟩) 1 1]::bR J (tL x)::mR s) (Sat.Uj D.sat)),rfl⟩
 .have J6:(x.k==2)=false:=by simpa using z
  by_cases h3:x.k=3
  .have hb:cN x=⟨2,0,[⟨2,-1,x.n⟩]⟩:=by unfold cN eB;rw[af z,ah h3]
   rw[hb]at K K2;refine bA F hB q T S0 56 [0,0,1,1,0,0,0,3,1,0,0,2,1,0,0,3,1,0,0,3,2,0,0,3,3,0,2,1] [0,2] [] [(82,.bool (x.t==0)),(7,ptr B1),(6,ptr J),(5,i6 n),(0,ptr s.gm),(1,i6 t)] (λM=>bR (B1+2) [i6 2,i6 (-1),i6 x.n]::(bR (B1+1) [i6 2,i6 0,.slice (some ⟨B1+2,0,none⟩) 1 1]::(bR (B1) [i6 2,i6 0,.slice (some ⟨B1+2,0,none⟩) 1 1]::(M)))) 3 107 [false,false,true] [] [(x.k==3,true),(x.k==2,false)] [] [] λa1 w1 D u X Z dS=>?_
   rw[show pc prog 76 107 [false,false,true] []=pc prog 76 108 [false,false,false,false] [] by kernel_rfl]
   exact qI F hB q U (b:=⟨2,0,[⟨2,-1,x.n⟩]⟩) (C:=bR (B1+1) [i6 2,i6 0,.slice (some ⟨B1+2,0,none⟩) 1 1]::gZ ⟨B1+2,0,none⟩ [⟨2,-1,x.n⟩]::C) hv (by omega) rfl u R ht S Q W v hx (.inr ⟨_,_,1,rfl,rfl,by show B<=B1+2;omega,az _⟩) (by simp)
    (λo l w' C' hl p Y d g' cap' vs' h1 z=>K o l w' C' hl ((dY.cA.cons.cons).trans p) (by omega) d g' cap' vs' _ _ _ h1 z (nP.inc (.inr ⟨_,_,1,rfl,rfl,by show B<=B1+2;omega,az _⟩) p))
    (λd C' w' P c2 I O c3 H f g j p Y=>K2 d C' w' P c2 I O c3 H f g j ((dY.cA.cons.cons).trans p) (by omega))
    ⟨D.env,Sat.back (A:=bR B1 [i6 2,i6 0,.slice (some ⟨B1+2,0,none⟩) 1 1]::bR J (tL x)::mR s) (Sat.back (A:=bR (B1+1) [i6 2,i6 0,.slice (some ⟨B1+2,0,none⟩) 1 1]::bR B1 [i6 2,i6 0,.slice (some ⟨B1+2,0,none⟩) 1 1]::bR J (tL x)::mR s) (Sat.Uj D.sat)),rfl⟩
  .have h3':(x.k==3)=false:=by simpa using h3
   by_cases h4:x.k=4
   .have hb:cN x=⟨3,x.n,[]⟩:=by unfold cN;rw[af z,af h3,ah h4]
    rw[hb]at K K2;refine bA F hB q T S0 47 [0,0,1,1,0,0,0,3,1,0,0,2,0,0,0,3,1,0,2,1] [0,0,2] [] [(82,.bool (x.t==0)),(7,ptr B1),(6,ptr J),(5,i6 n),(0,ptr s.gm),(1,i6 t)] (λM=>bR (B1) [i6 3,i6 x.n,.slice none 0 0]::(M)) 1 113 [false,false,false,true] [] [(x.k==4,true),(x.k==3,false),(x.k==2,false)] [] [] λa1 w1 D u X Z dS=>?_
    rw[show pc prog 76 113 [false,false,false,true] []=pc prog 76 108 [false,false,false,false] [] by kernel_rfl]
    exact qI F hB q U (b:=⟨3,x.n,[]⟩) (C:=C) hv (by omega) rfl u R ht S Q W v hx (.inl ⟨rfl,rfl⟩) (by simp)
     (λo l w' C' hl p Y d g' cap' vs' h1 z=>K o l w' C' hl p (by omega) d g' cap' vs' _ _ _ h1 z (.inl ⟨rfl,rfl⟩))
     (λd C' w' P c2 I O c3 H f g j p Y=>K2 d C' w' P c2 I O c3 H f g j p (by omega))
     ⟨D.env,D.sat,rfl⟩
   .have h4':(x.k==4)=false:=by simpa using h4
    have hb:cN x=⟨1,x.n,[]⟩:=by unfold cN;rw[af z,af h3,af h4]
    rw[hb]at K K2;refine bA F hB q T S0 42 [0,0,1,1,0,0,0,3,1,0,0,1,1,0,2,1] [0,0,0] [] [(82,.bool (x.t==0)),(7,ptr B1),(6,ptr J),(5,i6 n),(0,ptr s.gm),(1,i6 t)] (λM=>bR (B1) [i6 1,i6 x.n,.slice none 0 0]::(M)) 1 108 [false,false,false,false] [] [(x.k==4,false),(x.k==3,false),(x.k==2,false)] [] [] λa1 w1 D u X Z dS=>?_
    exact qI F hB q U (b:=⟨1,x.n,[]⟩) (C:=C) hv (by omega) rfl u R ht S Q W v hx (.inl ⟨rfl,rfl⟩) (by simp)
     (λo l w' C' hl p Y d g' cap' vs' h1 z=>K o l w' C' hl p (by omega) d g' cap' vs' _ _ _ h1 z (.inl ⟨rfl,rfl⟩))
     (λd C' w' P c2 I O c3 H f g j p Y=>K2 d C' w' P c2 I O c3 H f g j p (by omega))
     ⟨D.env,D.sat,rfl⟩
theorem I8(F:aC prog main (DX Ok) Ψ)(hB:HB B Ok){s:RS}{tg:Addr}(hS:Sat Ok w (mR s++C))(hv:RV Ok s)(gp:B<=w.heap.size)(N8:s.ta=some tg)(LZ:s.ca=some ca)(ht:t<s.l.tl)(O:(s.l.tk t).c=t)(WG:t<s.V.nc)(LM:s.V.nl<=6)(Ar:s.l.el<100000000)(I:s.l.wl<1000000000)(J:s.l.al<1000000000)(Z:0<=s.l.us t/\s.l.us t<1000000000)(o:0<=s.l.now/\s.l.now<1000000000000)(htr:0<s.V.nt t->∃ta,s.dH t=some ta/\Has C (fR ta 3 (λj=>tL (s.V.tr t j)) (s.V.nt t) false))(hx:0<=(aU s.V t (s.l.us t).toNat).t/\(aU s.V t (s.l.us t).toNat).t<=1000)(K:∀z v w' C',fT Ok B Ψ cf cs z v->dY C C'->w.heap.size<=w'.heap.size->(aU s.V t (s.l.us t).toNat).t=0->∀g' cap' vs' g1 c1 X ho hl hc,Sat Ok w' (mR (RS.dR (RS.dR (s.sZ t) g1 c1 X ((s.sZ t).l.say t (-1) 1 (s.l.us t))) g' cap' vs' (((s.sZ t).l.say t (-1) 1 (s.l.us t)).say t (-1) 2 (s.l.us t)))++C')->RV Ok (RS.dR (RS.dR (s.sZ t) g1 c1 X ((s.sZ t).l.say t (-1) 1 (s.l.us t))) g' cap' vs' (((s.sZ t).l.say t (-1) 1 (s.l.us t)).say t (-1) 2 (s.l.us t)))->nP B C' (.slice ho hl hc) (cN (aU s.V t (s.l.us t).toNat)).ch->Ψ (G (Frame.enter prog 83 #[ptr s.gm,i6 t,i6 s.V.nl,lu (cN (aU s.V t (s.l.us t).toNat)) (.slice ho hl hc)] .normal) (z::v)) w')(K2:¬(aU s.V t (s.l.us t).toNat).t=0->∀C' w' g1 c1 X H c2 D W c3 U q d u,dY C C'->w.heap.size<=w'.heap.size->Sat Ok w' (mR (RS.got (RS.mK (RS.cY (RS.dR (s.sZ t) g1 c1 X ((s.sZ t).l.say t (-1) 1 (s.l.us t))) H c2 D t s.V.nl) W c3 U (((s.sZ t).l.say t (-1) 1 (s.l.us t)).wait t s.V.nl (aU s.V t (s.l.us t).toNat).t)) s.l.wl ⟨(cN (aU s.V t (s.l.us t).toNat)).k,(cN (aU s.V t (s.l.us t).toNat)).n,⟨0,0,s.l.us t⟩::(cN (aU s.V t (s.l.us t).toNat)).ch⟩ (.slice q d u))++C')->RV Ok (RS.mK (RS.cY (RS.dR (s.sZ t) g1 c1 X ((s.sZ t).l.say t (-1) 1 (s.l.us t))) H c2 D t s.V.nl) W c3 U (((s.sZ t).l.say t (-1) 1 (s.l.us t)).wait t s.V.nl (aU s.V t (s.l.us t).toNat).t))->nP B C' (.slice q d u) (⟨0,0,s.l.us t⟩::(cN (aU s.V t (s.l.us t).toNat)).ch)->Ψ (G (cf.finish (.tuple #[])) cs) w'):
 Ψ (G (Frame.enter prog 76 #[ptr s.gm,i6 t] .normal) (cf::cs)) w:=by
 obtain⟨s,rfl⟩:=RS.jI N8;obtain⟨s,rfl⟩:=RS.Mp (s:=s) LZ;replace ht:t<s.l.tl:=ht;replace O:(s.l.tk t).c=t:=O;replace WG:t<s.V.nc:=WG;replace Ar:s.l.el<100000000:=Ar;replace I:s.l.wl<1000000000:=I;replace J:s.l.al<1000000000:=J;replace Z:0<=s.l.us t/\s.l.us t<1000000000:=Z;replace o:0<=s.l.now/\s.l.now<1000000000000:=o;refine dg f76 func76 _ rfl 124 (by kernel_rfl) hS λbb a0 B1 hn g iK jf S0 iI=>?_
 refine bA F hB g jf S0 10 [0,0,4,1,3,t,0,101] [2] [] [(16,i6 (s.l.tk t).c),(0,ptr s.gm),(1,i6 t)] (λM=>M) 0 10 [] [] [] [((↑t:Int),s.l.tl)] [(1,(t,s.l.tl))] λa1 w1 S1 kJ iH jA dS=>?_
 rw[O]at S1;refine bA F hB g kJ S1 31 [0,0,6,1,7,t,0,101,0,0,6,1,7,t,0,101,7,t,0,101] [2,2,2] [] [(35,i6 (s.l.us t)),(34,i6 t),(33,ptr s.gm),(5,i6 (s.l.us t)),(4,i6 t),(0,ptr s.gm),(1,i6 t)] (λM=>bu 7 (t,0) (i6 (IntKind.wrap .i64 (s.l.us t+1))) (M)) 0 41 [] [] [] [((↑t:Int),s.V.nc),((↑t:Int),s.V.nc),((↑t:Int),s.V.nc)] [(3,(t,s.V.nc))] λa2 w2 S jQ fV je Qz=>?_
 have hw:IntKind.wrap .i64 (s.l.us t+1)=s.l.us t+1:=aA (by omega) (by omega);rw[hw]at S;replace S:St Ok B1 124 _ (mR (RS.sZ {s with ca:=some ca,ta:=some tg} t)++C) 0 a2 w2:=⟨S.env,S.sat.re 7 rfl rfl _ λj _ f _=>fN (C:=λx=>[i6 x]) rfl (show 0<1 by omega) j f,S.sz⟩;refine bK F g jQ S 36 82 #[ptr s.gm,i6 t,i6 (-1),i6 1,i6 (s.l.us t)] λcf2 XX=>?_
 refine kS F hB (s:=RS.sZ {s with ca:=some ca,ta:=some tg} t) S.sat ⟨hv.a,hv.t,hv.w,hv.e⟩ (by omega) (by show s.l.el<1000000000;omega) rfl ht λg' cap' vs' w3 h3 Y ji=>XX _ _ _ h3 λa3 T S3 jF gQ=>?_
 by_cases hn:s.l.us t<s.V.nt t
 .have SI:decide (s.l.us t<(s.V.nt t:Int))=true:=by simpa using hn
  refine bA F hB g jF S3 33 [0,0,0,3,1,0,1,1,13,t,1,101,1,0,1,1,13,t,1,101] [2,2,2] [] [(57,i6 (s.l.us t)),(56,.slice (s.dH t) (s.V.nt t) (s.dU t)),(6,ptr T),(5,i6 (s.l.us t)),(0,ptr s.gm),(1,i6 t)] (λM=>bR (T) [i6 1,i6 0,i6 0]::(M)) 1 75 [true] [] [(decide (s.l.us t<(↑(s.V.nt t):Int)),true)] [((↑t:Int),s.V.nc),((↑t:Int),s.V.nc)] [(2,(t,s.V.nc))] λa4 w4 R Q jP oB TR=>?_
  obtain⟨ta,hth,Ys⟩:=htr (by show 0<s.V.nt t;omega);rw[show s.dH t=some ta from hth]at R;replace R:=R.get (((Ys.app (mR (RS.dR (RS.sZ {s with ca:=some ca,ta:=some tg} t) g' cap' vs' ((RS.sZ {s with ca:=some ca,ta:=some tg} t).l.say t (-1) 1 (s.l.us t))))).cons (x:=bR T [i6 1,i6 0,i6 0])));refine bA F hB g Q R 4 [0,Int.toNat (s.l.us t),0,103,1,0,0,3] [2] [] [(6,ptr T),(5,i6 (s.l.us t)),(0,ptr s.gm),(1,i6 t)] (λM=>bu 1 (0,2) (i6 (s.V.tr t (Int.toNat (s.l.us t))).t) (bu 1 (0,1) (i6 (s.V.tr t (Int.toNat (s.l.us t))).n) (bu 1 (0,0) (i6 (s.V.tr t (Int.toNat (s.l.us t))).k) (M)))) 1 79 [true] [] [] [(s.l.us t,s.V.nt t)] [(3,(Int.toNat (s.l.us t),s.V.nt t))] λa5 w5 S5 nC mz kT jv=>?_
  rw[Wd];have p:aU s.V t (s.l.us t).toNat=s.V.tr t (s.l.us t).toNat:=ah (by omega);replace hx:0<=(aU s.V t (s.l.us t).toNat).t/\(aU s.V t (s.l.us t).toNat).t<=1000:=hx;rw[p]at hx;replace K:=K
  exact BA F hB g iK (s:=RS.dR (RS.sZ {s with ca:=some ca,ta:=some tg} t) g' cap' vs' ((RS.sZ {s with ca:=some ca,ta:=some tg} t).l.say t (-1) 1 (s.l.us t))) (C:=fR ta 3 (λj=>tL (s.V.tr t j)) (s.V.nt t) false::C) (x:=s.V.tr t (s.l.us t).toNat) Y (by omega) rfl nC rfl ht (by show s.l.el+1<1000000000;omega) I J o hx
   (λz v w' C' hl P hz l H c2 D ho d hc h1 h2 h3=>(p▸K) z v w' C' hl (dY.cA.cons.trans P) (by omega) l H c2 D g' cap' vs' ho d hc h1 h2 h3)
   (λl C' w' H c2 D W c3 U q d u P hz=>(p▸K2) l C' w' g' cap' vs' H c2 D W c3 U q d u (dY.cA.cons.trans P) (by omega))
   ⟨S5.env,Sat.back (A:=bR T (tL (s.V.tr t (s.l.us t).toNat))::mR (RS.dR (RS.sZ {s with ca:=some ca,ta:=some tg} t) g' cap' vs' ((RS.sZ {s with ca:=some ca,ta:=some tg} t).l.say t (-1) 1 (s.l.us t)))) S5.sat,rfl⟩
 .have SI:decide (s.l.us t<(s.V.nt t:Int))=false:=by simpa using hn
  have p:aU s.V t (s.l.us t).toNat=⟨1,0,0⟩:=af (by omega);refine bA F hB g jF S3 24 [0,0,0,3,1,0,1,1,13,t,1,101] [2,0] [] [(6,ptr T),(5,i6 (s.l.us t)),(0,ptr s.gm),(1,i6 t)] (λM=>bR (T) [i6 1,i6 0,i6 0]::(M)) 1 66 [false] [] [(decide (s.l.us t<(↑(s.V.nt t):Int)),false)] [((↑t:Int),s.V.nc)] [(1,(t,s.V.nc))] λa4 w4 R Q jP oB TR=>?_
  exact BA F hB g iK (s:=RS.dR (RS.sZ {s with ca:=some ca,ta:=some tg} t) g' cap' vs' ((RS.sZ {s with ca:=some ca,ta:=some tg} t).l.say t (-1) 1 (s.l.us t))) (C:=C) (x:=⟨1,0,0⟩) Y (by omega) rfl Q rfl ht (by show s.l.el+1<1000000000;omega) I J o (by decide)
   (λz v w' C' hl P hz l H c2 D ho d hc h1 h2 h3=>(p▸K) z v w' C' hl P (by omega) l H c2 D g' cap' vs' ho d hc h1 h2 h3)
   (λl C' w' H c2 D W c3 U q d u P hz=>(p▸K2) l C' w' g' cap' vs' H c2 D W c3 U q d u P (by omega))
   ⟨R.env,R.sat,rfl⟩
structure RI(Ok:dw)(B:Nat)(V:Ev0)(w:aj)(s:RS)(C:aX):Prop where
 v:s.V=V
 sat:Sat Ok w (mR s++C)
 rv:RV Ok s
 bw:B<=w.heap.size
 la:0<V.nl->∃la,s.la=some la
 ca:0<V.nc->∃ca,s.ca=some ca
 oh:∀j,j<V.nc->nP B C (s.oh j) (s.l.ou j).b.ch
 wh:∀j,j<s.l.wl->nP B C (s.wh j) (s.l.wt j).b.ch
 xH:∀c,c<V.nc->0<V.nt c->∃ta,s.dH c=some ta/\Has C (fR ta 3 (λj=>tL (V.tr c j)) (V.nt c) false)
 gh:mY B C V.nl s.l.gt s.gb
structure Fx(s s':RS):Prop where
 gm:s'.gm=s.gm
 v:s'.V=s.V
 la:s'.la=s.la
 ca:s'.ca=s.ca
 th:s'.dH=s.dH
 oa:s'.oa=s.oa
 oc:s'.oc=s.oc
theorem Fx.cA{s:RS}:Fx s s:=⟨rfl,rfl,rfl,rfl,rfl,rfl,rfl⟩
theorem Fx.trans{s g f:RS}(h:Fx s g)(d:Fx g f):Fx s f:=⟨d.gm.trans h.gm,d.v.trans h.v,d.la.trans h.la,d.ca.trans h.ca,d.th.trans h.th,d.oa.trans h.oa,d.oc.trans h.oc⟩
theorem dY.has(h:dY C C')(d:Has C r):Has C' r:=by obtain⟨g,i,f⟩:=d;obtain⟨j,hj⟩:=h i r f;exact⟨g,j,hj⟩
section
variable{Lf:LS}
theorem RI.Wj{s d:RS}(h:RI Ok B V w s C)(u:Sat Ok w' (mR d++C'))(o:RV Ok d)(f:Fx s d)(p:dY C C')(g:w.heap.size<=w'.heap.size)(ho:∀j,j<V.nc->nP B C' (d.oh j) (d.l.ou j).b.ch)(l:∀j,j<d.l.wl->nP B C' (d.wh j) (d.l.wt j).b.ch)(q:mY B C' V.nl d.l.gt d.gb):RI Ok B V w' d C':=
 ⟨f.v.trans h.v,u,o,aT h.bw g,λz=>by rw[f.la];exact h.la z,λz=>by rw[f.ca];exact h.ca z,ho,l,λc D A=>by
  obtain⟨ta,x,v⟩:=h.xH c D A;exact⟨ta,by rw[f.th];exact x,p.has v⟩,q⟩
theorem RI.mv{s d:RS}(h:RI Ok B V w s C)(p:Sat Ok w' (mR d++C'))(o:RV Ok d)(q:Fx s d)(f:dY C C')(g:w.heap.size<=w'.heap.size)(ho:∀j,j<V.nc->nP B C' (d.oh j) (d.l.ou j).b.ch)(l:∀j,j<d.l.wl->nP B C' (d.wh j) (d.l.wt j).b.ch)(u:d.l.gt=s.l.gt:=by rfl)(eb:d.gb=s.gb:=by rfl):RI Ok B V w' d C':=
 h.Wj p o q f g ho l (by rw[u,eb];exact h.gh.inc f)
theorem RI.yg{s:RS}(h:RI Ok B V w s C)(d:dY C C')(j:Nat)(hj:j<V.nc):nP B C' (s.oh j) (s.l.ou j).b.ch:=(h.oh j hj).inc d
theorem RI.zk{s:RS}(h:RI Ok B V w s C)(d:dY C C')(j:Nat)(hj:j<s.l.wl):nP B C' (s.wh j) (s.l.wt j).b.ch:=(h.wh j hj).inc d
theorem RI.tg{s:RS}(h:RI Ok B V w s C)(d:t<s.l.tl):∃g,s.ta=some g:=by
 rcases h.rv.t.row with ⟨_,z,_⟩|⟨g,z,_⟩
 .omega
 .exact⟨_,z⟩
def UC(Ok:dw)(B:Nat)(V:Ev0)(Lf:LS)(Ψ:gi)(cf:aE)(cs:cW)(m:Nat)(w:aj)(s:RS)(C:aX):Prop:=
 ∀s' C' w' m',RI Ok B V w' s' C'->m'<m->Fx s s'->dY C C'->Fin V Lf m' none s'.l->w.heap.size<=w'.heap.size->Ψ (G (cf.finish (.tuple #[])) cs) w'
theorem UC.mv{g:aE}{f:cW}{m1:Nat}{l:aj}{s o:RS}{p:aX}(h:UC Ok B V Lf Ψ cf cs m w s C)(hl:fT Ok B Ψ cf cs g f)(I:m1<=m)(G:Fx s o)(x:dY C p)(H:w.heap.size<=l.heap.size):UC Ok B V Lf Ψ g f m1 l o p:=
 λu C' w' v d K F D A J=>hl w' _ d.sat d.bw λq z j=>h u C' q v ⟨d.v,z,d.rv,aT d.bw j,d.la,d.ca,d.oh,d.wh,d.xH,d.gh⟩ (by omega) (G.trans F) (x.trans D) A (by omega)
theorem fT.trans{j g:aE}{f d:cW}(h:fT Ok B Ψ cf cs j f)(z:fT Ok B Ψ j f g d):fT Ok B Ψ cf cs g d:=
 λw M x q K=>z w M x q λu p l=>h u M p (aT q l) λs o v=>K s o (by omega)
theorem LS.KP(y:ko)(t k:Nat)(L:LS):(L.jc y t k).1.ou=L.ou/\(L.jc y t k).1.wl=L.wl/\(L.jc y t k).1.wt=L.wt:=by
 unfold LS.jc LS.tQ
 split<;>exact⟨rfl,rfl,rfl⟩
theorem LS.NJ(y:ko)(t k:Nat)(L:LS):(L.pass y t k).1.ou=L.ou/\(L.pass y t k).1.wl=L.wl/\(L.pass y t k).1.wt=L.wt:=by
 have d:(L.aM t k).ou=L.ou/\(L.aM t k).wl=L.wl/\(L.aM t k).wt=L.wt:=by unfold LS.aM;split<;>exact⟨rfl,rfl,rfl⟩
 have f:((L.aM t k).cz k).ou=L.ou/\((L.aM t k).cz k).wl=L.wl/\((L.aM t k).cz k).wt=L.wt:=by
  unfold LS.cz;split
  .exact d
  .exact d
 unfold LS.pass LS.tQ
 split
 .exact⟨rfl,rfl,rfl⟩
 .split
  .exact d
  .exact f
theorem LS.Kr(y:ko)(t k:Nat)(b:Bk)(L:LS):(L.count y t k b).ou=L.ou/\(L.count y t k b).wl=L.wl/\(L.count y t k b).wt=L.wt:=by
 unfold LS.count
 split
 .exact⟨rfl,rfl,rfl⟩
 .split
  .exact⟨rfl,rfl,rfl⟩
  .dsimp only
   split
   .exact⟨rfl,rfl,rfl⟩
   .split<;>exact⟨rfl,rfl,rfl⟩
theorem Aj(F:aC prog main (DX Ok) Ψ)(hB:HB B Ok)(hV:vf V):∀(m:Nat)(cf:aE)(cs:cW)(w:aj)(s:RS)(C:aX)(t k:Nat)(ob:Option Bk),RI Ok B V w s C->Fin V Lf m (some (t,k,ob)) s.l->UC Ok B V Lf Ψ cf cs m w s C->
 (ob=none->Ψ (G (Frame.enter prog 58 #[ptr s.gm,i6 t,i6 k] .normal) (cf::cs)) w)/\(∀b,ob=some b->∀ho hl hc,nP B C (.slice ho hl hc) b.ch->Ψ (G (Frame.enter prog 83 #[ptr s.gm,i6 t,i6 k,lu b (.slice ho hl hc)] .normal) (cf::cs)) w):=by
 intro m
 induction m with
 |zero=>intro cf cs w s C t k ob I hf;exact hf.elim
 |succ m ih=>
  intro cf cs w s C t k ob I hf hK;obtain⟨p,hk,hb,g⟩:=hf;have e:=I.v;subst e;have H:t<s.l.tl:=by rw[p.tl];exact p.tn
  obtain⟨tg,Q⟩:=I.tg H;have LM:=hV.nl;refine⟨λe=>?_,λb e ho hl hc gI=>?_⟩
  .subst e
   by_cases XC:k<s.V.nl/\((s.V.ly k).k=3\/(s.V.ly k).k=4)
   .obtain⟨D,Ov⟩:=XC
    have gk:∀(q:LS×Option (Nat×Option Bk))(P:aE)(K:cW)(w':aj)(C':aX),fT Ok B Ψ cf cs P K->dY C C'->w.heap.size<=w'.heap.size->(q.1.ou=s.l.ou/\q.1.wl=s.l.wl/\q.1.wt=s.l.wt)->(match q with|(L',none)=>Fin s.V Lf m none L'|(L',some (k',Ry))=>Fin s.V Lf m (some (t,k',Ry)) L')->Y9 Ok B Ψ P K w' s C' t k q:=by
     intro q P K w' C' hl u S R hq O J w2 U ea ec vv gb gc A f v Z h2 h3;obtain⟨L',o⟩:=q;replace f:dY C' U:=f;have I2:=I.Wj Z h2 ⟨rfl,rfl,rfl,rfl,rfl,rfl,rfl⟩ (u.trans f) (by omega) (λj hj=>by dsimp only at R ⊢;rw[R.1];exact I.yg (u.trans f) j hj) (λj hj=>by dsimp only at R hj ⊢;rw[R.2.1]at hj;rw[R.2.2];exact I.zk (u.trans f) j hj) h3;refine⟨λnb i e pO hn=>?_,λe=>?_⟩
     .dsimp only at e
      subst e;exact(ih O J w2 _ U t k (some _) I2 hq (hK.mv (hl.trans A) (by omega) ⟨rfl,rfl,rfl,rfl,rfl,rfl,rfl⟩ (u.trans f) (by omega))).2 _ rfl _ _ _ (.inr ⟨_,_,i,rfl,hn,pO,az _⟩)
     .dsimp only at e
      subst e;exact(ih O J w2 _ U t (k+1) none I2 hq (hK.mv (hl.trans A) (by omega) ⟨rfl,rfl,rfl,rfl,rfl,rfl,rfl⟩ (u.trans f) (by omega))).1 rfl
    refine Ph F hB I.sat I.bw D (I.la (by omega)) (λP K w' C' hl u S x=>⟨λh3=>?_,λT=>?_⟩) Ov
    .simp only[LS.step,af (show¬k=s.V.nl by omega),af (show¬(s.V.ly k).k=1 by omega),ah h3]at g
     exact KR F hB x I.rv (aT I.bw S) Q H (by have:=p.el;omega) D (by omega) (I.gh.inc u) (hV.ra k D h3) p.now (p.gt k D (by omega)) (gk _ P K w' C' hl u S (LS.KP ..) g)
    .simp only[LS.step,af (show¬k=s.V.nl by omega),af (show¬(s.V.ly k).k=1 by omega),af (show¬(s.V.ly k).k=3 by omega),ah T]at g
     exact NM F hB x I.rv (aT I.bw S) Q H p.el D (by omega) (I.gh.inc u) (hV.br k D T).2.2.2.2 p.now (p.gt k D (by omega)) (gk _ P K w' C' hl u S (LS.NJ ..) g)
   refine Pg F hB I.sat I.bw Q H hk hV.nl I.la (λz=>by have:=hV.kd k z;omega) λP K w' C' hl u S=>⟨λD x=>?_,λD W x=>?_,λD GP x=>?_⟩
   .replace u:dY C C':=u
    subst D;obtain⟨ca,LZ⟩:=I.ca (by have:=p.tn;omega);have hc:(s.l.tk t).c.toNat=t:=by rw[p.tc];omega
    have Y:=hK.mv (m1:=m+1) hl (az _) Fx.cA u S;refine I8 F hB x I.rv (aT I.bw S) Q LZ H p.tc p.tn LM (by have:=p.el;omega) (by have:=p.wl;omega) (by have:=p.al;omega) ⟨p.us.1,by have:=p.us.2;omega⟩ p.now (λz=>?_) (Le hV p.tn _) (λO J w2 U A f v JH g' cap' vs' g1 c1 v1 ho uR wo Z h2 h3=>?_) (λJH U w2 g1 c1 v1 g2 c2 v2 g3 c3 v3 GI uR wo f v Z h2 h3=>?_)
    .obtain⟨ta,z1,z2⟩:=I.xH t p.tn z
     exact⟨ta,z1,dY.has u z2⟩
    .simp only[LS.step,hc,if_true,JH]at g
     exact(ih O J w2 _ U t s.V.nl (some _) (I.mv Z h2 ⟨rfl,rfl,rfl,rfl,rfl,rfl,rfl⟩ (u.trans f) (by omega) (I.yg (u.trans f)) (I.zk (u.trans f))) g (Y.mv A (by omega) ⟨rfl,rfl,rfl,rfl,rfl,rfl,rfl⟩ f v)).2 _ rfl ho uR wo h3
    .simp only[LS.step,hc,if_true,af JH]at g
     refine Y _ U w2 m (I.mv Z ⟨h2.a,h2.t,h2.w,h2.e⟩ ⟨rfl,rfl,rfl,rfl,rfl,rfl,rfl⟩ (u.trans f) (by omega) (I.yg (u.trans f)) λj hj=>?_) (by omega) ⟨rfl,rfl,rfl,rfl,rfl,rfl,rfl⟩ f g v
     by_cases ej:j=s.l.wl
     .subst ej
      simpa [LS.say,LS.wait,LS.cY,LS.put,upd]using h3
     .have:=I.zk (u.trans f) j (by have:j<s.l.wl+1:=hj;omega)
      simpa [LS.say,LS.wait,LS.cY,LS.put,upd,ej]using this
   .simp only[LS.step,af (show¬k=s.V.nl by omega),ah W]at g
    exact(ih P K w' _ C' t (k+1) none (I.mv x ⟨I.rv.a,I.rv.t,I.rv.w,I.rv.e⟩ ⟨rfl,rfl,rfl,rfl,rfl,rfl,rfl⟩ u S (I.yg u) (I.zk u)) g (hK.mv hl (by omega) ⟨rfl,rfl,rfl,rfl,rfl,rfl,rfl⟩ u S)).1 rfl
   .simp only[LS.step,af (show¬k=s.V.nl by omega),af (show¬(s.V.ly k).k=1 by omega),af (show¬(s.V.ly k).k=3 by omega),af (show¬(s.V.ly k).k=4 by omega)]at g
    exact(ih P K w' _ C' t (k+1) none (I.mv x I.rv ⟨rfl,rfl,rfl,rfl,rfl,rfl,rfl⟩ u S (I.yg u) (I.zk u)) g (hK.mv hl (by omega) ⟨rfl,rfl,rfl,rfl,rfl,rfl,rfl⟩ u S)).1 rfl
  .subst e
   obtain⟨JZ,Qq⟩:=hb b rfl;refine Rv F hB I.sat I.bw Q H p.to (by omega) λP K w' r LO x S=>⟨λLU=>?_,λj hkj=>?_⟩
   .subst LU
    simp only[LS.step,if_true]at g;refine T0 F hB x (aT I.bw S) Q H (by rw[p.tf];decide) p.tc p.tn λw2 h2 v=>?_
    refine(hK.mv LO (az _) Fx.cA (dY.cA.cons (r:=r)) S) _ (r::C) w2 m (I.mv h2 ⟨I.rv.a,I.rv.t,I.rv.w,I.rv.e⟩ ⟨rfl,rfl,rfl,rfl,rfl,rfl,rfl⟩ (dY.cA.cons) (by omega) (λj hj=>?_) (I.zk dY.cA.cons)) (by omega) ⟨rfl,rfl,rfl,rfl,rfl,rfl,rfl⟩ dY.cA g v;have hc:(s.l.tk t).c.toNat=t:=by rw[p.tc];omega
    by_cases ej:j=t
    .subst ej
     have:=gI.inc (C':=r::C) dY.cA.cons
     simpa [LS.end_,upd,hc]using this
    .have:=I.yg (C':=r::C) dY.cA.cons j hj
     simpa [LS.end_,upd,hc,ej]using this
   .subst hkj
    have hj:j<s.V.nl:=by omega
    have Y:=hK.mv (m1:=m+1) LO (az _) Fx.cA (dY.cA.cons (r:=r)) S;have X:dY C (r::C):=dY.cA.cons;have LP:=I.la (by omega)
    by_cases XC:(s.V.ly j).k=3\/(s.V.ly j).k=4
    .have hLr:mY B (r::C) s.V.nl s.l.gt s.gb:=I.gh.inc X
     refine Pv F hB x I.rv (aT I.bw S) Q H hj (by omega) (by have:=p.el;omega) LP hLr (XC.imp id λT=>⟨T,p.gt j hj (by omega),⟨(hV.br j hj T).1,(hV.br j hj T).2.2.1,(hV.br j hj T).2.2.2.2⟩,p.q j hj T⟩) ((gI.inc X).Ul []) JZ.1 λO J w2 U A f v=>⟨λh3 Z=>?_,λT ea ec vv gb gc Z h2 h3=>?_⟩
     .replace f:dY (r::C) U:=f
      have d:=X.trans f;simp only[LS.step,mZ,iR,and_false,if_false,fY,af (show¬(s.V.ly j).k=1 by omega),af (show¬(s.V.ly j).k=4 by omega),af (show¬((s.V.ly j).k=2/\b.k=3) by omega)]at g;exact(ih O J w2 s U t j (some b) (I.mv Z I.rv Fx.cA d (by omega) (I.yg d) (I.zk d)) g (Y.mv A (by omega) Fx.cA f v)).2 b rfl ho hl hc (gI.inc d)
     .replace f:dY (r::C) U:=f
      have d:=X.trans f;simp only[LS.step,mZ,iR,and_false,if_false,fY,af (show¬(s.V.ly j).k=1 by omega),ah T]at g;have R:=LS.Kr (s.V.ly j) t j b s.l;have I2:=I.Wj Z h2 ⟨rfl,rfl,rfl,rfl,rfl,rfl,rfl⟩ d (by omega) (λj hj=>by dsimp only;rw[R.1];exact I.yg d j hj) (λj hj=>by dsimp only at hj ⊢;rw[R.2.1]at hj;rw[R.2.2];exact I.zk d j hj) h3;exact(ih O J w2 _ U t j (some b) I2 g (Y.mv A (by omega) ⟨rfl,rfl,rfl,rfl,rfl,rfl,rfl⟩ f v)).2 b rfl ho hl hc (gI.inc d)
    refine Pt F hB x I.rv (aT I.bw S) Q H hj (by have:=p.el;omega) LP (by have:=hV.kd j hj;omega) λO J w2 U A f v=>⟨λW Z=>?_,λGP X3 Z=>?_,λGP X3 g' cap' vs' nb i Z h2 pO h3=>?_⟩
    .replace f:dY (r::C) U:=f
     have L4:=gI.inc (X.trans f);have ha:=Qq (by omega);rw[fY]at ha;have Ey:=Y.mv (m1:=m+1) A (az _) Fx.cA f v;have d:=X.trans f;refine KN F hB Z I.rv (by have:=I.bw;omega) Q H (by omega) L4 JZ.1 (λz=>?_) (by have:=p.el;omega) (by have:=p.wl;omega) (by have:=p.al;omega) p.tx p.now (hV.rt j hj W) (ha W) (λlq YQ w3 C3 Xs l gQ=>⟨λhq T=>?_,λhq hn g' cap' vs' ca cap T h5 h6=>?_,λhq hn hp g' cap' vs' T h5=>?_⟩) (λhq hn hp C3 w3 g' cap' vs' g2 c2 v2 g3 c3 v3 l gQ T h5=>?_)
     .rcases JZ.2.2 with ⟨z1,_⟩|⟨_,_,z1⟩|⟨z1,_⟩
      .omega
      .exact z1
      .omega
     .simp only[LS.step,mZ,iR,and_false,if_false,fY,ah W,ah hq]at g
      exact(ih lq YQ w3 s C3 t j (some b) (I.mv T I.rv Fx.cA (d.trans l) (by omega) (I.yg (d.trans l)) (I.zk (d.trans l))) g (Ey.mv Xs (by omega) Fx.cA l gQ)).2 b rfl ho hl hc (L4.inc l)
     .simp only[LS.step,mZ,iR,and_false,if_false,fY,ah W,af hq,ah hn]at g
      exact(ih lq YQ w3 _ C3 t j (some _) (I.mv T h5 ⟨rfl,rfl,rfl,rfl,rfl,rfl,rfl⟩ (d.trans l) (by omega) (I.yg (d.trans l)) (I.zk (d.trans l))) g (Ey.mv Xs (by omega) ⟨rfl,rfl,rfl,rfl,rfl,rfl,rfl⟩ l gQ)).2 _ rfl _ _ _ h6
     .have Sz:¬aH (s.V.ly j) ((s.l.tk t).a j)>0:=hp
      simp only[LS.step,mZ,iR,and_false,if_false,fY,ah W,af hq,af hn,af Sz]at g;exact(ih lq YQ w3 _ C3 t (j+1) none (I.mv T h5 ⟨rfl,rfl,rfl,rfl,rfl,rfl,rfl⟩ (d.trans l) (by omega) (I.yg (d.trans l)) (I.zk (d.trans l))) g (Ey.mv Xs (by omega) ⟨rfl,rfl,rfl,rfl,rfl,rfl,rfl⟩ l gQ)).1 rfl
     .have Sz:aH (s.V.ly j) ((s.l.tk t).a j)>0:=hp
      simp only[LS.step,mZ,iR,and_false,if_false,fY,ah W,af hq,af hn,ah Sz]at g;refine Ey _ C3 w3 m (I.mv T h5 ⟨rfl,rfl,rfl,rfl,rfl,rfl,rfl⟩ (d.trans l) (by omega) (I.yg (d.trans l)) λi u=>?_) (by omega) ⟨rfl,rfl,rfl,rfl,rfl,rfl,rfl⟩ l g gQ
      by_cases ej:i=s.l.wl
      .subst ej
       left
       simp[LS.say,LS.wait,LS.cY,LS.put,LS.lD,upd]
      .have:=I.zk (d.trans l) i (by have:i<s.l.wl+1:=u;omega)
       simpa [LS.say,LS.wait,LS.cY,LS.put,LS.lD,upd,ej]using this
    .replace f:dY (r::C) U:=f
     have d:=X.trans f;simp only[LS.step,mZ,iR,and_false,if_false,fY,af (show¬(s.V.ly j).k=1 by omega),af (show¬(s.V.ly j).k=4 by omega),af (λz:(s.V.ly j).k=2/\b.k=3=>X3 z.2)]at g;exact(ih O J w2 s U t j (some b) (I.mv Z I.rv Fx.cA d (by omega) (I.yg d) (I.zk d)) g (Y.mv A (by omega) Fx.cA f v)).2 b rfl ho hl hc (gI.inc d)
    .replace f:dY (r::C) U:=f
     have d:=X.trans f;simp only[LS.step,mZ,iR,and_false,if_false,fY,af (show¬(s.V.ly j).k=1 by omega),af (show¬(s.V.ly j).k=4 by omega),ah (show(s.V.ly j).k=2/\b.k=3 from⟨GP,X3⟩)]at g;exact(ih O J w2 _ U t j (some _) (I.mv Z h2 ⟨rfl,rfl,rfl,rfl,rfl,rfl,rfl⟩ d (by omega) (I.yg d) (I.zk d)) g (Y.mv A (by omega) ⟨rfl,rfl,rfl,rfl,rfl,rfl,rfl⟩ f v)).2 _ rfl _ _ _ (.inr ⟨_,_,i,rfl,h3,pO,az _⟩)
end
section
variable{Lf:LS}
theorem NE(F:aC prog main (DX Ok) Ψ)(hB:HB B Ok){s:RS}{tg:Addr}(hS:Sat Ok w (mR s++C))(gp:B<=w.heap.size)(u:s.ta=some tg)(O:t<s.l.tl)(f:(s.l.tk t).o=-1)(g:e.t=t)(j:e.c=0)(K:∀p o w' C',fT Ok B Ψ cf cs p o->dY C C'->w.heap.size<=w'.heap.size->Sat Ok w' (mR s++C')->Ψ (G (Frame.enter prog 58 #[ptr s.gm,i6 t,i6 (0:Nat)] .normal) (p::o)) w'):
 Ψ (G (Frame.enter prog 46 #[ptr s.gm,.agg (D5 e).toArray] .normal) (cf::cs)) w:=by
 obtain⟨s,rfl⟩:=RS.jI u;replace O:t<s.l.tl:=O;replace f:(s.l.tk t).o=-1:=f;obtain⟨ea,et,ew,ec,eo⟩:=e
 simp only at g j
 subst g;subst j;have Z:IntKind.wrap .i64 ((s.l.tk t).o+1)=((0:Nat):Int):=by rw[f];decide
 refine dg f46 func46 _ rfl 84 (by kernel_rfl) hS λbb a0 B1 hn d H D S0 W=>?_
 refine bA F hB d D S0 14 [0,0,3,1,0,0,1,1,1,0,4,1,0,0,1,1,4,t,3,101] [3,2] [13] [(20,i6 (IntKind.wrap .i64 ((s.l.tk t).o+1))),(10,i6 t),(8,ptr s.gm)] (λM=>bR (B1) [i6 ea,i6 t,i6 ew,i6 0,.bool eo]::(M)) 1 14 [true] [13] [] [((↑t:Int),s.l.tl)] [(1,(t,s.l.tl))] λa1 R J z U Y dS=>?_
 rw[Z]at J;refine bK F d z J 21 58 #[ptr s.gm,i6 t,i6 0] λI l=>?_
 refine K I _ R _ (λw2 M h2 uf X=>l _ _ _ h2 λa2 B2 S2 x T=>?_) dY.cA.cons (by omega) (Sat.back (A:=mR {s with ta:=some tg}) J.sat);refine aq F hB d x S2 1 [] [] [] [] (λM=>M) 0 16 [true] [13] λa3 Q P v S q dX=>?_
 refine cV F P d H v [] (.tuple #[]) ?_;exact X Q P.sat q
abbrev RS.M8(s:RS)(t i:Nat):RS:={s with l:=s.l.iD t i}
theorem RS.QT{s:RS}{g:Addr}(h:s.wa=some g):∃d:RS,s={d with wa:=some g}:=⟨s,by cases s;simp at h;subst h;rfl⟩
theorem ND(F:aC prog main (DX Ok) Ψ)(hB:HB B Ok){s:RS}{tg wg:Addr}(hS:Sat Ok w (mR s++C))(gp:B<=w.heap.size)(R:s.ta=some tg)(Q:s.wa=some wg)(ht:t<s.l.tl)(hi:i<s.l.wl)(p:(s.l.wt i).e=false)(o:(s.l.wt i).x=false)(u:e.t=t)(q:e.w=i)(v:e.c=1)(K:∀I H w' C',fT Ok B Ψ cf cs I H->dY C C'->w.heap.size<=w'.heap.size->Sat Ok w' (mR (s.M8 t i)++C')->Ψ (G (Frame.enter prog 59 #[ptr s.gm,i6 t,i6 (s.l.wt i).l,i6 1,lu (s.l.wt i).b (s.wh i)] .normal) (I::H)) w'):
 Ψ (G (Frame.enter prog 46 #[ptr s.gm,.agg (D5 e).toArray] .normal) (cf::cs)) w:=by
 obtain⟨s,rfl⟩:=RS.jI R;obtain⟨s,rfl⟩:=RS.QT (s:=s) Q;replace ht:t<s.l.tl:=ht;replace hi:i<s.l.wl:=hi;replace p:(s.l.wt i).e=false:=p;replace o:(s.l.wt i).x=false:=o;obtain⟨ea,et,ew,ec,eo⟩:=e
 simp only at u q v
 subst u;subst q;subst v;refine dg f46 func46 _ rfl 84 (by kernel_rfl) hS λbb a0 B1 hn d Z Y S0 iI=>?_
 refine bA F hB d Y S0 58 [0,0,3,1,0,0,2,1,1,0,5,1,6,i,3,101,0,0,3,1,1,0,5,1,6,i,2,101,1,0,5,1,6,i,3,101] [1,2,0,1,1,1,3,3,3,3,3,3,2,3,3,1,0,2] [] [(4,i6 i),(3,ptr B1),(0,ptr s.gm)] (λM=>bR (B1) [i6 ea,i6 t,i6 i,i6 1,.bool eo]::(bu 5 (i,3) (.bool true) (M))) 1 58 [false,false] [] [((s.l.wt i).x,false),((s.l.wt i).e,false)] [((↑i:Int),s.l.wl),((↑i:Int),s.l.wl),((↑i:Int),s.l.wl)] [(3,(i,s.l.wl))] λa1 w1 O X iH jA dS=>?_
 replace O:St Ok B1 84 _ (bR B1 (D5 ⟨ea,t,i,1,eo⟩)::(mR {s with wa:=some wg,ta:=some tg,l:={s.l with wt:=upd s.l.wt i {s.l.wt i with e:=true}}}++C)) 1 a1 w1:=⟨O.env,O.sat.re 6 rfl rfl (λj=>rN (upd s.l.wt i {s.l.wt i with e:=true} j,s.wh j)) λj _ f hf=>?_,O.sz⟩
 .refine bA F hB d X O 6 [1,0,4,1,0,0,1,1,4,t,6,101] [2] [6] [(4,i6 i),(3,ptr B1),(0,ptr s.gm)] (λM=>bu 4 (t,6) (i6 (-1)) (M)) 1 64 [false,false] [6] [] [((↑t:Int),s.l.tl)] [(1,(t,s.l.tl))] λa2 w2 J W fV je Qz=>?_
  replace J:St Ok B1 84 _ (bR B1 (D5 ⟨ea,t,i,1,eo⟩)::(mR (RS.M8 {s with wa:=some wg,ta:=some tg} t i)++C)) 1 a2 w2:=⟨J.env,J.sat.re 4 rfl rfl _ λj _ f _=>fN rfl (show 6<19 by decide) j f,J.sz⟩;have hu:upd s.l.wt i {s.l.wt i with e:=true} i={s.l.wt i with e:=true}:=by simp[upd]
  refine bA F hB d W J 2 [0,0,1,1,1,0,5,1,6,i,1,101,0,0,3,1,1,0,5,1,6,i,4,103] [2,2] [21] [(82,.agg #[i6 (upd s.l.wt i (H7.mk (s.l.wt i).t (s.l.wt i).l (s.l.wt i).x true (s.l.wt i).b) i).b.k,i6 (upd s.l.wt i (H7.mk (s.l.wt i).t (s.l.wt i).l (s.l.wt i).x true (s.l.wt i).b) i).b.n,aJ.get (aJ.mk (λj=>Addr.add (Addr.add (Option.getD (some wg) (Addr.mk 0 0 none)) (j.fst*7)) j.snd) [] (λj f=>List.getD (rN (upd s.l.wt i (H7.mk (s.l.wt i).t (s.l.wt i).l (s.l.wt i).x true (s.l.wt i).b) j,s.wh j)) f undef) s.l.wl 7 false (some (wg.block,136,s.wc*7))) (i,6)]),(74,i6 1),(72,i6 (upd s.l.wt i (H7.mk (s.l.wt i).t (s.l.wt i).l (s.l.wt i).x true (s.l.wt i).b) i).l),(64,i6 t),(62,ptr s.gm)] (λM=>M) 1 66 [false,false] [6,21] [] [((↑i:Int),s.l.wl),((↑i:Int),s.l.wl)] [(4,(i,s.l.wl))] λa3 w3 S3 U gQ ji dX=>?_
  rw[hu]at S3;refine bK F d U S3 83 59 #[ptr s.gm,i6 t,i6 (s.l.wt i).l,i6 1,.agg #[i6 (s.l.wt i).b.k,i6 (s.l.wt i).b.n,aJ.get (aJ.mk (λj=>Addr.add (Addr.add (Option.getD (some wg) (Addr.mk 0 0 none)) (j.fst*7)) j.snd) [] (λj f=>List.getD (rN (upd s.l.wt i (H7.mk (s.l.wt i).t (s.l.wt i).l (s.l.wt i).x true (s.l.wt i).b) j,s.wh j)) f undef) s.l.wl 7 false (some (wg.block,136,s.wc*7))) (i,6)]] λlq D=>?_
  refine K lq _ w3 _ (λw4 M h4 L7 hz=>D _ _ _ h4 λa4 B4 S4 T jP=>?_) dY.cA.cons (by omega) (Sat.back (A:=mR (RS.M8 {s with wa:=some wg,ta:=some tg} t i)) S3.sat);refine aq F hB d T S4 1 [] [] [] [] (λM=>M) 0 68 [false,false] [6,21] λa5 w5 S5 S mz P jv=>?_
  refine cV F S5 d Z S [] (.tuple #[]) ?_;exact hz w5 S5.sat P
 .exact(cP (λz=>(rN z).getD f undef) (show(upd s.l.wt i {s.l.wt i with e:=true} j,s.wh j)=upd (λj=>(s.l.wt j,s.wh j)) i ({s.l.wt i with e:=true},s.wh i) j by unfold upd;by_cases z:j=i<;>simp[z])).trans (fN (C:=rN) (g:=λj=>(s.l.wt j,s.wh j)) (l:=3) (x:=.bool true) rfl (show 3<7 by decide) j f)
end
section
variable{Lf:LS}
abbrev UZ(c:Int):PG:=⟨c,-1,-1,-1,false,false,-1,λ_=>0,λ_=>0⟩
def LS.nL(L:LS)(c:Int):LS:={L with tl:=L.tl+1,tk:=upd L.tk L.tl (UZ c)}
abbrev RS.nL(s:RS)(g' cap':Nat)(vs':fH)(c:Int):RS:={s with ta:=some ⟨g',0,none⟩,tc:=cap',tv:=vs',l:=s.l.nL c}
theorem Jo(e:PG):∀u∈Ff e,u.oneCell'=true:=by
 intro u d;simp only[Ff,ak,bB,or_false]at d;rcases d with rfl|rfl|rfl|rfl|rfl|rfl|rfl|rfl|rfl|rfl|rfl|rfl|rfl|rfl|rfl|rfl|rfl|rfl|rfl<;>rfl
theorem VY:lG prog 85 131 19 144=true:=by kernel_rfl
theorem Nd(F:aC prog main (DX Ok) Ψ)(hB:HB B Ok){s:RS}{c:Int}(hS:Sat Ok w (mR s++C))(l:RV Ok s)(gp:B<=w.heap.size)(WH:s.l.tl<1000000)(K:∀g' cap' vs' w',Sat Ok w' (mR (s.nL g' cap' vs' c)++C)->RV Ok (s.nL g' cap' vs' c)->w.heap.size<=w'.heap.size->Ψ (G (cf.finish (i6 s.l.tl)) cs) w'):
 Ψ (G (Frame.enter prog 43 #[ptr s.gm,i6 c,i6 (-1),i6 (-1),i6 (-1)] .normal) (cf::cs)) w:=by
 refine dg Tryz.f43 func43 _ rfl 33 (by kernel_rfl) hS λbb a0 B1 hn d D x S0 W=>?_
 refine aq F hB d x S0 15 [0,0,0,19] [] [] [(11,ptr B1),(0,ptr s.gm)] (λM=>bR (B1) [i6 c,i6 (-1),i6 (-1),i6 (-1),.bool false,.bool false,i6 (-1),i6 0,i6 0,i6 0,i6 0,i6 0,i6 0,i6 0,i6 0,i6 0,i6 0,i6 0,i6 0]::(M)) 1 15 [] [] λa1 w1 S1 v U Z dS=>?_
 refine VE [] [] F aB (λa wr z=>hB a wr (by omega)) d 7 [(1,(0,4),true),(0,(0,0),true),(0,(0,1),true),(0,(0,2),true),(0,(0,3),true),(0,(0,4),true),(0,(0,5),true),(0,(0,6),true),(0,(0,7),true),(0,(0,8),true),(0,(0,9),true),(0,(0,10),true),(0,(0,11),true),(0,(0,12),true),(0,(0,13),true),(0,(0,14),true),(0,(0,15),true),(0,(0,16),true),(0,(0,17),true),(0,(0,18),true)] [] [(17,ptr s.gm),(0,ptr s.gm)] (bR (B1+1) (Ff (UZ c))::·) 2 [] [] [] 21 23 24 85 131 19 144 5 6 0 VY (by kernel_rfl) (by kernel_rfl) (by kernel_rfl) (by kernel_rfl) (by kernel_rfl) (λ_ _ h=>by cases h) rfl rfl (by decide) (by kernel_rfl) cg cg cg S1 rfl rfl (by decide) rfl l.t (λ_ _=>rfl) rfl (Jo _) (by omega) (by simp only[maxLen];omega) (by omega) λg' cap' R vs' a2 g Q A hz H f=>?_
 have O:St Ok g.heap.size 33 _ _ 0 a2 g:=⟨H,A.sat,rfl⟩;have o:g.heap.size=g.heap.size:=rfl;have p:=A.size;replace f:=f.trans v;generalize hB2:g.heap.size=B2 at O o p;refine aq F hB d f O 5 [2,0,4,1] [] [] [(0,ptr s.gm)] (λM=>bu 2 (0,4) (.slice (some ⟨g',0,none⟩) (s.l.tl+1) cap') (M)) 0 21 [] [8] λa3 J j u T Y dX=>?_
 have h3:Sat Ok J (mR (s.nL g' cap' vs' c)++C):=j.sat.tail.tail.re 3 rfl rfl _ A.upd;replace j:St Ok B2 33 _ (mR (s.nL g' cap' vs' c)++C) 0 a3 J:=⟨j.env,h3,j.sz⟩;have hw:IntKind.wrap .i64 (((s.l.tl+1:Nat):Int)-1)=s.l.tl:=by rw[aA (by omega) (by omega)];omega
 refine aq F hB d u j 9 [0,0,4,1] [] [] [(10,i6 (IntKind.wrap .i64 ((↑(s.l.tl+1):Int)-1)))] (λM=>M) 0 30 [] [8] λa4 P I q S X TR=>?_
 rw[hw]at I;refine cV F I d D q [] (i6 s.l.tl) ?_;exact K g' cap' vs' P I.sat ⟨l.a,A.vc,l.w,l.e⟩ (by omega)
theorem NC(F:aC prog main (DX Ok) Ψ)(hB:HB B Ok)(hV:vf V){s:RS}{L:LS}(I:RI Ok B V w s C)(A:s.l=L.pop i)(T:Fin V Lf (m+1) none L)(hn:cj L.ag L.al=i)(he:e={L.ag i with o:=true})(hK:UC Ok B V Lf Ψ cf cs (m+1) w s C):
 Ψ (G (Frame.enter prog 46 #[ptr s.gm,.agg (D5 e).toArray] .normal) (cf::cs)) w:=by
 obtain⟨qW,T⟩:=T;rw[af (by omega)]at T;simp only[hn,tE]at T;obtain⟨t,h1,W,h3⟩:=T;rw[<-A]at W h3;have e0:=I.v;subst e0;have q:t<s.l.tl:=by rw[W.tl];exact W.tn
 obtain⟨tg,v⟩:=I.tg q;have U:e.t=t:=by rw[he];exact h1
 rcases h3 with ⟨h4,h5⟩|⟨h4,x,h5,h6,h7,h8,h9,X⟩
 .refine NE F hB I.sat I.bw v q W.to U (by rw[he];exact h4) λZ Y w' C' hl f hz hS=>?_
  exact(Aj F hB hV m Z Y w' s C' t 0 none (I.mv hS I.rv Fx.cA f hz (I.yg f) (I.zk f)) h5 (hK.mv hl (by omega) Fx.cA f hz)).1 rfl
 .have JI:s.l.wl=L.wl:=by rw[A];rfl
  have LI:s.l.wt=L.wt:=by rw[A];rfl
  obtain⟨wg,hwa⟩:∃g,s.wa=some g:=by
   rcases I.rv.w.row with ⟨_,z,_⟩|⟨g,z,_⟩
   .omega
   .exact⟨_,z⟩
  rw[<-LI]at h7 h8 h9 X;have l:=I.wh x (by omega);refine ND F hB I.sat I.bw v hwa q (by omega) h9 h8 U (by rw[he];exact h5) (by rw[he];exact h4) λZ Y w' C' hl f hz hS=>?_
  have Q:RV Ok (s.M8 t x):=⟨I.rv.a,I.rv.t,I.rv.w,I.rv.e⟩
  have P:∀j,j<s.l.wl->∀u,dY C u->nP B u (s.wh j) ((s.M8 t x).l.wt j).b.ch:=λj hj u d=>by
   have:=I.zk d j hj
   by_cases ej:j=x
   .subst ej;simpa [LS.iD,upd]using this
   .simpa [LS.iD,upd,ej]using this
  rcases X with ⟨J,y,ch,H,p⟩|⟨k,J,H,p,TG⟩
  .rw[H]at l
   rw[J]
   have R:ch.length<1000000:=by
    cases m with
    |zero=>exact p.elim
    |succ m=>exact(p.2.2.1 _ rfl).1.1
   refine Wh F hB (s:=s.M8 t x) (k:=s.V.nl) (kk:=(s.l.wt x).b.k) (nn:=(s.l.wt x).b.n) hS Q (by have:=I.bw;omega) v q rfl (l.inc f) R (by have:=W.el;show s.l.el<_;omega) λO K w2 u D d fV g' cap' vs' ho S hc g1 g2 g3=>?_
   exact(Aj F hB hV m O K w2 _ u t s.V.nl (some _) (I.mv g1 g2 ⟨rfl,rfl,rfl,rfl,rfl,rfl,rfl⟩ (f.trans d) (by omega) (I.yg (f.trans d)) (λj hj=>P j hj u (f.trans d))) p (hK.mv (hl.trans D) (by omega) ⟨rfl,rfl,rfl,rfl,rfl,rfl,rfl⟩ (f.trans d) (by omega))).2 _ rfl ho S hc g3
  .rw[p]
   obtain⟨la,LP⟩:=I.la (by omega)
   obtain⟨ho,S,hc,ehd⟩:∃ho hl hc,s.wh x=.slice ho hl hc:=by
    rcases l with ⟨z,_⟩|⟨ca,cap,i,z,_⟩
    .exact⟨_,_,_,z⟩
    .exact⟨_,_,_,z⟩
   rw[ehd];refine We F hB (s:=s.M8 t x) hS (by have:=I.bw;omega) LP J hV.nl H λO K w2 u D d fV g1=>?_
   exact(Aj F hB hV m O K w2 _ u t (k+1) none (I.mv g1 Q ⟨rfl,rfl,rfl,rfl,rfl,rfl,rfl⟩ (f.trans d) (by omega) (I.yg (f.trans d)) (λj hj=>P j hj u (f.trans d))) TG (hK.mv (hl.trans D) (by omega) ⟨rfl,rfl,rfl,rfl,rfl,rfl,rfl⟩ (f.trans d) (by omega))).1 rfl
end
theorem RE(F:aC prog main (DX Ok) Ψ){b:aE}(hk:b.kind=.normal){t:eF}(s d ty:Nat){e:TypeId}{cells:iG}(j:∀w,(Instr.makeSlice ty (.int .i64 (n:Int)) (.int .i64 (n:Int))).run prog w=.ok (.slice (some ⟨w.heap.size,0,none⟩) n n) (w.alloc (.cells cells.toArray e)))(v:∀w es,(Instr.makeSlice ty (.int .i64 (n:Int)) (.int .i64 (n:Int))).events prog w es=es)(ho:lm t=true)(q:Dy (aQ t) s d ty=true)(P:d<N)(z:look E s=some (i6 n))(S:St Ok B N E M c a w)(K:∀a' w',World.alloc w (.cells cells.toArray e)=w'->Kp [] w w'->aN ((d,.slice (some ⟨w.heap.size,0,none⟩) n n)::E) N a'->a'.defers=a.defers->w'.heap.size=w.heap.size+1->Ψ (G (b.at a' (jY t)) cs) w'):Ψ (G (b.at a t) cs) w:=by
 obtain⟨D,i,r,kk,J,u,O⟩:=dO ho;obtain⟨U,T,A⟩:=BT q;have l:a.eval (.tmp s)=i6 n:=by rw[S.env.eval (by simp[kn,z])];simp[ev,z]
 have f:∀d,(execOp a.eval (aQ t)).run prog (w.at d)=.ok (.value (.slice (some ⟨w.heap.size,0,none⟩) n n)) ((w.at d).alloc (.cells cells.toArray e)):=λd=>by
  unfold execOp;rw[A];simp only[l];have:=j (w.at d);simp[this]
  rfl
 have g:∀d,raw prog a (aQ t) (w.at d)=#[]:=λd=>by
  unfold raw execOp;rw[A];simp only[l];have R:=j (w.at d);have Q:=v (w.at d) #[];simp[R,Q]
 rw[J];refine F.op u (by simp[Region.wanted,U]) (by rw[hk];decide) (λW K' x=>?_);rw[f W,alloc_at'];generalize o:World.alloc w _=p;have H:Kp [] w p:=Kp.alloc o;have I:=gr o rfl;refine x _ p ⟨?_,?_⟩
 .rw[g,<-o,<-alloc_at']
  exact DX.alloc _ _ (by simp)
 .rw[<-O,T]
  exact K _ p o H (S.env.put P) (put_defers _ _ _) (by omega)
theorem RF(F:aC prog main (DX Ok) Ψ)(hB:HB B Ok){b:aE}(hk:b.kind=.normal){t:eF}(s d:Nat)(ho:lm t=true)(g:Dy (aQ t) s d 58=true)(D:d<N)(x:look E s=some (i6 n))(o:n<=9)(z:B<=B')(S:St Ok B' N E M c a w)(K:∀a' w',Sat Ok w' (fR ⟨w.heap.size,0,none⟩ 1 (λ_=>[i6 0]) n true::M)->aN ((d,.slice (some ⟨w.heap.size,0,none⟩) n n)::E) N a'->a'.defers=a.defers->w'.heap.size=w.heap.size+1->Ψ (G (b.at a' (jY t)) cs) w'):Ψ (G (b.at a t) cs) w:=by
 have H:B<=w.heap.size:=by rw[S.sz];omega
 refine RE F hk s d 58 (Wl n o) (RG n o) ho g D x S λa' q p u I l v=>?_
 refine K a' q (S.sat.sJ u (N:=[_]) (λr f=>?_) (MO ..) (λr f j hj=>?_)) I l v
 .simp only[ak,bB,or_false]at f
  subst f;refine rX (λj hj i A=>?_) (λa wr J=>hB _ _ (by omega));refine⟨?_,bY p rfl _⟩
  match i,A with
  |0,_=>exact aV (i:=j*1+0) p rfl (by simpa using zG n j hj)
 .simp only[ak,bB,or_false]at f
  subst f
  show w.heap.size<=(((⟨w.heap.size,0,none⟩:Addr).add (j.1*1)).add j.2).block
  rw[add_add];exact az _
def VM:Nat->List Value
 |0=>[]
 |n+1=>.bool false::.int .i64 0::.int .i64 0::.int .i64 0::.int .i64 0::.slice none 0 0::.int .i64 0::.int .i64 0::VM n
theorem mkG(n:Nat)(h:n<=6)(w:aj):(Instr.makeSlice 87 (.int .i64 (n:Int)) (.int .i64 (n:Int))).run prog w=.ok (.slice (some ⟨w.heap.size,0,none⟩) n n) (w.alloc (.cells (VM n).toArray 208)):=by
 obtain rfl|rfl|rfl|rfl|rfl|rfl|rfl:n=0\/n=1\/n=2\/n=3\/n=4\/n=5\/n=6:=by omega
 all_goals kernel_rfl
theorem Wm(n:Nat)(h:n<=6)(w:aj)(es:dL):(Instr.makeSlice 87 (.int .i64 (n:Int)) (.int .i64 (n:Int))).events prog w es=es:=by
 obtain rfl|rfl|rfl|rfl|rfl|rfl|rfl:n=0\/n=1\/n=2\/n=3\/n=4\/n=5\/n=6:=by omega
 all_goals kernel_rfl
theorem ET:∀(n j f:Nat),j<n->f<8->(VM n)[j*8+f]? =some ((nN gz none 0).getD f undef)
 |0,j,f,h,_=>by omega
 |n+1,0,f,_,d=>by
  rcases f with _|_|_|_|_|_|_|_|f
  all_goals first|omega|rfl
 |n+1,j+1,f,h,d=>by
  rw[show(j+1)*8+f=(j*8+f)+8 by omega];exact ET n j f (by omega) d
theorem RH(F:aC prog main (DX Ok) Ψ)(hB:HB B Ok){b:aE}(hk:b.kind=.normal){t:eF}(s d:Nat)(ho:lm t=true)(g:Dy (aQ t) s d 87=true)(D:d<N)(x:look E s=some (i6 n))(o:n<=6)(z:B<=B')(S:St Ok B' N E M c a w)(K:∀a' w',Sat Ok w' (fR ⟨w.heap.size,0,none⟩ 8 (λ_=>nN gz none 0) n true::M)->aN ((d,.slice (some ⟨w.heap.size,0,none⟩) n n)::E) N a'->a'.defers=a.defers->w'.heap.size=w.heap.size+1->Ψ (G (b.at a' (jY t)) cs) w'):Ψ (G (b.at a t) cs) w:=by
 have H:B<=w.heap.size:=by rw[S.sz];omega
 refine RE F hk s d 87 (mkG n o) (Wm n o) ho g D x S λa' q p u I l v=>?_
 refine K a' q (S.sat.sJ u (N:=[_]) (λr f=>?_) (MO ..) (λr f j hj=>?_)) I l v
 .simp only[ak,bB,or_false]at f
  subst f;refine rX (λj hj i A=>?_) (λa wr J=>hB _ _ (by omega));exact⟨aV (i:=j*8+i) p rfl (by simpa using ET n j i hj A),bY p rfl _⟩
 .simp only[ak,bB,or_false]at f
  subst f
  show w.heap.size<=(((⟨w.heap.size,0,none⟩:Addr).add (j.1*8)).add j.2).block
  rw[add_add];exact az _
def kQ(V:Ev0):Nat->LS
 |0=>⟨0,0,λ_=>⟨0,0,0,0,false⟩,0,λ_=>UZ 0,0,λ_=>⟨0,0,false,false,⟨0,0,[]⟩⟩,λ_=>0,λ_=>⟨0,⟨0,0,[]⟩⟩,0,λ_=>⟨0,0,0,0,0⟩,λ_=>gz⟩
 |k+1=>((kQ V k).nL k).put ⟨V.st k,k,-1,0,false⟩
theorem vh(V:Ev0):∀k,(kQ V k).now=0/\(kQ V k).al=k/\(kQ V k).tl=k/\(kQ V k).wl=0/\(kQ V k).el=0/\(∀i,(kQ V k).us i=0)/\(∀i,(kQ V k).ou i=⟨0,⟨0,0,[]⟩⟩)/\(∀i,i<k->(kQ V k).ag i=⟨V.st i,i,-1,0,false⟩/\(kQ V k).tk i=UZ i)
 |0=>⟨rfl,rfl,rfl,rfl,rfl,λ_=>rfl,λ_=>rfl,λi h=>by omega⟩
 |k+1=>by
  obtain⟨q,f,d,p,o,l,j,g⟩:=vh V k;refine⟨q,by show(kQ V k).al+1=k+1;rw[f],by show(kQ V k).tl+1=k+1;rw[d],p,o,l,j,λi s=>?_⟩
  show upd (kQ V k).ag (kQ V k).al _ i=_/\upd (kQ V k).tk (kQ V k).tl _ i=_
  rw[f,d]
  by_cases e:i=k
  .subst e;simp[upd]
  .have:=g i (by omega);simpa [upd,e]using this
theorem vg(V:Ev0):∀k i,(kQ V k).gt i=gz
 |0,_=>rfl
 |k+1,i=>vg V k i
section
variable{Lf:LS}
theorem Bs(F:aC prog main (DX Ok) Ψ)(hB:HB B Ok){bb:aE}(d:bb.kind=.normal){cs:cW}{C:aX}{o:Nat}(h9:V.nc<=9):
 ∀(m k:Nat)(s:RS)(x:Act)(w:aj)(B1:Nat),k+m=V.nc->s.V=V->(0<V.nc->∃ca,s.ca=some ca)->s.l=kQ V k->RV Ok s->x.defers=[]->B<=B1->w.heap.size=B1->
   St Ok B1 102 [(10,i6 k),(9,ptr s.gm),(4,ptr o),(1,.slice s.ca V.nc s.cc)] (mR s++C) 0 x w->
   (∀f a' w' B',Fx s f->f.oh=s.oh->f.l=kQ V V.nc->RV Ok f->a'.defers=[]->B1<=B'->w'.heap.size=B'->St Ok B' 102 [(65,ptr s.gm),(9,ptr s.gm),(4,ptr o)] (mR f++C) 0 a' w'->Ψ (G (bb.at a' (pc prog 31 85 [false,false] [])) cs) w')->
   Ψ (G (bb.at x (pc prog 31 71 [false] [])) cs) w
 |0,k,s,x,w,B1,hk,p,q,hl,O,j,Q,D,Z,K=>by
  have h1:decide ((k:Int)<(V.nc:Int))=false:=by simp;omega
  refine bA F hB d j Z 14 [] [0] [] [(65,ptr s.gm),(9,ptr s.gm),(4,ptr o)] (λM=>M) 0 85 [false,false] [] [(decide ((↑k:Int)<(↑V.nc:Int)),false)] [] [] λa1 w1 z g A H Y=>?_
  have e:k=V.nc:=by omega
  subst e;exact K s a1 w1 B1 Fx.cA rfl hl O g (az _) (by omega) z
 |m+1,k,s,x,w,B1,hk,p,q,hl,O,j,Q,D,Z,K=>by
  have h1:decide ((k:Int)<(V.nc:Int))=true:=by simp;omega
  obtain⟨ca,W⟩:=q (by omega);obtain⟨s,rfl⟩:=RS.Mp W;replace p:s.V=V:=p;have hVn:s.V.nc=V.nc:=by rw[p]
  replace hl:s.l=kQ V k:=hl;obtain⟨f1,f2,f3,f4,f5,f6,f7,f8⟩:=vh V k;have P:s.l.tl=k:=by rw[hl];exact f3
  have qW:s.l.al=k:=by rw[hl];exact f2
  refine bA F hB d j Z 16 [] [2] [] [(54,i6 k),(53,ptr s.gm),(10,i6 k),(9,ptr s.gm),(4,ptr o),(1,.slice (some ca) V.nc s.cc)] (λM=>M) 0 87 [false,true] [] [(decide ((↑k:Int)<(↑V.nc:Int)),true)] [] [] λa1 w1 z g A H Y=>?_
  refine bK F d g z 55 43 #[ptr s.gm,i6 k,i6 (-1),i6 (-1),i6 (-1)] λgJ v=>?_
  refine Nd F hB (s:={s with ca:=some ca}) (c:=k) z.sat O (by omega) (by show s.l.tl<1000000;omega) λg' cap' vs' w2 h2 J je=>v _ _ _ h2 λa2 B2 S2 U fV=>?_
  rw[show({s with ca:=some ca}:RS).l.tl=k from P]at S2;have ZY:k<s.V.nc:=by omega
  refine bA F hB d U S2 11 [12,k,0,101] [2] [] [(63,.agg #[i6 (s.V.st k),i6 k,i6 (-1),i6 0,.bool false]),(56,ptr s.gm),(10,i6 k),(9,ptr s.gm),(4,ptr o),(1,.slice (some ca) V.nc s.cc)] (λM=>M) 0 99 [false,true] [] [] [((↑k:Int),V.nc)] [(1,(k,s.V.nc))] λa3 w3 S3 T gQ ji dX=>?_
  refine bK F d T S3 64 44 #[ptr s.gm,.agg #[i6 (s.V.st k),i6 k,i6 (-1),i6 0,.bool false]] λlq u=>?_
  refine Ls F hB (s:=RS.nL {s with ca:=some ca} g' cap' vs' k) ⟨s.V.st k,k,-1,0,false⟩ S3.sat J (by omega) (by show s.l.al<1000000000;omega) λX c2 v2 w4 h4 I oB=>u _ _ _ h4 λa4 B4 S4 S jP=>?_
  have hw:IntKind.wrap .i64 ((k:Int)+1)=((k+1:Nat):Int):=by rw[aA (by omega) (by omega)];rfl
  refine aq F hB d S S4 8 [] [] [] [(10,i6 (IntKind.wrap .i64 ((↑k:Int)+1))),(9,ptr s.gm),(4,ptr o),(1,.slice (some ca) V.nc s.cc)] (λM=>M) 0 108 [false,true] [] λa5 w5 S5 R mz kT jv=>?_
  rw[hw]at S5;rw[show pc prog 31 108 [false,true] []=pc prog 31 71 [false] [] by kernel_rfl];refine Bs F hB d h9 m (k+1) (RS.mK (RS.nL {s with ca:=some ca} g' cap' vs' k) X c2 v2 ((s.l.nL k).put ⟨s.V.st k,k,-1,0,false⟩)) a5 w5 B4 (by omega) p (λ_=>⟨ca,rfl⟩) ?_ I R (by omega) (by omega) S5 λf a' w' B' l X g3 g4 g5 g6 g7 g8=>K f a' w' B' ⟨l.gm,l.v,l.la,l.ca,l.th,l.oa,l.oc⟩ X g3 g4 g5 (by omega) g7 g8
  show(s.l.nL k).put _=_
  rw[hl,p];rfl
theorem NT(F:aC prog main (DX Ok) Ψ)(hB:HB B Ok){s:RS}(z:Sat Ok w (mR s++C))(A:B<=w.heap.size)(x:s.l.al=0)(K:∀w',Sat Ok w' (mR s++C)->w.heap.size<=w'.heap.size->Ψ (G (cf.finish (i6 (-1))) cs) w'):Ψ (G (Frame.enter prog 45 #[ptr s.gm] .normal) (cf::cs)) w:=by
 have Q:decide ((0:Int)<(s.l.al:Int))=false:=by simp;omega
 refine dg f45 func45 _ rfl 48 (by kernel_rfl) z λbb S B1 P d j g J q=>?_
 refine aq F hB d g J 15 [] [] [] [(4,i6 0),(3,i6 (-1)),(0,ptr s.gm)] (λM=>M) 0 15 [] [] λR O I f p v D=>?_
 refine qC F hB d j f I 18 [0,0,3,1] [0] [] 2 (i6 (-1)) (λM=>M) 0 33 [false] [] [(decide (0<(↑s.l.al:Int)),false)] [] [] λl H o u=>?_
 exact K l H.sat (by omega)
theorem Ga(F:aC prog main (DX Ok) Ψ)(hB:HB B Ok){s:RS}(I:RI Ok B V w s C)(j:s.l.al<1000000)(K:∀w',Sat Ok w' (mR s++C)->w.heap.size<=w'.heap.size->Ψ (G (cf.finish (i6 (cj s.l.ag s.l.al))) cs) w'):Ψ (G (Frame.enter prog 45 #[ptr s.gm] .normal) (cf::cs)) w:=by
 rcases I.rv.a.row with ⟨_,z,_⟩|⟨g,z,_⟩
 .rw[z]at K
  exact NT F hB I.sat I.bw z λw' d f=>K w' d f
 .exact NU F hB I.sat I.bw z (by omega) λw' d f=>K w' d (by omega)
theorem yh:∀{C:aX}{j:Nat}{r:aJ},nth C j=some r->∃C',C.Perm (r::C')/\∀x,Has C x->x≠r->Has C' x
 |[],j,r,h=>by cases h
 |x::C,0,r,h=>by
  cases h
  refine⟨C,.refl _,λx o d=>?_⟩;obtain⟨g,i,f⟩:=o;cases i with
  |zero=>cases f;exact absurd rfl d
  |succ i=>exact⟨g,i,f⟩
 |x::C,j+1,r,h=>by
  obtain⟨C',p,q⟩:=yh (C:=C) (j:=j) h;refine⟨x::C',(List.Perm.cons x p).trans (.swap ..),λy l d=>?_⟩;obtain⟨g,i,f⟩:=l;cases i with
  |zero=>exact⟨g,0,f⟩
  |succ i=>
   obtain⟨u,k,s⟩:=q y ⟨g,i,f⟩ d;exact⟨g,k+1,s⟩
theorem agl(F:aC prog main (DX Ok) Ψ)(hB:HB B Ok)(hV:vf V){bb:aE}(d:bb.kind=.normal)(iK:bb.fn=31){cf:aE}{cs:cW}{u:Nat}{C0:aX}:
 ∀(n m:Nat)(s:RS)(C:aX)(S:Act)(w:aj)(B1:Nat),m<=n->RI Ok B V w s C->Fin V Lf m none s.l->dY C0 C->(∃j,nth C j=some (bR u [.slice none 0 0,.slice none 0 0]))->S.defers=[]->B<=B1->w.heap.size=B1->aN [(12,i6 (cj s.l.ag s.l.al)),(9,ptr s.gm),(4,ptr u)] 102 S->
   (∀q C' w',Fx s q->q.l=Lf->(∀r,Has C0 r->Has C' r)->RI Ok B V w' q C'->w.heap.size<=w'.heap.size->Ψ (G (cf.finish (.tuple #[.agg #[.slice (some q.oa) q.V.nc q.oc,.slice q.ea q.l.el q.ec],i6 0,i6 0])) cs) w')->
   Ψ (G (bb.at S (pc prog 31 90 [false,false] [])) (cf::cs)) w
 |0,m,s,C,S,w,B1,hm,I,v,hi,hj,Q,hle,D,hA,K=>by
  have:m=0:=by omega
  subst this;exact v.elim
 |n+1,m,s,C,S,w,B1,hm,I,v,hi,hj,Q,hle,D,hA,K=>by
  cases m with
  |zero=>exact v.elim
  |succ m=>
   have qW:=v.1;have hV':=I.v;rcases sv s.l.ag s.l.al with H|⟨i,X,H⟩
   .have Xr:s.l=Lf:=by have:=v.2;rwa[ah (by omega)]at this
    obtain⟨j,hj⟩:=hj;obtain⟨U,p,hp⟩:=yh hj;rw[H]at hA;have S0:St Ok B1 102 [(12,i6 (-1)),(9,ptr s.gm),(4,ptr u)] (bR u [.slice none 0 0,.slice none 0 0]::(mR s++U)) 0 S w:=⟨hA,I.sat.perm ((p.append_left (mR s)).trans iQ),D⟩;refine aq F hB d Q S0 18 [1,0,8,2,0,0,0,2] [1] [] [(6,i6 0),(5,i6 0),(4,ptr u)] (λM=>bu 0 (0,1) (.slice s.ea s.l.el s.ec) (bu 0 (0,0) (.slice (some s.oa) s.V.nc s.oc) (M))) 0 108 [false,false,false] [] λa1 w1 A P iH jA dS=>?_
    refine cV F A d iK P [0,0,0,2] (.tuple #[.agg #[.slice (some s.oa) s.V.nc s.oc,.slice s.ea s.l.el s.ec],i6 0,i6 0]) ?_;have hH:∀r,Has C r->Has U r:=λr hr=>hp r hr (λz=>by have:=hr.1;rw[z]at this;cases this)
    have hCh:∀h L,nP B C h L->nP B U h L:=λh L z=>by
     rcases z with z|⟨ca,cap,i,z1,z2,z3,z4⟩
     .exact .inl z
     .obtain⟨_,i',J⟩:=hH _ ⟨rfl,i,z2⟩;exact .inr ⟨ca,cap,i',z1,J,z3,z4⟩
    exact K s U w1 Fx.cA Xr (λr hr=>hH r (dY.has hi hr)) ⟨I.v,A.sat.tail,I.rv,by omega,I.la,I.ca,λj hj=>hCh _ _ (I.oh j hj),λj hj=>hCh _ _ (I.wh j hj),λc h1 h2=>by
     obtain⟨ta,h3,h4⟩:=I.xH c h1 h2;exact⟨ta,h3,hH _ h4⟩,λk hk=>by
     rcases I.gh k hk with z|⟨ad,i,z1,z2,z3⟩
     .exact .inl z
     .obtain⟨_,i',J⟩:=hH _ ⟨rfl,i,z3⟩;exact .inr ⟨ad,i',z1,z2,J⟩⟩ (by omega)
   .have ho:=(qP _ _ _ H).2
    rw[H]at hA;have S0:St Ok B1 102 [(12,i6 i),(9,ptr s.gm),(4,ptr u)] (mR s++C) 0 S w:=⟨hA,I.sat,D⟩
    obtain⟨ag,X8⟩:∃g,s.aa=some g:=by
     rcases I.rv.a.row with ⟨_,z,_⟩|⟨g,z,_⟩
     .omega
     .exact⟨_,z⟩
    obtain⟨s,rfl⟩:=RS.Mv X8;replace X:i<s.l.al:=X;replace qW:s.l.al<1000000:=qW;replace H:cj s.l.ag s.l.al=i:=H;replace v:Fin V Lf (m+1) none s.l:=v;replace hV':s.V=V:=hV';refine bA F hB d Q S0 20 [0,0,3,1,1,i,4,101] [3,2] [] [(12,i6 i),(9,ptr s.gm),(4,ptr u)] (λM=>bu 1 (i,4) (.bool true) (M)) 0 110 [false,false,true] [] [] [((↑i:Int),s.l.al)] [(1,(i,s.l.al))] λa1 w1 A P iH jA dS=>?_
    replace A:St Ok B1 102 _ (mR {s with aa:=some ag,l:={s.l with ag:=upd s.l.ag i {s.l.ag i with o:=true}}}++C) 0 a1 w1:=⟨A.env,A.sat.re 1 rfl rfl _ λj _ f _=>fN rfl (show 4<5 by decide) j f,A.sz⟩;have hu:upd s.l.ag i {s.l.ag i with o:=true} i={s.l.ag i with o:=true}:=by simp[upd]
    refine bA F hB d P A 15 [0,0,3,1,1,i,0,101,0,0,2,1] [2] [] [(12,i6 i),(9,ptr s.gm),(4,ptr u)] (λM=>bu 0 (0,2) (i6 (upd s.l.ag i (rj.mk (s.l.ag i).a (s.l.ag i).t (s.l.ag i).w (s.l.ag i).c true) i).a) (M)) 0 125 [false,false,true] [] [] [((↑i:Int),s.l.al)] [(1,(i,s.l.al))] λa2 w2 T jQ fV je Qz=>?_
    rw[hu]at T;replace T:St Ok B1 102 _ (mR {s with aa:=some ag,l:=s.l.pop i}++C) 0 a2 w2:=⟨T.env,T.sat,T.sz⟩;refine bA F hB d jQ T 10 [0,0,3,1,1,i,0,105] [2] [] [(96,.agg #[i6 (upd s.l.ag i (rj.mk (s.l.ag i).a (s.l.ag i).t (s.l.ag i).w (s.l.ag i).c true) i).a,i6 (upd s.l.ag i (rj.mk (s.l.ag i).a (s.l.ag i).t (s.l.ag i).w (s.l.ag i).c true) i).t,i6 (upd s.l.ag i (rj.mk (s.l.ag i).a (s.l.ag i).t (s.l.ag i).w (s.l.ag i).c true) i).w,i6 (upd s.l.ag i (rj.mk (s.l.ag i).a (s.l.ag i).t (s.l.ag i).w (s.l.ag i).c true) i).c,.bool (upd s.l.ag i (rj.mk (s.l.ag i).a (s.l.ag i).t (s.l.ag i).w (s.l.ag i).c true) i).o]),(89,ptr s.gm),(9,ptr s.gm),(4,ptr u)] (λM=>M) 0 135 [false,false,true] [] [] [((↑i:Int),s.l.al)] [(5,(i,s.l.al))] λa3 w3 S3 jF gQ ji dX=>?_
    rw[hu]at S3;refine bK F d jF S3 97 46 #[ptr s.gm,.agg #[i6 (s.l.ag i).a,i6 (s.l.ag i).t,i6 (s.l.ag i).w,i6 (s.l.ag i).c,.bool true]] λlq Z=>?_
    have I3:RI Ok B V w3 {s with aa:=some ag,l:=s.l.pop i} C:=I.mv S3.sat ⟨I.rv.a,I.rv.t,I.rv.w,I.rv.e⟩ ⟨rfl,rfl,rfl,rfl,rfl,rfl,rfl⟩ dY.cA (by omega) I.oh I.wh;refine NC F hB hV (s:={s with aa:=some ag,l:=s.l.pop i}) (L:=s.l) (e:={s.l.ag i with o:=true}) I3 rfl v H rfl λq C' w4 m' I4 GM x W O jP=>Z _ _ _ I4.sat λa4 B4 S4 oD aae=>?_
    have XB:q.gm=s.gm:=x.gm;rw[<-XB]at S4;refine aq F hB d oD S4 4 [] [] [] [(69,ptr q.gm),(9,ptr q.gm),(4,ptr u)] (λM=>M) 0 140 [false,false,true] [] λa5 w5 S5 nC mz kT jv=>?_
    refine bK F d nC S5 70 45 #[ptr q.gm] λEB Y=>?_
    have X7:q.l.al<1000000:=by
     cases m' with
     |zero=>exact O.elim
     |succ m'=>exact O.1
    refine Ga F hB {I4 with sat:=S5.sat,bw:=by omega} X7 λw6 h6 yw=>Y _ _ _ h6 λa6 B6 S6 nB oS=>?_
    refine aq F hB d nB S6 3 [] [] [] [(12,i6 (cj q.l.ag q.l.al)),(9,ptr q.gm),(4,ptr u)] (λM=>M) 0 144 [false,false,true] [] λa7 w7 S7 lW oA oT tu=>?_
    rw[show pc prog 31 144 [false,false,true] []=pc prog 31 90 [false,false] [] by kernel_rfl];obtain⟨j,hj⟩:=hj;exact agl F hB hV d iK n m' q C' a7 w7 B6 (by omega) {I4 with sat:=S7.sat,bw:=by omega} O (hi.trans W) (W j _ hj) lW (by omega) (by omega) S7.env λs2 U w8 R g2 g3 g4 g5=>K s2 U w8 ⟨R.gm.trans x.gm,R.v.trans x.v,R.la.trans x.la,R.ca.trans x.ca,R.th.trans x.th,R.oa.trans x.oa,R.oc.trans x.oc⟩ g2 g3 g4 (by omega)
end
section
variable{Lf:LS}
theorem rR:Vc Ok none 0 0:=⟨.inl ⟨rfl,rfl,rfl⟩,az _,iN _,λa h=>by cases h⟩
abbrev V9(V:Ev0)(gm u o gt:Nat)(sL sa:eN)(cr cap:Nat)(dH:ru)(dU:cm):RS:=
 {gm:=gm,la:=sL,lc:=cr,ca:=sa,cc:=cap,dH:=dH,dU:=dU,aa:=none,ac:=0,av:=λ_=>[],ta:=none,tc:=0,tv:=λ_=>[],wa:=none,wc:=0,wv:=λ_=>[],wh:=λ_=>.slice none 0 0,ua:=⟨u,0,none⟩,uc:=V.nc,ga:=⟨gt,0,none⟩,gb:=λ_=>none,gc:=λ_=>0,oa:=⟨o,0,none⟩,oc:=V.nc,oh:=λ_=>.slice none 0 0,ea:=none,ec:=0,vv:=λ_=>[],V:=V,l:=kQ V 0}
theorem Ja{gm u o gt:Nat}(h:Sat Ok w (fR ⟨o,0,none⟩ 4 (λ_=>[i6 0,i6 0,i6 0,.slice none 0 0]) V.nc true::fR ⟨u,0,none⟩ 1 (λ_=>[i6 0]) V.nc true::fR ⟨gt,0,none⟩ 8 (λ_=>nN gz none 0) V.nl true::bR gm (mC (V9 V gm u o gt sL sa cr cap dH dU))::C))(hl:0<V.nl->∃la,sL=some la/\Has C (fR la 6 (λi=>ym (V.ly i)) V.nl false))(hc:0<V.nc->∃ca,sa=some ca/\Has C (fR ca 2 (λj=>[i6 (V.st j),.slice (dH j) (V.nt j) (dU j)]) V.nc false)):
 Sat Ok w (mR (V9 V gm u o gt sL sa cr cap dH dU)++C):=by
 let s:=V9 V gm u o gt sL sa cr cap dH dU
 let g:List aJ:=fR ⟨gt,0,none⟩ 8 (λ_=>nN gz none 0) V.nl true::C
 have I:Sat Ok w (fR ⟨o,0,none⟩ 4 (λ_=>[i6 0,i6 0,i6 0,.slice none 0 0]) V.nc true::fR ⟨u,0,none⟩ 1 (λ_=>[i6 0]) V.nc true::bR gm (mC s)::g):=h.perm (.cons _ (.cons _ (.swap ..)));have p:=Sat.back (A:=[bR gm (mC s)]) (Sat.back (A:=[fR ⟨u,0,none⟩ 1 (λ_=>[i6 0]) V.nc true,bR gm (mC s)]) I)
 let d:List aJ:=[bR gm (mC s),fR ⟨u,0,none⟩ 1 (λ_=>[i6 0]) V.nc true,fR ⟨o,0,none⟩ 4 (λ_=>[i6 0,i6 0,i6 0,.slice none 0 0]) V.nc true]
 have l:Sat Ok w (d++(fR (sa.getD ⟨0,0,none⟩) 2 (λj=>[i6 (V.st j),.slice (dH j) (V.nt j) (dU j)]) V.nc false::g)):=by
  refine Sat.back (A:=d) ?_
  by_cases z:0<V.nc
  .obtain⟨ca,rfl,f⟩:=hc z
   exact Sat.get p (f.cons.app d)
  .exact Sat.ff p (by show V.nc=0;omega) rfl
 have H:Sat Ok w (d++(fR (sL.getD ⟨0,0,none⟩) 6 (λj=>qR (V.ly j)) V.nl false::fR (sa.getD ⟨0,0,none⟩) 2 (λj=>[i6 (V.st j),.slice (dH j) (V.nt j) (dU j)]) V.nc false::g)):=by
  refine Sat.back (A:=d) ?_
  by_cases z:0<V.nl
  .obtain⟨la,rfl,f⟩:=hl z
   exact Sat.get l ((f.cons.cons).app d)
  .exact Sat.ff l (by show V.nl=0;omega) rfl
 have G:=Sat.back (A:=d) (Sat.ff (Sat.back (A:=d) (Sat.ff H (r:=sR s.ea 5 s.vv s.l.el s.ec) rfl rfl)) (r:=vR s.ea 5 (λj=>yR (s.l.ev j)) s.l.el s.ec 55) rfl rfl);have F:=Sat.back (A:=[bR gm (mC s)]) (Sat.ff G (r:=sR s.wa 7 s.wv s.l.wl s.wc) rfl rfl);have D:=Sat.back (A:=[bR gm (mC s)]) (Sat.ff F (r:=vR s.wa 7 (λj=>rN (s.l.wt j,s.wh j)) s.l.wl s.wc 136) rfl rfl);have x:=Sat.back (A:=[bR gm (mC s)]) (Sat.ff D (r:=sR s.ta 19 s.tv s.l.tl s.tc) rfl rfl);have v:=Sat.back (A:=[bR gm (mC s)]) (Sat.ff x (r:=vR s.ta 19 (λj=>Ff (s.l.tk j)) s.l.tl s.tc 131) rfl rfl);have q:=Sat.back (A:=[bR gm (mC s)]) (Sat.ff v (r:=sR s.aa 5 s.av s.l.al s.ac) rfl rfl);exact Sat.back (A:=[bR gm (mC s)]) (Sat.ff q (r:=vR s.aa 5 (λj=>D5 (s.l.ag j)) s.l.al s.ac 93) rfl rfl)
theorem Rf(F:aC prog main (DX Ok) Ψ)(hB:HB B Ok)(hV:vf V)(hf:Fin V Lf m none (kQ V V.nc))(g:0<V.nc->∃ca,sa=some ca/\Has M (fR ca 2 (λj=>[i6 (V.st j),.slice (dH j) (V.nt j) (dU j)]) V.nc false))(I:∀c,c<V.nc->0<V.nt c->∃ta,dH c=some ta/\Has M (fR ta 3 (λj=>tL (V.tr c j)) (V.nt c) false))(T:0<V.nl->∃la,sL=some la/\Has M (fR la 6 (λi=>ym (V.ly i)) V.nl false))(hS:Sat Ok w M)(gp:B<=w.heap.size)(XU:QO Ok Ψ B M 17 #[.slice sL V.nl cr,.slice sa V.nc cap] (.tuple #[i6 0,i6 0]))(K:∀s C w',s.l=Lf->s.V=V->s.oc=V.nc->(∀r,Has M r->Has C r)->RI Ok B V w' s C->w.heap.size<=w'.heap.size->Ψ (G (cf.finish (.tuple #[.agg #[.slice (some s.oa) V.nc V.nc,.slice s.ea s.l.el s.ec],i6 0,i6 0])) cs) w'):
 Ψ (G (Frame.enter prog 31 #[.slice sL V.nl cr,.slice sa V.nc cap] .normal) (cf::cs)) w:=by
 refine dg f31 func31 _ rfl 102 (by kernel_rfl) hS λbb a0 B1 hn d iK jf S0 iI=>?_
 refine aq F hB d jf S0 10 [] [] [] [(15,.slice sa V.nc cap),(14,.slice sL V.nl cr),(4,ptr B1),(0,.slice sL V.nl cr),(1,.slice sa V.nc cap)] (λM=>bR (B1) [.slice none 0 0,.slice none 0 0]::(M)) 1 10 [] [] λa1 w1 S1 kJ iH jA dS=>?_
 refine bK F d kJ S1 16 17 #[.slice sL V.nl cr,.slice sa V.nc cap] λgJ R=>?_
 refine XU _ _ _ _ (λr hr=>hr.cons) S1.sat (by omega) λw2 h2 U8=>R _ _ _ h2 λa2 l S2 jQ fV=>?_
 refine aq F hB d jQ S2 27 [] [1] [] [(30,i6 V.nl),(28,ptr l),(9,ptr l),(4,ptr B1),(1,.slice sa V.nc cap)] (λM=>bR (l) [.slice sL V.nl cr,.slice sa V.nc cap,i6 0,.slice none 0 0,.slice none 0 0,.slice none 0 0,.slice none 0 0,.slice none 0 0,.slice none 0 0,.slice none 0 0]::(M)) 1 38 [false] [] λa3 w3 S3 jF gQ ji dX=>?_
 have LM:=hV.nl;have p:=hV.nc;refine RH F hB d 30 31 (by kernel_rfl) (by kernel_rfl) (by decide) rfl LM (by omega) S3 λa4 w4 h4 Cf v jP=>?_
 rw[show jY (pc prog 31 38 [false] [])=pc prog 31 39 [false] [] by kernel_rfl];have S4:St Ok w4.heap.size 102 _ _ 0 a4 w4:=⟨Cf,h4,rfl⟩;replace v:=v.trans jF;generalize hB4:w4.heap.size=B4 at S4 jP;refine aq F hB d v S4 9 [1,0,7,1] [] [] [(36,i6 V.nc),(34,ptr l),(9,ptr l),(4,ptr B1),(1,.slice sa V.nc cap)] (λM=>bu 1 (0,7) (.slice (some ⟨Array.size w3.heap,0,none⟩) V.nl V.nl) (M)) 0 48 [false] [] λa5 w5 S5 nC mz kT jv=>?_
 refine RF F hB d 36 37 (by kernel_rfl) (by kernel_rfl) (by decide) rfl p (by omega) S5 λa6 Z h6 Qt u oS=>?_
 rw[show jY (pc prog 31 48 [false] [])=pc prog 31 49 [false] [] by kernel_rfl];have S6:St Ok Z.heap.size 102 _ _ 0 a6 Z:=⟨Qt,h6,rfl⟩;replace u:=u.trans nC;generalize hB6:Z.heap.size=B6 at S6 oS;refine aq F hB d u S6 9 [2,0,6,1] [] [] [(42,i6 V.nc),(40,ptr l),(9,ptr l),(4,ptr B1),(1,.slice sa V.nc cap)] (λM=>bu 2 (0,6) (.slice (some ⟨Array.size w5.heap,0,none⟩) V.nc V.nc) (M)) 0 58 [false] [] λa7 w7 S7 lW oA oT tu=>?_
 refine LB F (λa wr z=>hB a wr (by omega)) d 42 43 (by kernel_rfl) (by kernel_rfl) (by decide) rfl p S7 λa8 Y h8 hA8 q yt k8=>?_
 rw[show jY (pc prog 31 58 [false] [])=pc prog 31 59 [false] [] by kernel_rfl];have S8:St Ok Y.heap.size 102 _ _ 0 a8 Y:=⟨hA8,h8,rfl⟩;replace q:=q.trans lW;generalize hB8:Y.heap.size=B8 at S8 yt;refine aq F hB d q S8 12 [3,0,8,1] [] [] [(10,i6 0),(9,ptr l),(4,ptr B1),(1,.slice sa V.nc cap)] (λM=>bu 3 (0,8) (.slice (some ⟨Array.size w7.heap,0,none⟩) V.nc V.nc) (M)) 0 71 [false] [] λa9 w9 S9 OD An DD TP=>?_
 have h9:=Ja (C:=bR B1 [.slice none 0 0,.slice none 0 0]::M) (dH:=dH) (dU:=dU) S9.sat (λz=>by obtain⟨la,f,H⟩:=T z;exact⟨la,f,H.cons⟩) (λz=>by obtain⟨ca,f,H⟩:=g z;exact⟨ca,f,H.cons⟩);refine Bs F hB d p V.nc 0 _ a9 w9 B8 (bD _) rfl (λz=>by obtain⟨ca,f,_⟩:=g z;exact⟨ca,f⟩) rfl ⟨rR,rR,rR,rR⟩ OD (by omega) (by omega) ⟨S9.env,h9,S9.sz⟩ λo CN QV Ib A g2 U g4 Q g6 tY D=>?_
 have hL:=vh V V.nc
 have X:RI Ok B V QV o (bR B1 [.slice none 0 0,.slice none 0 0]::M):=⟨A.v,D.sat,g4,by omega,λz=>by obtain⟨la,f,_⟩:=T z;exact⟨la,A.la.trans f⟩,λz=>by obtain⟨ca,f,_⟩:=g z;exact⟨ca,A.ca.trans f⟩,λj hj=>by rw[g2,U,hL.2.2.2.2.2.2.1];exact .inl ⟨rfl,rfl⟩,λj hj=>by rw[U,hL.2.2.2.1]at hj;omega,λc h1 h2=>by
  obtain⟨ta,f,H⟩:=I c h1 h2;exact⟨ta,by rw[A.th];exact f,H.cons⟩,λk _=>.inl (by rw[U,vg];rfl)⟩
 have XB:o.gm=l:=A.gm;rw[<-XB]at D;refine bK F d Q D 66 45 #[ptr o.gm] λYV x=>?_
 refine Ga F hB X (by rw[U,hL.2.1];omega) λvp Ez v7=>x _ _ _ Ez λPF B11 KT P yu=>?_
 refine aq F hB d P KT 4 [] [] [] [(12,i6 (cj o.l.ag o.l.al)),(9,ptr o.gm),(4,ptr B1)] (λM=>M) 0 90 [false,false] [] λPE QU W O JG R5 TS=>?_
 refine agl F hB hV d iK m m o (bR B1 [.slice none 0 0,.slice none 0 0]::M) PE QU B11 (az _) {X with sat:=W.sat,bw:=by omega} (by rw[U];exact hf) dY.cA ⟨0,rfl⟩ O (by omega) (by omega) W.env λs2 C2 Ek k1 k2 k3 k4 k5=>?_
 have J:s2.oc=V.nc:=k1.oc.trans A.oc;have S:s2.V=V:=k1.v.trans A.v;have:=K s2 C2 Ek k2 S J (λr hr=>k3 r hr.cons) k4 (by omega);rw[J,S];exact this
theorem Nr(F:aC prog main (DX Ok) Ψ)(hB:HB B Ok){c i:Int}{nl f:Nat}(hc:c≠0)(R:Sat Ok w M)(S:B<=w.heap.size)(q:QO Ok Ψ B M 17 #[.slice sL nl cr,.slice sa f cap] (.tuple #[i6 c,i6 i]))(K:∀w',Sat Ok w' M->w.heap.size<=w'.heap.size->Ψ (G (cf.finish (.tuple #[.agg #[.slice none 0 0,.slice none 0 0],i6 c,i6 i])) cs) w'):
 Ψ (G (Frame.enter prog 31 #[.slice sL nl cr,.slice sa f cap] .normal) (cf::cs)) w:=by
 have Q:(c !=0)=true:=by simpa using hc
 refine dg f31 func31 _ rfl 102 (by kernel_rfl) R λbb a0 B1 hn d s p Z I=>?_
 refine aq F hB d p Z 10 [] [] [] [(15,.slice sa f cap),(14,.slice sL nl cr),(4,ptr B1),(0,.slice sL nl cr),(1,.slice sa f cap)] (λM=>bR (B1) [.slice none 0 0,.slice none 0 0]::(M)) 1 10 [] [] λa1 w1 v o H O W=>?_
 refine bK F d o v 16 17 #[.slice sL nl cr,.slice sa f cap] λX g=>?_
 refine q _ _ _ _ (λr P=>P.cons) v.sat (by omega) λw2 T z=>g _ _ _ T λa2 B2 Y l D=>?_
 refine bA F hB d l Y 22 [0,0,0,2] [2] [] [(6,i6 i),(5,i6 c),(4,ptr B1)] (λM=>M) 0 33 [true] [] [(c !=0,true)] [] [] λa3 x u j A J U=>?_
 refine cV F u d s j [0,0,0,2] (.tuple #[.agg #[.slice none 0 0,.slice none 0 0],i6 c,i6 i]) ?_;exact K x u.sat.tail (by omega)
end
end Go.Proofs.YtobagnjnbmgidaaGreatDoor
