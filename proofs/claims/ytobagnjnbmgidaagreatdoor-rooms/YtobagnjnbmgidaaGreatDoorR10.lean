import Derived.Test.YtobagnjnbmgidaaGreatDoorB2
set_option linter.all false
set_option maxHeartbeats 0
set_option maxRecDepth 100000
namespace Go.Proofs.YtobagnjnbmgidaaGreatDoor
open Go.Conc Go.RowKit Tryz
variable{a:Act}{ca la:Addr}{b:Bk}{e:qy}{E:Env}{L ch:List iN}{y:iN}{B' P N c cap cA U R i k m n t:Nat}{r:aH}{C C' M:aW}{w O:aj}{Z Y:aC}{h:ay}{dL:p9}{eu:bU}{X:cO}{T sL sa:eP}
variable{W:Bool}{B:Nat}{J:dh}{Q:gi}{V:Ev0}
def nL(B:Nat)(C:aW)(h:ay)(L:List iN):Prop:=(h=.slice none 0 0/\L=[])\/∃ca cap i,h=.slice (some ca) L.length cap/\nth C i=some (gQ ca L)/\B<=ca.block/\L.length<=cap
def dR(C C':aW):Prop:=∀i r,nth C i=some r->∃j,nth C' j=some r
theorem dR.bY:dR C C:=λi r h=>⟨i,h⟩
theorem dR.trans{A D:aW}(h:dR A C)(a:dR C D):dR A D:=λi r z=>by obtain⟨j,z⟩:=h i r z;exact a j r z
theorem dR.cons(h:dR C C'):dR C (r::C'):=λi x z=>by obtain⟨j,z⟩:=h i x z;exact⟨j+1,z⟩
theorem nL.inc(H:nL B C h L)(b:dR C C'):nL B C' h L:=by
 rcases H with H|⟨ca,cap,i,e,d,c⟩
 .exact .inl H
 .obtain⟨j,a⟩:=b i _ d;exact .inr ⟨ca,cap,j,e,a,c⟩
theorem nL.RQ(H:nL B C h L)(A:aW):fu (A++C) h L:=by
 rcases H with H|⟨ca,cap,i,b,a,c⟩
 .exact .inl H
 .exact .inr ⟨ca,cap,A.length+i,b,by rw[b8,af (by omega),D4];exact a⟩
theorem BR(F:aB prog W (DX J) Q)(s:HB B J){Z:aC}(c:Z.kind=.normal){X:cO}{M:aW}{H E D:ay}{l b1 b2 t k:Nat}{y:ju}{n:Int}(L:n<=9)(U:1<=y.c/\y.c<=9)(A:0<=y.d/\y.d<=10000){P:Nat}(x:B<=P):
 ∀(m:Nat)(i p:Int),i+m=n->1<=i->0<=p->p<=100000->∀(r:Act)(w:aj),r.defers=[]->w.heap.size=P->St J P 130 [(15,i6 i),(14,i6 p),(12,i6 n),(8,ptr b1),(0,ptr l),(1,i6 t),(2,i6 k)] (bR b2 [H,E,D]::bR b1 (pR y)::M) 0 r w->
   (∀C O,C.defers=[]->O.heap.size=P->St J P 130 [(14,i6 (dN y.c y.d m p)),(12,i6 n),(8,ptr b1),(0,ptr l),(1,i6 t),(2,i6 k)] (bR b2 [H,E,D]::bR b1 (pR y)::M) 0 C O->Q (G (Z.at C (pc prog 116 86 [false,false,false] [])) X) O)->
   Q (G (Z.at r (pc prog 116 69 [false,false] [])) X) w
 |0,i,p,N,z,I,v,r,w,b,j,u,K=>by
  have R:decide (i<n)=false:=by simp;omega
  refine aX F s c b u 17 [] [0,1,1,1,1] [] [(14,i6 p),(12,i6 n),(8,ptr b1),(0,ptr l),(1,i6 t),(2,i6 k)] (λM=>M) 0 86 8 [] [(decide (i<n),false)] [] [] λq f d a g h o=>K q f a (by omega) d
 |m+1,i,p,N,z,I,v,r,w,b,j,u,K=>by
  have R:decide (i<n)=true:=by simp;omega
  have e:dN y.c y.d (m+1) p=if p<=y.d then dN y.c y.d m (p*y.c)else p:=rfl;by_cases B:p<=y.d
  .have z:decide (p<=y.d)=true:=by simp_all
   have j:0<=p*y.c:=YE I (by omega);have v:p*y.c<=10000*9:=YT (by omega) U.2 (by omega) (by omega);have w:IntKind.wrap .i64 (i+1)=i+1:=aA (by omega) (by omega);have v:IntKind.wrap .i64 (p*y.c)=p*y.c:=aA (by omega) (by omega);refine aX F s c b u 31 [1,0,4,1,1,0,3,1] [2,3,3,3,2] [] [(15,i6 (IntKind.wrap .i64 (i+1))),(14,i6 (IntKind.wrap .i64 (p*y.c))),(12,i6 n),(8,ptr b1),(0,ptr l),(1,i6 t),(2,i6 k)] (λM=>M) 0 69 4 [] [(decide (p<=y.d),true),(decide (i<n),true)] [] [] λq f d a g h o=>?_;rw[w,v]at d;rw[e,ah B]at K;exact BR F s c L U A x m (i+1) (p*y.c) (by omega) (by omega) j (by omega) q f a (by omega) d K
  .have z:decide (p<=y.d)=false:=by simp_all
   refine aX F s c b u 17 [1,0,4,1] [2,3,3,3,0] [] [(14,i6 p),(12,i6 n),(8,ptr b1),(0,ptr l),(1,i6 t),(2,i6 k)] (λM=>M) 0 86 8 [] [(decide (p<=y.d),false),(decide (i<n),true)] [] [] λq f d a g h o=>?_;rw[e,af B]at K;exact K q f a (by omega) d
theorem JP(F:aB prog W (DX J) Q)(g:HB B J){s:RS}{o:Addr}{y:ju}(I:Sat J w (mR s++C))(hv:RV J s)(m:B<=w.heap.size)(D:s.ta=some o)(ht:t<s.l.tl)(m:k<6)(mQ:nL B C (.slice T R U) b.ch)(m:b.ch.length<1000000)(Bl:b.k=2->b.ch≠[])(Ty:s.l.el<1000000000)(Dy:s.l.wl<1000000000)(rZ:s.l.al<1000000000)(hx:(s.l.tk t).x=false)(Qz:0<=s.l.now/\s.l.now<1000000000000)(hy:(1<=y.a/\y.a<=9)/\(0<=y.b/\y.b<=1000)/\(1<=y.c/\y.c<=9)/\(0<=y.d/\y.d<=10000))(ha:1<=(s.l.tk t).a k/\(s.l.tk t).a k<=y.a)(K:∀v m O C',fS J B Q Y X v m->dR C C'->w.heap.size<=O.heap.size->
 ((b.k≠2\/cE b 2=true\/cE b 5=true)->Sat J O (mR s++C')->Q (G (Frame.enter prog 83 #[ptr s.gm,i6 t,i6 k,ko b (.slice T R U)] .normal) (v::m)) O)/\
 (¬(b.k≠2\/cE b 2=true\/cE b 5=true)->(s.l.tk t).a k=y.a->∀n d e ca cap,Sat J O (mR (s.dI n d e (s.l.say t k 4 0))++C')->RV J (s.dI n d e (s.l.say t k 4 0))->nL B C' (.slice (some ca) (b.ch.length+1) cap) (⟨7,k,0⟩::b.ch)->Q (G (Frame.enter prog 83 #[ptr s.gm,i6 t,i6 k,ko ⟨2,0,⟨7,k,0⟩::b.ch⟩ (.slice (some ca) (b.ch.length+1) cap)] .normal) (v::m)) O)/\
 (¬(b.k≠2\/cE b 2=true\/cE b 5=true)->(s.l.tk t).a k≠y.a->¬0<aI y ((s.l.tk t).a k)->∀n d e,Sat J O (mR (RS.Yj (s.dI n d e (s.l.say t k 3 (aI y ((s.l.tk t).a k)))) t k ((s.l.tk t).a k+1))++C')->RV J (RS.Yj (s.dI n d e (s.l.say t k 3 (aI y ((s.l.tk t).a k)))) t k ((s.l.tk t).a k+1))->Q (G (Frame.enter prog 58 #[ptr s.gm,i6 t,i6 (k+1:Nat)] .normal) (v::m)) O))(K2:¬(b.k≠2\/cE b 2=true\/cE b 5=true)->(s.l.tk t).a k≠y.a->0<aI y ((s.l.tk t).a k)->∀C' O n d e g2 c2 v2 g3 c3 v3,dR C C'->w.heap.size<=O.heap.size->Sat J O (mR (RS.jz (RS.cB (RS.Yj (s.dI n d e (s.l.say t k 3 (aI y ((s.l.tk t).a k)))) t k ((s.l.tk t).a k+1)) g2 c2 v2 t k) g3 c3 v3 (((s.l.say t k 3 (aI y ((s.l.tk t).a k))).Yj t k ((s.l.tk t).a k+1)).wait t k (aI y ((s.l.tk t).a k))))++C')->RV J (RS.jz (RS.cB (RS.Yj (s.dI n d e (s.l.say t k 3 (aI y ((s.l.tk t).a k)))) t k ((s.l.tk t).a k+1)) g2 c2 v2 t k) g3 c3 v3 (((s.l.say t k 3 (aI y ((s.l.tk t).a k))).Yj t k ((s.l.tk t).a k+1)).wait t k (aI y ((s.l.tk t).a k))))->Q (G (Y.finish (.tuple #[])) X) O):
 Q (G (Frame.enter prog 116 #[ptr s.gm,i6 t,i6 k,.agg (pR y).toArray,ko b (.slice T R U)] .normal) (Y::X)) w:=by
 obtain⟨s,rfl⟩:=RS.jw D;replace ht:t<s.l.tl:=ht;replace Ty:s.l.el<1000000000:=Ty;replace Dy:s.l.wl<1000000000:=Dy;replace rZ:s.l.al<1000000000:=rZ;replace hx:(s.l.tk t).x=false:=hx;replace Qz:0<=s.l.now/\s.l.now<1000000000000:=Qz;replace ha:1<=(s.l.tk t).a k/\(s.l.tk t).a k<=y.a:=ha;refine cJ func116 I 130 λZ m P m c qh m w v=>aq F g c m w 8 [0,0,0,3] [] [] [(16,.agg #[i6 b.k,i6 b.n,.slice T R U]),(9,ptr (P+1)),(8,ptr P),(0,ptr s.gm),(1,i6 t),(2,i6 k)] (λM=>bR (P+1) [i6 b.k,i6 b.n,.slice T R U]::(bR (P) [i6 y.k,i6 y.a,i6 y.b,i6 y.c,i6 y.d,i6 y.e]::(M))) 2 8 1 [] λm m w m v v v=>bu F c m w 17 124 #[.agg #[i6 b.k,i6 b.n,.slice T R U],i6 2] λm m=>?_;have v:=mQ.RQ (bR (P+1) [i6 b.k,i6 b.n,.slice T R U]::bR P (pR y)::mR {s with ta:=some o});refine KR F g w.sat v (by omega) (by omega) λw D w=>m _ _ _ D λm m D m w=>aq F g c m D 5 [0,0,0,3] [] [] [(18,.agg #[i6 b.k,i6 b.n,.slice T R U]),(10,.bool (cE b 2)),(9,ptr (P+1)),(8,ptr P),(0,ptr s.gm),(1,i6 t),(2,i6 k)] (λM=>M) 0 14 1 [] λm m w m D D D=>bu F c m w 19 124 #[.agg #[i6 b.k,i6 b.n,.slice T R U],i6 5] λm m=>KR F g w.sat v (by omega) (by omega) λv D w=>m _ _ _ D λm B4 S4 Vx m=>?_;by_cases hq:b.k≠2\/cE b 2=true\/cE b 5=true
 .have D:∀a5 I,a5.defers=[]->I.heap.size=B4+0->v.heap.size<=I.heap.size->St J B4 130 [(32,.agg #[i6 b.k,i6 b.n,.slice T R U]),(31,i6 k),(30,i6 t),(29,ptr s.gm)] (bR (P+1) [i6 b.k,i6 b.n,.slice T R U]::bR P (pR y)::(mR {s with ta:=some o}++C)) 0 a5 I->Q (G (Z.at a5 (pc prog 116 37 [true] [])) (Y::X)) I:=by
   intro a5 I m v w S5;refine bu F c m S5 33 83 #[ptr s.gm,i6 t,i6 k,.agg #[i6 b.k,i6 b.n,.slice T R U]] λJC ZT=>?_;refine(K JC _ I _ (λw6 M h6 hb6 hz=>ZT _ _ _ h6 λa6 B6 S6 DE YG=>?_) (dR.bY.cons.cons) (by omega)).1 hq (Sat.back (A:=mR {s with ta:=some o}) (Sat.back (A:=bR (P+1) [i6 b.k,i6 b.n,.slice T R U]::mR {s with ta:=some o}) (S5.sat.perm (.swap ..))));refine aq F g c DE S6 1 [] [] [] [] (λM=>M) 0 39 3 [] λa7 w7 S7 V OD YQ DJ=>cC F S7 c qh V [] (.tuple #[]) ?_;exact hz w7 S7.sat YQ
  by_cases Qs:b.k=2
  .by_cases Tp:cE b 2=true
   .refine aX F g c Vx S4 22 [0,0,0,1,0,0,0,3] [0,2,3] [] [(32,.agg #[i6 b.k,i6 b.n,.slice T R U]),(31,i6 k),(30,i6 t),(29,ptr s.gm)] (λM=>M) 0 37 3 [] [(cE b 2,true),(b.k !=2,false)] [] [] λa5 I S5 m v w qO=>D a5 I m v w S5
   .have Qr:cE b 5=true:=by
     grind
    have aab:cE b 2=false:=by grind
    refine aX F g c Vx S4 22 [0,0,0,1,0,0,0,3] [0,0,2] [] [(32,.agg #[i6 b.k,i6 b.n,.slice T R U]),(31,i6 k),(30,i6 t),(29,ptr s.gm)] (λM=>M) 0 37 3 [] [(cE b 5,true),(cE b 2,false),(b.k !=2,false)] [] [] λa5 I S5 m v w qO=>D a5 I m v w S5
  .have aac:(b.k !=2)=true:=by grind
   refine aX F g c Vx S4 22 [0,0,0,1,0,0,0,3] [2,3,3] [] [(32,.agg #[i6 b.k,i6 b.n,.slice T R U]),(31,i6 k),(30,i6 t),(29,ptr s.gm)] (λM=>M) 0 37 3 [] [(b.k !=2,true)] [] [] λa5 I S5 m v w qO=>D a5 I m v w S5
 .have Qs:b.k=2:=LL λz=>hq (.inl z);have Tp:cE b 2=false:=by
   grind
  have Qr:cE b 5=false:=by
   grind
  refine aX F g c Vx S4 13 [0,0,0,1] [0,0] [] [(27,.bool (cE b 5)),(26,.bool false),(9,ptr (P+1)),(8,ptr P),(0,ptr s.gm),(1,i6 t),(2,i6 k)] (λM=>M) 0 28 1 [] [(cE b 2,false),(b.k !=2,false)] [] [] λa5 I S5 m v w qO=>?_;have S:k=0\/k=1\/k=2\/k=3\/k=4\/k=5:=by omega
  refine JG F aK g (by omega) c m 26 [(2,(0,4),true),(5,(t,7+k),false),(1,(0,1),true)] [(false,false),(true,false),(true,true)] [] [(47,.bool ((s.l.tk t).a k==y.a)),(12,i6 ((s.l.tk t).a k)),(9,ptr (P+1)),(8,ptr P),(0,ptr s.gm),(1,i6 t),(2,i6 k)] (λM=>M) 0 54 [false] [] [(cE b 5,false)] [((↑t:Int),s.l.tl)] [(t,s.l.tl)] (by rcases S with rfl|rfl|rfl|rfl|rfl|rfl<;>kernel_rfl) (by rcases S with rfl|rfl|rfl|rfl|rfl|rfl<;>kernel_rfl) (nK (by assumption) eU) (nK (by dsimp only;omega) eU) (nK (by dsimp only;omega) eU) S5 λa6 w6 S6 DE YG Hf TI=>?_;by_cases ZE:(s.l.tk t).a k=y.a
  .have VJ:((s.l.tk t).a k==y.a)=true:=by grind
   refine aX F g c DE S6 6 [] [2] [] [(50,i6 k),(49,i6 t),(48,ptr s.gm),(9,ptr (P+1)),(0,ptr s.gm),(1,i6 t),(2,i6 k)] (λM=>M) 0 60 6 [] [((s.l.tk t).a k==y.a,true)] [] [] λa7 w7 S7 V OD YQ DJ=>bu F c V S7 51 82 #[ptr s.gm,i6 t,i6 k,i6 4,i6 0] λm m=>iC F g (s:={s with ta:=some o}) (Sat.back (A:=mR {s with ta:=some o}) (Sat.back (A:=bR (P+1) [i6 b.k,i6 b.n,.slice T R U]::mR {s with ta:=some o}) (S7.sat.perm (.swap ..)))) hv (by omega) Ty rfl ht λn d e w8 w W1 v=>m _ _ _ w λa8 B8 S8 Nn FN=>aq F g c Nn S8 13 [15,0,2,1] [] [] [(57,.slice T R U),(55,.slice (some ⟨B8,0,none⟩) 1 1),(0,ptr s.gm),(1,i6 t),(2,i6 k)] (λM=>bR (B8) [i6 7,i6 k,i6 0]::(M)) 1 74 6 [] λa9 w9 S9 x Tl He X4=>?_;obtain⟨ca,cap,i,e1,e2,e3,m⟩:∃ca cap i,Value.slice T R U=.slice (some ca) b.ch.length cap/\nth C i=some (gQ ca b.ch)/\B<=ca.block/\b.ch.length<=cap:=by
    rcases mQ with ⟨_,z⟩|z
    .simp_all
    .exact z
   cases e1;refine R4 F g c 55 57 58 (1+(14+(2+i))) (L0:=[⟨7,k,0⟩]) (by kernel_rfl) (by kernel_rfl) (by decide) rfl rfl ?_ (.inr ⟨B8,⟨7,k,0⟩,0,rfl,rfl,rfl⟩) (by omega) (λa z=>by grind) (Bl Qs) (by simp only[gB,iT];omega) e3 S9 λg2 c2 Dq L KW a IX VD a l=>?_
   .rw[show 1+(14+(2+i))=14+(2+i)+1 by omega];show nth (mR _++_) (14+(2+i))=_;rw[b8,af (by show¬14+(2+i)<14;omega),show 14+(2+i)-(mR (RS.dI {s with ta:=some o} n d e (s.l.say t k 4 0))).length=i+1+1 by show 14+(2+i)-14=_;omega];exact e2
   rw[show jB (pc prog 116 74 (Bo 6) [])=pc prog 116 75 [false,true] [] by kernel_rfl];have yU:St J L.heap.size 130 _ _ 0 Dq L:=⟨a,KW,rfl⟩;have IU:L.heap.size=L.heap.size:=rfl;have a:Dq.defers=[]:=l.trans x;clear l;have l:=a;clear a;generalize aai:L.heap.size=Ls at yU IU IX;refine aq F g c l yU 9 [] [] [] [(63,.agg #[i6 2,i6 0,.slice (some ⟨g2,0,none⟩) (List.length ([iN.mk 7 (↑k:Int) 0]++b.ch)) c2]),(61,i6 k),(60,i6 t),(59,ptr s.gm)] (λM=>M) 0 84 6 [] λOX HH h H MY MZ NP=>bu F c H h 64 83 #[ptr s.gm,i6 t,i6 k,.agg #[i6 2,i6 0,.slice (some ⟨g2,0,none⟩) (List.length ([iN.mk 7 (↑k:Int) 0]++b.ch)) c2]] λi a=>?_;refine(K i _ HH _ (λT1 M i m hz=>a _ _ _ i λTN a u r P8=>?_) (dR.bY.cons.cons.cons.cons) (by omega)).2.1 hq ZE n d e ⟨g2,0,none⟩ c2 (Sat.back (A:=mR (RS.dI {s with ta:=some o} n d e (s.l.say t k 4 0))) (Sat.back (A:=bR B8 [i6 7,i6 k,i6 0]::mR (RS.dI {s with ta:=some o} n d e (s.l.say t k 4 0))) h.sat)) W1 (.inr ⟨⟨g2,0,none⟩,c2,1,rfl,rfl,by show B<=g2;omega,VD⟩);refine aq F g c r u 1 [] [] [] [] (λM=>M) 0 86 6 [] λOW LX N q IQ IW a=>cC F N c qh q [] (.tuple #[]) ?_;exact hz LX N.sat IW
  .have VJ:((s.l.tk t).a k==y.a)=false:=by grind
   refine aX F g c DE S6 15 [1,0,2,1] [0] [] [(15,i6 1),(14,i6 y.b),(12,i6 ((s.l.tk t).a k)),(8,ptr P),(0,ptr s.gm),(1,i6 t),(2,i6 k)] (λM=>M) 0 69 4 [] [((s.l.tk t).a k==y.a,false)] [] [] λa7 w7 S7 V OD YQ DJ=>BR F g c (b1:=P) (b2:=P+1) (by omega) hy.2.2.1 hy.2.2.2 (by omega) ((s.l.tk t).a k-1).toNat 1 y.b (by omega) (by omega) (by omega) (by omega) a7 w7 V (by omega) S7 λa8 w8 Nn FN S8=>?_;have Qm:∀a9 w9 p,p=aI y ((s.l.tk t).a k)->a9.defers=[]->w9.heap.size=B4->St J B4 130 [(91,i6 p),(90,i6 k),(89,i6 t),(88,ptr s.gm),(14,i6 p),(12,i6 ((s.l.tk t).a k)),(0,ptr s.gm),(1,i6 t),(2,i6 k)] (bR (P+1) [i6 b.k,i6 b.n,.slice T R U]::bR P (pR y)::(mR {s with ta:=some o}++C)) 0 a9 w9->Q (G (Z.at a9 (pc prog 116 100 [false,false,false,false] [])) (Y::X)) w9:=by
    intro a9 w9 p ep x Tl S9;refine bu F c x S9 92 82 #[ptr s.gm,i6 t,i6 k,i6 3,i6 p] λa a=>iC F g (s:={s with ta:=some o}) (Sat.back (A:=mR {s with ta:=some o}) (Sat.back (A:=bR (P+1) [i6 b.k,i6 b.n,.slice T R U]::mR {s with ta:=some o}) (S9.sat.perm (.swap ..)))) hv (by omega) Ty rfl ht λn d e L KW E IX=>a _ _ _ KW λDq Ls yU l IU=>?_;have hw:IntKind.wrap .i64 ((s.l.tk t).a k+1)=(s.l.tk t).a k+1:=aA (by omega) (by omega);refine JG F aK g (by omega) c l 15 [(0,(0,4),true),(3,(t,7+k),false)] [(true,false),(true,true)] [] [(14,i6 p),(0,ptr s.gm),(1,i6 t),(2,i6 k)] (λM=>bh 3 (t,7+k) (i6 (IntKind.wrap .i64 ((s.l.tk t).a k+1))) (M)) 0 116 [false,false,false,false] [] [] [((↑t:Int),s.l.tl)] [(t,s.l.tl)] (by rcases S with rfl|rfl|rfl|rfl|rfl|rfl<;>kernel_rfl) (by rcases S with rfl|rfl|rfl|rfl|rfl|rfl<;>kernel_rfl) eU (nK (by dsimp only;omega) eU) (nK (by dsimp only;omega) eU) yU λOX HH h H MY MZ NP=>?_;rw[hw]at h;replace h:St J Ls 130 _ (mR (RS.Yj (RS.dI {s with ta:=some o} n d e (s.l.say t k 3 p)) t k ((s.l.tk t).a k+1))++(bR (P+1) [i6 b.k,i6 b.n,.slice T R U]::bR P (pR y)::C)) 0 OX HH:=⟨h.env,h.sat.re 3 rfl rfl _ λj _ f _=>fT (by rcases S with rfl|rfl|rfl|rfl|rfl|rfl<;>rfl) (show 7+k<19 by omega) j f,h.sz⟩;have a:(upd s.l.tk t {s.l.tk t with a:=upd (s.l.tk t).a k ((s.l.tk t).a k+1)} t).x=false:=by simp only[upd,if_true];exact hx
    have Qg:RV J (RS.Yj (RS.dI {s with ta:=some o} n d e (s.l.say t k 3 p)) t k ((s.l.tk t).a k+1)):=⟨E.a,E.t,E.w,E.e⟩
    by_cases ZG:0<p
    .have UW:decide (p>0)=true:=by simpa using ZG
     refine aX F g c H h 27 [0,0,4,1,3,t,4,101] [2,0,2] [] [(128,i6 p),(127,i6 k),(126,i6 t),(125,ptr s.gm)] (λM=>M) 0 143 96 [] [(decide (p>0),true),((upd s.l.tk t (Ot.mk (s.l.tk t).c (s.l.tk t).f (s.l.tk t).p (s.l.tk t).o (s.l.tk t).x (s.l.tk t).e (s.l.tk t).w (upd (s.l.tk t).a k ((s.l.tk t).a k+1)) (s.l.tk t).q) t).x,false)] [((↑t:Int),s.l.tl)] [(1,(t,s.l.tl))] λTN T1 u r P8 Ut V5=>bu F c r u 129 81 #[ptr s.gm,i6 t,i6 k,i6 p] λRX A=>?_;have a:=AW y ((s.l.tk t).a k) hy.2.2.2;refine zi F g (s:=RS.Yj (RS.dI {s with ta:=some o} n d e (s.l.say t k 3 p)) t k ((s.l.tk t).a k+1)) u.sat Qg (by omega) Dy rZ rfl ht (by omega) (by show -4611686018427387904<=s.l.now+p;omega) (by show s.l.now+p<4611686018427387904;omega) λg2 c2 v2 g3 c3 v3 LX Jd UA IW=>A _ _ _ Jd λOW B13 N q IQ=>aq F g c q N 2 [] [] [] [] (λM=>M) 0 146 96 [] λa14 T0 ZF Zr Us Qa V3=>cC F ZF c qh Zr [] (.tuple #[]) ?_;subst ep;exact K2 hq ZE ZG _ T0 n d e g2 c2 v2 g3 c3 v3 (dR.bY.cons.cons) (by omega) ZF.sat UA
    .have UW:decide (p>0)=false:=by simpa using ZG
     have a:IntKind.wrap .i64 ((k:Int)+1)=((k+1:Nat):Int):=by rw[aA (by omega) (by omega)];rfl
     refine aX F g c H h 27 [0,0,4,1,3,t,4,101] [2,0,0] [] [(107,i6 (IntKind.wrap .i64 ((↑k:Int)+1))),(105,i6 t),(104,ptr s.gm)] (λM=>M) 0 143 64 [] [(decide (p>0),false),((upd s.l.tk t (Ot.mk (s.l.tk t).c (s.l.tk t).f (s.l.tk t).p (s.l.tk t).o (s.l.tk t).x (s.l.tk t).e (s.l.tk t).w (upd (s.l.tk t).a k ((s.l.tk t).a k+1)) (s.l.tk t).q) t).x,false)] [((↑t:Int),s.l.tl)] [(1,(t,s.l.tl))] λTN T1 u r P8 Ut V5=>?_;rw[a]at u;refine bu F c r u 108 58 #[ptr s.gm,i6 t,i6 (↑(k+1):Int)] λRX A=>?_;subst ep;refine(K RX _ T1 _ (λLX M Jd a hz=>A _ _ _ Jd λOW B13 N q IQ=>?_) (dR.bY.cons.cons) (by omega)).2.2 hq ZE ZG n d e u.sat Qg;refine aq F g c q N 2 [] [] [] [] (λM=>M) 0 146 64 [] λa14 T0 ZF Zr Us Qa V3=>cC F ZF c qh Zr [] (.tuple #[]) ?_;exact hz T0 ZF.sat Qa
   by_cases a:y.d<dN y.c y.d ((s.l.tk t).a k-1).toNat y.b
   .have b:decide (y.d<dN y.c y.d ((s.l.tk t).a k-1).toNat y.b)=true:=by simpa using a
    refine aX F g c Nn S8 18 [1,0,4,1,1,0,4,1] [2] [] [(91,i6 y.d),(90,i6 k),(89,i6 t),(88,ptr s.gm),(14,i6 y.d),(12,i6 ((s.l.tk t).a k)),(0,ptr s.gm),(1,i6 t),(2,i6 k)] (λM=>M) 0 104 24 [] [(decide (dN y.c y.d (Int.toNat ((s.l.tk t).a k-1)) y.b>y.d),true)] [] [] λa9 w9 S9 x Tl He X4=>?_;rw[show pc prog 116 104 (Bo 24) []=pc prog 116 100 [false,false,false,false] [] by kernel_rfl];exact Qm a9 w9 _ (by unfold aI;exact(ah a).symm) x (by omega) S9
   .have b:decide (y.d<dN y.c y.d ((s.l.tk t).a k-1).toNat y.b)=false:=by simpa using a
    refine aX F g c Nn S8 14 [1,0,4,1] [0] [] [(91,i6 (dN y.c y.d (Int.toNat ((s.l.tk t).a k-1)) y.b)),(90,i6 k),(89,i6 t),(88,ptr s.gm),(14,i6 (dN y.c y.d (Int.toNat ((s.l.tk t).a k-1)) y.b)),(12,i6 ((s.l.tk t).a k)),(0,ptr s.gm),(1,i6 t),(2,i6 k)] (λM=>M) 0 100 16 [] [(decide (dN y.c y.d (Int.toNat ((s.l.tk t).a k-1)) y.b>y.d),false)] [] [] λa9 w9 S9 x Tl He X4=>Qm a9 w9 _ (by unfold aI;exact(af a).symm) x (by omega) S9
theorem Ba:∀{E:Env}{n:Nat}{v:ay},look E n=some v->(n,v)∈E
 |[],n,v,h=>by cases h
 |(d,u)::E,n,v,h=>by
  simp only[look]at h;by_cases e:d=n
  .simp_all
  .have a:(d==n)=false:=by simp_all
   rw[a]at h;exact aP _ (Ba h)
theorem aR.sub{b:Env}(h:aR E N a)(c:∀p∈b,look E p.1=some p.2):aR b N a:=⟨h.sz,λn v a=>h.val n v (c (n,v) (Ba a))⟩
theorem Sat.Pd{p:Nat}(h:Sat J w M)(o:nth M p=some (gQ ca (y::ch))):Sat J w (gQ (ca.add 3) ch::M):=by
 have i:=h.dup o rfl;have k:=(sat_iff.1 i).1 _ (bI ..);have d:=dr.1 (sat_iff.1 i).2;have b:∀j:Ix,(gQ (ca.add 3) ch).ad j=(gQ ca (y::ch)).ad (j.1+1,j.2):=λj=>by
  show((ca.add 3).add (j.1*3)).add j.2=(ca.add ((j.1+1)*3)).add j.2;rw[Addr.add_add,Addr.add_add,Addr.add_add];grind
 refine sat_iff.2 ⟨λr c=>?_,dr.2 ⟨λr c m j l a f e=>?_,d.2⟩⟩
 .rcases ak.1 c with rfl|c
  .refine⟨λj a=>?_,λj a=>⟨?_,λz=>(by cases z)⟩,λz=>(by cases z),λg e n z=>(by cases z)⟩
   .rw[b];exact k.val (j.1+1,j.2) ⟨YW a.1,a.2⟩
   .rw[b];exact(k.ok (j.1+1,j.2) ⟨YW a.1,a.2⟩).1
  .exact(sat_iff.1 i).1 r (aP _ c)
 .rw[b]at e;exact d.1 r c (m.elim (λz=>by cases z) .inr) (j.1+1,j.2) l ⟨YW a.1,a.2⟩ f e
theorem Uj(F:aB prog W (DX J) Q)(q:HB B J){s:RS}{m:Addr}{kk nn:Int}(o:Sat J w (mR s++C))(hv:RV J s)(u:B<=w.heap.size)(H:s.ta=some m)(I:t<s.l.tl)(L:k=s.V.nl)(V:nL B C h (y::ch))(u:ch.length<1000000)(n:s.l.el<1000000000)(K:∀x u O C',fS J B Q Y X x u->dR C C'->w.heap.size<=O.heap.size->∀r b d T R U,Sat J O (mR (s.dI r b d (s.l.say t (-1) 2 y.n))++C')->RV J (s.dI r b d (s.l.say t (-1) 2 y.n))->nL B C' (.slice T R U) ch->Q (G (Frame.enter prog 83 #[ptr s.gm,i6 t,i6 k,ko ⟨kk,nn,ch⟩ (.slice T R U)] .normal) (x::u)) O):
 Q (G (Frame.enter prog 59 #[ptr s.gm,i6 t,i6 k,i6 1,ko ⟨kk,nn,y::ch⟩ h] .normal) (Y::X)) w:=by
 obtain⟨s,rfl⟩:=RS.jw H;replace I:t<s.l.tl:=I;replace n:s.l.el<1000000000:=n;replace L:k=s.V.nl:=L;obtain⟨ca,cap,i,rfl,e2,e3,e4⟩:∃ca cap i,h=.slice (some ca) (ch.length+1) cap/\nth C i=some (gQ ca (y::ch))/\B<=ca.block/\ch.length+1<=cap:=by
  rcases V with ⟨_,z⟩|z
  .cases z
  .exact z
 have h:((k:Int)==(s.V.nl:Int))=true:=by simp[L]
 have h:=o;replace o:=o.Pd (p:=14+i) (ca:=ca) (y:=y) (ch:=ch) (by rw[b8,af (by show¬14+i<14;omega),show 14+i-(mR {s with ta:=some m}).length=i by show 14+i-14=i;omega];exact e2);replace o:=o.dup (i:=15+i) (r:=gQ ca (y::ch)) (by rw[show 15+i=14+i+1 by omega];show nth (mR _++_) (14+i)=_;rw[b8,af (by show¬14+i<14;omega),show 14+i-(mR {s with ta:=some m}).length=i by show 14+i-14=i;omega];exact e2) rfl;have h:(y::ch).length=ch.length+1:=rfl;refine cJ func59 o 94 λZ h P h c x h u i=>aX F q c h u 30 [3,0,0,1,0,0,2,1,1,0,2,101] [2,2] [] [(26,i6 (List.getD (y::ch) 0 (iN.mk 0 0 0)).n),(25,i6 t),(24,ptr s.gm),(9,ptr P),(0,ptr s.gm),(1,i6 t),(2,i6 k)] (λM=>bR (P) [i6 kk,i6 nn,.slice (some ca) (List.length ch+1) cap]::(M)) 1 30 3 [] [((↑k:Int)==(↑s.V.nl:Int),true)] [(0,List.length ch+1)] [(1,(0,List.length (y::ch)))] λh h i h u u u=>bu F c h i 27 82 #[ptr s.gm,i6 t,i6 (-1),i6 2,i6 (List.getD (y::ch) 0 (iN.mk 0 0 0)).n] λh h=>iC F q (s:={s with ta:=some m}) (C:=bR P [i6 kk,i6 nn,.slice (some ca) (ch.length+1) cap]::gQ ca (y::ch)::gQ (ca.add 3) ch::C) (n:=y.n) (i.sat.perm ?_) hv (by omega) n rfl I λr b d H w u i=>h _ _ _ w λh B2 w h i=>?_
 .exact(D2 (l₁:=[_,_,_]) (l₂:=mR {s with ta:=some m})).append_right C|>.trans (by rfl)
 refine aq F q c h w 10 [14,0,2,1] [] [] [(30,.slice (some ca) (List.length ch+1) cap),(28,.slice none 0 0),(9,ptr P),(0,ptr s.gm),(1,i6 t),(2,i6 k)] (λM=>M) 0 41 3 [] λh w3 w h i i i=>Ub t44 F (by simp_all) 30 31 (by kernel_rfl) (by kernel_rfl) (by decide) rfl e4 w λV i j=>?_;rw[show jB (pc prog 59 41 (Bo 3) [])=pc prog 59 42 (Bo 3) [] by kernel_rfl];have D:St J B2 94 _ _ 0 V w3:=⟨i,w.sat,w.sz⟩;replace j:=j.trans h;have fin:∀T R U e f h C',e.defers=[]->f.heap.size=h->H.heap.size<=f.heap.size->dR C C'->nL B C' (.slice T R U) ch->St J h 94 [(32,.slice T R U),(9,ptr P),(0,ptr s.gm),(1,i6 t),(2,i6 k)] (mR (RS.dI {s with ta:=some m} r b d (s.l.say t (-1) 2 y.n))++(bR P [i6 kk,i6 nn,.slice (some ca) (ch.length+1) cap]::C')) 0 e f->Q (G (Z.at e (pc prog 59 43 [true] [])) (Y::X)) f:=by
  intro T R U e f h C' g i E V w i;refine aq F q c g i 13 [14,0,0,2] [] [] [(41,.agg #[i6 kk,i6 nn,.slice T R U]),(35,i6 k),(34,i6 t),(33,ptr s.gm)] (λM=>M) 0 56 3 [] λi H G i B B B=>bu F c i G 42 83 #[ptr s.gm,i6 t,i6 k,.agg #[i6 kk,i6 nn,.slice T R U]] λB i=>K B _ H _ (λB M H B hz=>i _ _ _ H λi i H i B=>?_) V.cons (by omega) r b d T R U G.sat u (w.inc dR.bY.cons);refine aq F q c i H 1 [] [] [] [] (λM=>M) 0 58 3 [] λi B w u i i G=>cC F w c x u [] (.tuple #[]) ?_;exact hz B w.sat i
 have sub:∀v e f h M,St J h 94 [(32,v),(31,.slice (some (if cap=1 then ca else ca.add 3)) ch.length (cap-1)),(30,.slice (some ca) (ch.length+1) cap),(28,.slice none 0 0),(9,ptr P),(0,ptr s.gm),(1,i6 t),(2,i6 k)] M 0 e f->St J h 94 [(32,v),(9,ptr P),(0,ptr s.gm),(1,i6 t),(2,i6 k)] M 0 e f:=λv e f h M S=>⟨?_,S.sat,S.sz⟩
 .cases N:ch with
  |nil=>
   subst N;refine X7 t44 F c 28 31 32 (base:=none) (sl:=0) (sc:=0) (by kernel_rfl) (by kernel_rfl) (by decide) rfl rfl (λ_=>rfl) (az _) D λe l g=>?_;rw[show jB (pc prog 59 42 (Bo 3) [])=pc prog 59 43 [true] [] by kernel_rfl];exact fin none 0 0 e w3 B2 _ (g.trans j) (by omega) (by omega) (dR.bY.cons.cons) (.inl ⟨rfl,rfl⟩) (sub _ _ _ _ _ ⟨l,D.sat,D.sz⟩)
  |cons z h=>
   have hz:1<=ch.length:=by grind
   have ec:(if cap=1 then ca else ca.add 3)=ca.add 3:=af (by omega);have A:=D;rw[ec]at A;refine R4 F q c 28 31 32 16 (L0:=[]) (base:=none) (ad:=ca.add 3) (L:=ch) (by kernel_rfl) (by kernel_rfl) (by decide) rfl rfl rfl (.inl ⟨rfl,rfl⟩) (by omega) (λa z=>by cases z) (by grind) (by grind) (by rw[addBlock];exact e3) A λc h e f a a E a l g=>?_;rw[show jB (pc prog 59 42 (Bo 3) [])=pc prog 59 43 [true] [] by kernel_rfl];rw[<-ec]at l;exact fin (some ⟨c,0,none⟩) ch.length h e f _ (gQ ⟨c,0,none⟩ ch::gQ ca (y::ch)::gQ (ca.add 3) ch::C) (g.trans j) rfl (by omega) (dR.bY.cons.cons.cons) (.inr ⟨_,_,0,rfl,rfl,by grind,a⟩) (sub _ _ _ _ _ ⟨l,Sat.back (A:=mR (RS.dI {s with ta:=some m} r b d (s.l.say t (-1) 2 y.n))++[bR P [i6 kk,i6 nn,.slice (some ca) (ch.length+1) cap]]) (by grind)|>(by simpa using ·),rfl⟩)
 .exact S.env.sub (by intro p hp;simp only[ak,bH,or_false]at hp;rcases hp with rfl|rfl|rfl|rfl|rfl<;>rfl)
theorem Ui(F:aB prog W (DX J) Q)(i:HB B J){s:RS}(f:Sat J w (mR s++C))(a:B<=w.heap.size)(e:s.la=some la)(h:k<s.V.nl)(j:s.V.nl<=6)(c:(s.V.ly k).k=1)(K:∀d a O C',fS J B Q Y X d a->dR C C'->w.heap.size<=O.heap.size->Sat J O (mR s++C')->Q (G (Frame.enter prog 58 #[ptr s.gm,i6 t,i6 (k+1:Nat)] .normal) (d::a)) O):
 Q (G (Frame.enter prog 59 #[ptr s.gm,i6 t,i6 k,i6 1,ko b (.slice T R U)] .normal) (Y::X)) w:=by
 obtain⟨s,rfl⟩:=RS.uF e;replace h:k<s.V.nl:=h;replace j:s.V.nl<=6:=j;replace c:(s.V.ly k).k=1:=c;have a:((k:Int)==(s.V.nl:Int))=false:=by simp;omega
 have a:((s.V.ly k).k==1)=true:=by simp_all
 have d:IntKind.wrap .i64 ((k:Int)+1)=((k+1:Nat):Int):=by rw[aA (by omega) (by omega)];rfl
 refine cJ func59 f 94 λZ a P a a f e m l=>aX F i a e m 48 [1,0,0,1,1,0,0,1,12,k,0,101] [0,1,2,2] [] [(62,i6 (IntKind.wrap .i64 ((↑k:Int)+1))),(60,i6 t),(59,ptr s.gm)] (λM=>bR (P) [i6 b.k,i6 b.n,.slice T R U]::(M)) 1 48 12 [] [((s.V.ly k).k==1,true),((↑k:Int)==(↑s.V.nl:Int),false)] [((↑k:Int),s.V.nl)] [(1,(k,s.V.nl))] λb e g b l l l=>?_;rw[d]at g;refine bu F a b g 63 58 #[ptr s.gm,i6 t,i6 (↑(k+1):Int)] λd b=>K d _ e _ (λd M e d k=>b _ _ _ e λb b e b d=>?_) dR.bY.cons (by omega) (Sat.back (A:=mR {s with la:=some la}) g.sat);refine aq F i a b e 2 [] [] [] [] (λM=>M) 0 51 12 [] λb i e d b b l=>cC F e a f d [] (.tuple #[]) ?_;exact k i e.sat b
abbrev RS.sH(s:RS)(t:Nat):RS:={s with l:={s.l with us:=upd s.l.us t (s.l.us t+1)}}
abbrev RS.got(s:RS)(i:Nat)(b:Bk)(h:ay):RS:={s with wh:=upd s.wh i h,l:={s.l with wt:=upd s.l.wt i {s.l.wt i with b:=b}}}
theorem HI{g:Nat->tU}{h:yX}{v:ay}(j f:Nat)(a:f<7):(oL (upd g i {g i with b:=b} j,upd h i v j)).getD f undef=ez (ez (ez (λj f=>(oL (g j,h j)).getD f undef) i 4 (i6 b.k)) i 5 (i6 b.n)) i 6 v j f:=by
 unfold ez upd;by_cases e:j=i
 .subst e;rcases f with _|_|_|_|_|_|_|f
  .simp[oL]
  .simp[oL]
  .simp[oL]
  .simp[oL]
  .simp[oL]
  .simp[oL]
  .simp[oL]
  .omega
 grind
theorem Uh:pc prog 76 79 (Bo 3) []=pc prog 76 66 [false] []:=by kernel_rfl
theorem ZC:((aL (pc prog 76 115 (Bo 32) [9]))[14]?).map (λo=>oD o 117 119 120 44)=some true:=by kernel_rfl
theorem Zz:.inRegion (aL (pc prog 76 115 (Bo 32) [9])) (bP (14+2) ((aL (pc prog 76 115 (Bo 32) [9])).size-(14+2)))::behind (pc prog 76 115 (Bo 32) [9])=pc prog 76 116 [false,false,false,false,false] [9,16]:=by kernel_rfl
theorem qA(F:aB prog W (DX J) Q)(m:HB B J)(d:Z.kind=.normal)(qh:Z.fn=76){s:RS}{l:Addr}{q6 I:Nat}{n:Int}{x:Lm}{a0:Act}(hv:RV J s)(k:B<=P)(k:w.heap.size=P)(tN:a0.defers=[])(OG:s.ta=some l)(ht:t<s.l.tl)(V:s.l.el<1000000000)(L:s.l.wl<1000000000)(rZ:s.l.al<1000000000)(u:0<=s.l.now/\s.l.now<1000000000000)(k:0<=x.t/\x.t<=1000)(mQ:nL B C (.slice T R U) b.ch)(k:b.ch.length<1000000)(K:∀BL k O C',fS J B Q Y X BL k->dR C C'->w.heap.size<=O.heap.size->x.t=0->∀g' e p,Sat J O (mR (s.dI g' e p (s.l.say t (-1) 2 n))++C')->RV J (s.dI g' e p (s.l.say t (-1) 2 n))->Q (G (Frame.enter prog 83 #[ptr s.gm,i6 t,i6 s.V.nl,ko b (.slice T R U)] .normal) (BL::k)) O)(K2:¬x.t=0->∀C' O A D H g3 c3 E k Vh I9,dR C C'->w.heap.size<=O.heap.size->Sat J O (mR (RS.got (RS.jz (RS.cB s A D H t s.V.nl) g3 c3 E (s.l.wait t s.V.nl x.t)) s.l.wl ⟨b.k,b.n,⟨0,0,n⟩::b.ch⟩ (.slice k Vh I9))++C')->RV J (RS.jz (RS.cB s A D H t s.V.nl) g3 c3 E (s.l.wait t s.V.nl x.t))->nL B C' (.slice k Vh I9) (⟨0,0,n⟩::b.ch)->Q (G (Y.finish (.tuple #[])) X) O)(S0:St J P 124 [(82,.bool (x.t==0)),(7,ptr I),(6,ptr q6),(5,i6 n),(0,ptr s.gm),(1,i6 t)] (bR I [i6 b.k,i6 b.n,.slice T R U]::bR q6 (s9 x)::(mR s++C)) 0 a0 w):
 Q (G (Z.at a0 (pc prog 76 108 [false,false,false,false] [])) (Y::X)) w:=by
 obtain⟨s,rfl⟩:=RS.jw OG;replace ht:t<s.l.tl:=ht;replace V:s.l.el<1000000000:=V;replace L:s.l.wl<1000000000:=L;replace rZ:s.l.al<1000000000:=rZ;replace u:0<=s.l.now/\s.l.now<1000000000000:=u;by_cases Nc:x.t=0
 .have G:(x.t==0)=true:=by grind
  refine aX F m d tN S0 6 [] [2] [] [(85,i6 n),(84,i6 t),(83,ptr s.gm),(7,ptr I),(0,ptr s.gm),(1,i6 t)] (λM=>M) 0 114 48 [] [(x.t==0,true)] [] [] λa1 w1 S1 B zS Dx o9=>bu F d B S1 86 82 #[ptr s.gm,i6 t,i6 (-1),i6 2,i6 n] λyS k=>iC F m (s:={s with ta:=some l}) (Sat.back (A:=mR {s with ta:=some l}) (Sat.back (A:=bR q6 (s9 x)::mR {s with ta:=some l}) S1.sat)) hv (by omega) V rfl ht λg' e p w2 h2 N yP=>k _ _ _ h2 λa2 B2 S2 w tM=>aq F m d w S2 3 [0,0,0,1,15,0,0,3] [] [8] [(94,.agg #[i6 b.k,i6 b.n,.slice T R U]),(93,i6 s.V.nl),(88,i6 t),(87,ptr s.gm)] (λM=>M) 0 118 48 [8] λa3 w3 S3 CJ YF yO mH=>bu F d CJ S3 95 83 #[ptr s.gm,i6 t,i6 s.V.nl,.agg #[i6 b.k,i6 b.n,.slice T R U]] λDl Nv=>?_;refine(K Dl _ w3 _ (λw4 M h4 K hz=>Nv _ _ _ h4 λa4 K q Vx Bj=>?_) dR.bY.cons.cons (by omega)) Nc g' e p S3.sat N;refine aq F m d Vx q 1 [] [] [] [] (λM=>M) 0 120 48 [8] λa5 w5 S5 Yv Y5 Dw qO=>cC F S5 d qh Yv [] (.tuple #[]) ?_;exact hz w5 S5.sat Dw
 .have G:(x.t==0)=false:=by simp_all
  refine aX F m d tN S0 4 [2,0,0,1,1,0,2,1] [0] [9] [(104,i6 x.t),(102,i6 s.V.nl),(97,i6 t),(96,ptr s.gm),(7,ptr I),(5,i6 n),(0,ptr s.gm)] (λM=>M) 0 112 32 [9] [(x.t==0,false)] [] [] λa1 w1 S1 B zS Dx o9=>bu F d B S1 105 81 #[ptr s.gm,i6 t,i6 s.V.nl,i6 x.t] λyS k=>zi F m (s:={s with ta:=some l}) (Sat.back (A:=mR {s with ta:=some l}) (Sat.back (A:=bR q6 (s9 x)::mR {s with ta:=some l}) S1.sat)) hv (by omega) L rZ rfl ht (by omega) (by grind) (by grind) λA D H g3 c3 E w2 h2 N yP=>k _ _ _ h2 λa2 B2 S2 w tM=>aq F m d w S2 2 [] [] [] [(8,i6 s.l.wl),(7,ptr I),(5,i6 n),(0,ptr s.gm)] (λM=>M) 0 115 32 [9] λa3 w3 S3 CJ YF yO mH=>?_;have hlE:R=b.ch.length:=by
   rcases mQ with ⟨y,z⟩|⟨_,_,_,y,_⟩
   .grind
   grind
  subst hlE;obtain⟨e,e,B,w,k,p⟩:=LO (show TY (aL (pc prog 76 115 (Bo 32) [9])) 14 121 120 [(112,i6 b.k),(114,i6 b.n)]=true by kernel_rfl);have Uu:∀G n c,cV prog (execOp (ev ((120,.slice G n c)::[(112,i6 b.k),(114,i6 b.n)])) (((aL (pc prog 76 115 (Bo 32) [9]))[15]?).getD default))=some (.value (.agg #[i6 b.k,i6 b.n,.slice G n c])):=λ_ _ _=>by kernel_rfl
  rw[e]at Uu;obtain⟨o,S,g⟩:=D3.1 ZC;obtain⟨g1,c,X3⟩:=jf g;refine bkX (Post:=λv O=>∃g4 c4,v=.slice (some ⟨g4,0,none⟩) (b.ch.length+1) c4/\Sat J O (gQ ⟨g4,0,none⟩ (⟨0,0,n⟩::b.ch)::(mR (RS.jz (RS.cB {s with ta:=some l} A D H t s.V.nl) g3 c3 E (s.l.wait t s.V.nl x.t))++bR q6 (s9 x)::bR I [i6 b.k,i6 b.n,.slice T b.ch.length U]::C))/\B2<=g4/\B2<=O.heap.size/\b.ch.length+1<=c4) [{bR s.gm (mC (RS.jz (RS.cB {s with ta:=some l} A D H t s.V.nl) g3 c3 E (s.l.wait t s.V.nl x.t)))with wr:=false},{bR I [i6 b.k,i6 b.n,.slice T b.ch.length U]with wr:=false}] [(3,[(0,(0,5),true)]),(6,[(1,(0,0),true)]),(8,[(1,(0,1),true)])] F aK (λa wr z=>m a wr (by omega)) d 14 (Hq [0,0,5,1,15,0,0,3]) [] 0 [(117,.slice (some ⟨B2,0,none⟩) 1 1),(119,.slice T b.ch.length U)] [(109,.slice (some ⟨A,0,none⟩) (s.l.wl+1) D),(110,i6 s.l.wl)] [(112,i6 b.k),(114,i6 b.n)] (bR B2 (qg ⟨0,0,n⟩)::·) 1 [] [] [] 120 121 (λv=>.agg #[i6 b.k,i6 b.n,v]) (by kernel_rfl) S e c B w k p (λv w2 hp=>?_) (by kernel_rfl) (by kernel_rfl) (by simp) (by kernel_rfl) eU eU eU S3 (λv w2 hp=>?_) (λa1 w1 rest q KK=>?_) (λv w2 a4 w4 hp hA Vx hf Bj=>?_)
  .grind
  .obtain⟨_,_,rfl,z2,z3,z4,z5⟩:=hp;exact⟨z2.tail.ZH (λi r h=>by match i,h with|0,h=>cases h;exact⟨rfl,0,_,rfl,rfl⟩|1,h=>cases h;exact⟨rfl,15,_,rfl,rfl⟩),z4⟩
  .have hz:=q.sz;have e1:=q.env.eval (x:=.tmp 117) rfl;have e2:=q.env.eval (x:=.tmp 119) rfl;cases Tz:b.ch with
   |nil=>
    rw[Tz]at e2;refine aB.app0 t44 F S (by simp[Region.wanted,g1]) (by grind) (.tmp 117) (.tmp 119) X3 e1 e2 (λz=>by cases z) (az _) ?_;exact KK _ _ ⟨B2,1,by rw[Tz];rfl,by have z:=Sat.RO q.sat;rw[Tz]at z ⊢;exact z,by omega,by omega,by grind⟩
   |cons z c=>
    obtain⟨ca,cap,i,y1,y2,y3,c⟩:=mQ.resolve_left λy=>by grind
    cases y1;refine F.R4 m (by omega) S g1 d (.tmp 117) (.tmp 119) X3 (p:=14+(2+i)+1) (L0:=[⟨0,0,n⟩]) (L:=b.ch) q.sat e1 e2 ?_ (.inr ⟨B2,_,0,rfl,rfl,rfl⟩) (λa z=>by grind) (by grind) (by grind) y3 λg' e O c a a a=>KK _ _ ⟨g',e,by rfl,Sat.BC (A:=[gQ ⟨g',0,none⟩ (⟨0,0,n⟩::b.ch)]) c,by omega,by omega,a⟩;show nth (mR _++_) (14+(2+i))=_;rw[b8,af (by show¬14+(2+i)<14;omega),show 14+(2+i)-(mR (RS.jz (RS.cB {s with ta:=some l} A D H t s.V.nl) g3 c3 E (s.l.wait t s.V.nl x.t))).length=i+1+1 by show 14+(2+i)-14=_;omega];exact y2
  .obtain⟨g4,c4,rfl,z2,z3,z4,z5⟩:=hp;rw[Zz];have q:St J w4.heap.size 124 _ _ 0 a4 w4:=⟨hA,Sat.back (z2.keep hf),rfl⟩;refine aX F m d (Vx.trans CJ) q 4 [5,Int.toNat (↑s.l.wl:Int),4,103] [2] [] [] (λM=>bh 5 (Int.toNat (↑s.l.wl:Int),6) (.slice (some ⟨g4,0,none⟩) (b.ch.length+1) c4) (bh 5 (Int.toNat (↑s.l.wl:Int),5) (i6 b.n) (bh 5 (Int.toNat (↑s.l.wl:Int),4) (i6 b.k) (M)))) 0 120 32 [9,16] [] [((↑s.l.wl:Int),s.l.wl+1)] [(3,(Int.toNat (↑s.l.wl:Int),s.l.wl+1))] λa5 w5 S5 Yv Y5 Dw qO=>cC F S5 d qh Yv [] (.tuple #[]) ?_;exact K2 Nc _ w5 A D H g3 c3 E _ _ _ dR.bY.cons.cons.cons (by omega) (S5.sat.re 5 rfl rfl (λj=>oL (upd (s.l.wait t s.V.nl x.t).wt s.l.wl {(s.l.wait t s.V.nl x.t).wt s.l.wl with b:=⟨b.k,b.n,⟨0,0,n⟩::b.ch⟩} j,upd (upd s.wh s.l.wl (.slice none 0 0)) s.l.wl (.slice (some ⟨g4,0,none⟩) (b.ch.length+1) c4) j)) λj _ f hf=>HI j f hf) N (.inr ⟨_,_,0,rfl,rfl,by grind,z5⟩)
theorem AG(F:aB prog W (DX J) Q)(L:HB B J)(j:Z.kind=.normal)(H:Z.fn=76){s:RS}{a:Addr}{q:Nat}{n:Int}{x:Lm}{a0:Act}(hv:RV J s)(b:B<=P)(b:w.heap.size=P)(E:a0.defers=[])(A:s.ta=some a)(ht:t<s.l.tl)(D:s.l.el<1000000000)(z:s.l.wl<1000000000)(I:s.l.al<1000000000)(l:0<=s.l.now/\s.l.now<1000000000000)(hx:0<=x.t/\x.t<=1000)(K:∀h g O C',fS J B Q Y X h g->dR C C'->w.heap.size<=O.heap.size->x.t=0->∀v a c T R U,Sat J O (mR (s.dI v a c (s.l.say t (-1) 2 n))++C')->RV J (s.dI v a c (s.l.say t (-1) 2 n))->nL B C' (.slice T R U) (cN x).ch->Q (G (Frame.enter prog 83 #[ptr s.gm,i6 t,i6 s.V.nl,ko (cN x) (.slice T R U)] .normal) (h::g)) O)(K2:¬x.t=0->∀C' O u y p r c3 o d e f,dR C C'->w.heap.size<=O.heap.size->Sat J O (mR (RS.got (RS.jz (RS.cB s u y p t s.V.nl) r c3 o (s.l.wait t s.V.nl x.t)) s.l.wl ⟨(cN x).k,(cN x).n,⟨0,0,n⟩::(cN x).ch⟩ (.slice d e f))++C')->RV J (RS.jz (RS.cB s u y p t s.V.nl) r c3 o (s.l.wait t s.V.nl x.t))->nL B C' (.slice d e f) (⟨0,0,n⟩::(cN x).ch)->Q (G (Y.finish (.tuple #[])) X) O)(S0:St J P 124 [(6,ptr q),(5,i6 n),(0,ptr s.gm),(1,i6 t)] (bR q (s9 x)::(mR s++C)) 0 a0 w):
 Q (G (Z.at a0 (pc prog 76 66 [false] [])) (Y::X)) w:=by
 by_cases w:x.k=2
 .have S:cN x=⟨2,0,[⟨1,-1,x.n⟩]⟩:=by unfold cN c9;simp_all
  rw[S]at K K2;refine aX F L j E S0 50 [0,0,1,1,0,0,0,3,1,0,0,2,1,0,0,3,1,0,0,3,2,0,0,3,3,0,2,1] [2] [] [(82,.bool (x.t==0)),(7,ptr P),(6,ptr q),(5,i6 n),(0,ptr s.gm),(1,i6 t)] (λM=>bR (P+2) [i6 1,i6 (-1),i6 x.n]::(bR (P+1) [i6 2,i6 0,.slice (some ⟨P+2,0,none⟩) 1 1]::(bR (P) [i6 2,i6 0,.slice (some ⟨P+2,0,none⟩) 1 1]::(M)))) 3 101 6 [] [(x.k==2,true)] [] [] λa1 w1 m k B N o9=>?_;rw[show pc prog 76 101 (Bo 6) []=pc prog 76 108 [false,false,false,false] [] by kernel_rfl]
  exact qA F L j H (b:=⟨2,0,[⟨1,-1,x.n⟩]⟩) (C:=bR (P+1) [i6 2,i6 0,.slice (some ⟨P+2,0,none⟩) 1 1]::gQ ⟨P+2,0,none⟩ [⟨1,-1,x.n⟩]::C) hv (by omega) rfl k A ht D z I l hx (.inr ⟨_,_,1,rfl,rfl,by grind,az _⟩) (by simp)
   (λh g O C' R i G b v a c V w=>K h g O C' R ((dR.bY.cons.cons).trans i) (by omega) b v a c _ _ _ V w (nL.inc (.inr ⟨_,_,1,rfl,rfl,by grind,az _⟩) i))
   (λb C' O u y p r c3 o d e f i G=>K2 b C' O u y p r c3 o d e f ((dR.bY.cons.cons).trans i) (by omega))
   ⟨m.env,Sat.back (A:=bR P [i6 2,i6 0,.slice (some ⟨P+2,0,none⟩) 1 1]::bR q (s9 x)::mR s) (Sat.back (A:=bR (P+1) [i6 2,i6 0,.slice (some ⟨P+2,0,none⟩) 1 1]::bR P [i6 2,i6 0,.slice (some ⟨P+2,0,none⟩) 1 1]::bR q (s9 x)::mR s) (Sat.RO m.sat)),rfl⟩
 .have h2':(x.k==2)=false:=by simp_all
  by_cases h3:x.k=3
  .have S:cN x=⟨2,0,[⟨2,-1,x.n⟩]⟩:=by unfold cN c9;simp_all
   rw[S]at K K2;refine aX F L j E S0 56 [0,0,1,1,0,0,0,3,1,0,0,2,1,0,0,3,1,0,0,3,2,0,0,3,3,0,2,1] [0,2] [] [(82,.bool (x.t==0)),(7,ptr P),(6,ptr q),(5,i6 n),(0,ptr s.gm),(1,i6 t)] (λM=>bR (P+2) [i6 2,i6 (-1),i6 x.n]::(bR (P+1) [i6 2,i6 0,.slice (some ⟨P+2,0,none⟩) 1 1]::(bR (P) [i6 2,i6 0,.slice (some ⟨P+2,0,none⟩) 1 1]::(M)))) 3 107 12 [] [(x.k==3,true),(x.k==2,false)] [] [] λa1 w1 m k B N o9=>?_;rw[show pc prog 76 107 (Bo 12) []=pc prog 76 108 [false,false,false,false] [] by kernel_rfl]
   exact qA F L j H (b:=⟨2,0,[⟨2,-1,x.n⟩]⟩) (C:=bR (P+1) [i6 2,i6 0,.slice (some ⟨P+2,0,none⟩) 1 1]::gQ ⟨P+2,0,none⟩ [⟨2,-1,x.n⟩]::C) hv (by omega) rfl k A ht D z I l hx (.inr ⟨_,_,1,rfl,rfl,by grind,az _⟩) (by simp)
    (λh g O C' R i G b v a c V w=>K h g O C' R ((dR.bY.cons.cons).trans i) (by omega) b v a c _ _ _ V w (nL.inc (.inr ⟨_,_,1,rfl,rfl,by grind,az _⟩) i))
    (λb C' O u y p r c3 o d e f i G=>K2 b C' O u y p r c3 o d e f ((dR.bY.cons.cons).trans i) (by omega))
    ⟨m.env,Sat.back (A:=bR P [i6 2,i6 0,.slice (some ⟨P+2,0,none⟩) 1 1]::bR q (s9 x)::mR s) (Sat.back (A:=bR (P+1) [i6 2,i6 0,.slice (some ⟨P+2,0,none⟩) 1 1]::bR P [i6 2,i6 0,.slice (some ⟨P+2,0,none⟩) 1 1]::bR q (s9 x)::mR s) (Sat.RO m.sat)),rfl⟩
  .have h3':(x.k==3)=false:=by simp_all
   by_cases h4:x.k=4
   .have S:cN x=⟨3,x.n,[]⟩:=by unfold cN;simp_all
    rw[S]at K K2;refine aX F L j E S0 47 [0,0,1,1,0,0,0,3,1,0,0,2,0,0,0,3,1,0,2,1] [0,0,2] [] [(82,.bool (x.t==0)),(7,ptr P),(6,ptr q),(5,i6 n),(0,ptr s.gm),(1,i6 t)] (λM=>bR (P) [i6 3,i6 x.n,.slice none 0 0]::(M)) 1 113 24 [] [(x.k==4,true),(x.k==3,false),(x.k==2,false)] [] [] λa1 w1 m k B N o9=>?_;rw[show pc prog 76 113 (Bo 24) []=pc prog 76 108 [false,false,false,false] [] by kernel_rfl]
    exact qA F L j H (b:=⟨3,x.n,[]⟩) (C:=C) hv (by omega) rfl k A ht D z I l hx (.inl ⟨rfl,rfl⟩) (by simp)
     (λh g O C' R i G b v a c V w=>K h g O C' R i (by omega) b v a c _ _ _ V w (.inl ⟨rfl,rfl⟩))
     (λb C' O u y p r c3 o d e f i G=>K2 b C' O u y p r c3 o d e f i (by omega))
     ⟨m.env,m.sat,rfl⟩
   .have h4':(x.k==4)=false:=by simp_all
    have S:cN x=⟨1,x.n,[]⟩:=by unfold cN;simp_all
    rw[S]at K K2;refine aX F L j E S0 42 [0,0,1,1,0,0,0,3,1,0,0,1,1,0,2,1] [0,0,0] [] [(82,.bool (x.t==0)),(7,ptr P),(6,ptr q),(5,i6 n),(0,ptr s.gm),(1,i6 t)] (λM=>bR (P) [i6 1,i6 x.n,.slice none 0 0]::(M)) 1 108 16 [] [(x.k==4,false),(x.k==3,false),(x.k==2,false)] [] [] λa1 w1 m k B N o9=>qA F L j H (b:=⟨1,x.n,[]⟩) (C:=C) hv (by omega) rfl k A ht D z I l hx (.inl ⟨rfl,rfl⟩) (by simp)
     (λh g O C' R i G b v a c V w=>K h g O C' R i (by omega) b v a c _ _ _ V w (.inl ⟨rfl,rfl⟩))
     (λb C' O u y p r c3 o d e f i G=>K2 b C' O u y p r c3 o d e f i (by omega))
     ⟨m.env,m.sat,rfl⟩
theorem H9(F:aB prog W (DX J) Q)(v:HB B J){s:RS}{m:Addr}(hS:Sat J w (mR s++C))(hv:RV J s)(d:B<=w.heap.size)(OG:s.ta=some m)(ZS:s.ca=some ca)(L:t<s.l.tl)(y:(s.l.tk t).c=t)(I:t<s.V.nc)(d:s.V.nl<=6)(N:s.l.el<100000000)(r:s.l.wl<1000000000)(u:s.l.al<1000000000)(H:0<=s.l.us t/\s.l.us t<1000000000)(g:0<=s.l.now/\s.l.now<1000000000000)(XI:0<s.V.nt t->∃e,s.dL t=some e/\Has C (fR e 3 (λj=>s9 (s.V.tr t j)) (s.V.nt t) false))(hx:0<=(aU s.V t (s.l.us t).toNat).t/\(aU s.V t (s.l.us t).toNat).t<=1000)(K:∀l k O C',fS J B Q Y X l k->dR C C'->w.heap.size<=O.heap.size->(aU s.V t (s.l.us t).toNat).t=0->∀n a b S V d T R U,Sat J O (mR (RS.dI (RS.dI (s.sH t) S V d ((s.sH t).l.say t (-1) 1 (s.l.us t))) n a b (((s.sH t).l.say t (-1) 1 (s.l.us t)).say t (-1) 2 (s.l.us t)))++C')->RV J (RS.dI (RS.dI (s.sH t) S V d ((s.sH t).l.say t (-1) 1 (s.l.us t))) n a b (((s.sH t).l.say t (-1) 1 (s.l.us t)).say t (-1) 2 (s.l.us t)))->nL B C' (.slice T R U) (cN (aU s.V t (s.l.us t).toNat)).ch->Q (G (Frame.enter prog 83 #[ptr s.gm,i6 t,i6 s.V.nl,ko (cN (aU s.V t (s.l.us t).toNat)) (.slice T R U)] .normal) (l::k)) O)(K2:¬(aU s.V t (s.l.us t).toNat).t=0->∀C' O S V d p q o E c3 D h c i,dR C C'->w.heap.size<=O.heap.size->Sat J O (mR (RS.got (RS.jz (RS.cB (RS.dI (s.sH t) S V d ((s.sH t).l.say t (-1) 1 (s.l.us t))) p q o t s.V.nl) E c3 D (((s.sH t).l.say t (-1) 1 (s.l.us t)).wait t s.V.nl (aU s.V t (s.l.us t).toNat).t)) s.l.wl ⟨(cN (aU s.V t (s.l.us t).toNat)).k,(cN (aU s.V t (s.l.us t).toNat)).n,⟨0,0,s.l.us t⟩::(cN (aU s.V t (s.l.us t).toNat)).ch⟩ (.slice h c i))++C')->RV J (RS.jz (RS.cB (RS.dI (s.sH t) S V d ((s.sH t).l.say t (-1) 1 (s.l.us t))) p q o t s.V.nl) E c3 D (((s.sH t).l.say t (-1) 1 (s.l.us t)).wait t s.V.nl (aU s.V t (s.l.us t).toNat).t))->nL B C' (.slice h c i) (⟨0,0,s.l.us t⟩::(cN (aU s.V t (s.l.us t).toNat)).ch)->Q (G (Y.finish (.tuple #[])) X) O):
 Q (G (Frame.enter prog 76 #[ptr s.gm,i6 t] .normal) (Y::X)) w:=by
 obtain⟨s,rfl⟩:=RS.jw OG;obtain⟨s,rfl⟩:=RS.Ld (s:=s) ZS;replace L:t<s.l.tl:=L;replace y:(s.l.tk t).c=t:=y;replace I:t<s.V.nc:=I;replace N:s.l.el<100000000:=N;replace r:s.l.wl<1000000000:=r;replace u:s.l.al<1000000000:=u;replace H:0<=s.l.us t/\s.l.us t<1000000000:=H;replace g:0<=s.l.now/\s.l.now<1000000000000:=g;refine cJ func76 hS 124 λZ d P hn d S w G B=>aX F v d w G 10 [0,0,4,1,3,t,0,101] [2] [] [(16,i6 (s.l.tk t).c),(0,ptr s.gm),(1,i6 t)] (λM=>M) 0 10 1 [] [] [((↑t:Int),s.l.tl)] [(1,(t,s.l.tl))] λw w S1 w B B B=>?_;rw[y]at S1;refine aX F v d w S1 31 [0,0,6,1,7,t,0,101,0,0,6,1,7,t,0,101,7,t,0,101] [2,2,2] [] [(35,i6 (s.l.us t)),(34,i6 t),(33,ptr s.gm),(5,i6 (s.l.us t)),(4,i6 t),(0,ptr s.gm),(1,i6 t)] (λM=>bh 7 (t,0) (i6 (IntKind.wrap .i64 (s.l.us t+1))) (M)) 0 41 1 [] [] [((↑t:Int),s.V.nc),((↑t:Int),s.V.nc),((↑t:Int),s.V.nc)] [(3,(t,s.V.nc))] λV B A w G G G=>?_;have G:IntKind.wrap .i64 (s.l.us t+1)=s.l.us t+1:=aA (by omega) (by omega);rw[G]at A;replace A:St J P 124 _ (mR (RS.sH {s with ca:=some ca,ta:=some m} t)++C) 0 V B:=⟨A.env,A.sat.re 7 rfl rfl _ λj _ f _=>fT (C:=λx=>[i6 x]) rfl (show 0<1 by omega) j f,A.sz⟩;refine bu F d w A 36 82 #[ptr s.gm,i6 t,i6 (-1),i6 1,i6 (s.l.us t)] λf f=>iC F v (s:=RS.sH {s with ca:=some ca,ta:=some m} t) A.sat ⟨hv.a,hv.t,hv.w,hv.e⟩ (by omega) (by grind) rfl L λn a b w V B w=>f _ _ _ V λf x S3 G f=>?_;by_cases hn:s.l.us t<s.V.nt t
 .have hn':decide (s.l.us t<(s.V.nt t:Int))=true:=by grind
  refine aX F v d G S3 33 [0,0,0,3,1,0,1,1,13,t,1,101,1,0,1,1,13,t,1,101] [2,2,2] [] [(57,i6 (s.l.us t)),(56,.slice (s.dL t) (s.V.nt t) (s.eu t)),(6,ptr x),(5,i6 (s.l.us t)),(0,ptr s.gm),(1,i6 t)] (λM=>bR (x) [i6 1,i6 0,i6 0]::(M)) 1 75 3 [] [(decide (s.l.us t<(↑(s.V.nt t):Int)),true)] [((↑t:Int),s.V.nc),((↑t:Int),s.V.nc)] [(2,(t,s.V.nc))] λa4 w4 z w Bj FO fr4=>?_;obtain⟨e,Yc,f⟩:=XI (by grind);rw[show s.dL t=some e from Yc]at z;replace z:=z.get (((f.app (mR (RS.dI (RS.sH {s with ca:=some ca,ta:=some m} t) n a b ((RS.sH {s with ca:=some ca,ta:=some m} t).l.say t (-1) 1 (s.l.us t))))).cons (x:=bR x [i6 1,i6 0,i6 0])));refine aX F v d w z 4 [0,Int.toNat (s.l.us t),0,103,1,0,0,3] [2] [] [(6,ptr x),(5,i6 (s.l.us t)),(0,ptr s.gm),(1,i6 t)] (λM=>bh 1 (0,2) (i6 (s.V.tr t (Int.toNat (s.l.us t))).t) (bh 1 (0,1) (i6 (s.V.tr t (Int.toNat (s.l.us t))).n) (bh 1 (0,0) (i6 (s.V.tr t (Int.toNat (s.l.us t))).k) (M)))) 1 79 3 [] [] [(s.l.us t,s.V.nt t)] [(3,(Int.toNat (s.l.us t),s.V.nt t))] λf f S5 Yv f f f=>?_;rw[Uh];have f:aU s.V t (s.l.us t).toNat=s.V.tr t (s.l.us t).toNat:=ah (by omega);replace hx:0<=(aU s.V t (s.l.us t).toNat).t/\(aU s.V t (s.l.us t).toNat).t<=1000:=hx;rw[f]at hx;replace K:=K
  exact AG F v d S (s:=RS.dI (RS.sH {s with ca:=some ca,ta:=some m} t) n a b ((RS.sH {s with ca:=some ca,ta:=some m} t).l.say t (-1) 1 (s.l.us t))) (C:=fR e 3 (λj=>s9 (s.V.tr t j)) (s.V.nt t) false::C) (x:=s.V.tr t (s.l.us t).toNat) B (by omega) rfl Yv rfl L (by show s.l.el+1<1000000000;omega) r u g hx
   (λl k O C' R j hz e p q o T c U h1 h2 V=>(f▸K) l k O C' R (dR.bY.cons.trans j) (by omega) e p q o n a b T c U h1 h2 V)
   (λe C' O p q o E c3 D h c i j hz=>(f▸K2) e C' O n a b p q o E c3 D h c i (dR.bY.cons.trans j) (by omega))
   ⟨S5.env,Sat.back (A:=bR x (s9 (s.V.tr t (s.l.us t).toNat))::mR (RS.dI (RS.sH {s with ca:=some ca,ta:=some m} t) n a b ((RS.sH {s with ca:=some ca,ta:=some m} t).l.say t (-1) 1 (s.l.us t)))) S5.sat,rfl⟩
 .have hn':decide (s.l.us t<(s.V.nt t:Int))=false:=by grind
  have f:aU s.V t (s.l.us t).toNat=⟨1,0,0⟩:=af (by omega);refine aX F v d G S3 24 [0,0,0,3,1,0,1,1,13,t,1,101] [2,0] [] [(6,ptr x),(5,i6 (s.l.us t)),(0,ptr s.gm),(1,i6 t)] (λM=>bR (x) [i6 1,i6 0,i6 0]::(M)) 1 66 2 [] [(decide (s.l.us t<(↑(s.V.nt t):Int)),false)] [((↑t:Int),s.V.nc)] [(1,(t,s.V.nc))] λa4 w4 z w Bj FO fr4=>AG F v d S (s:=RS.dI (RS.sH {s with ca:=some ca,ta:=some m} t) n a b ((RS.sH {s with ca:=some ca,ta:=some m} t).l.say t (-1) 1 (s.l.us t))) (C:=C) (x:=⟨1,0,0⟩) B (by omega) rfl w rfl L (by show s.l.el+1<1000000000;omega) r u g (by decide)
   (λl k O C' R j hz e p q o T c U h1 h2 V=>(f▸K) l k O C' R j (by omega) e p q o n a b T c U h1 h2 V)
   (λe C' O p q o E c3 D h c i j hz=>(f▸K2) e C' O n a b p q o E c3 D h c i j (by omega))
   ⟨z.env,z.sat,rfl⟩
theorem Uk(F:aB prog W (DX J) Q)(o:HB B J){s:RS}{e:Addr}{z:Int}(hS:Sat J w (mR s++C))(S:RV J s)(c:B<=w.heap.size)(c:s.la=some la)(u:s.ta=some e)(V:t<s.l.tl)(x:s.l.el<1000000000)(hk:k<s.V.nl)(h6:s.V.nl<=6)(v:(s.V.ly k).k=5)(q:z=1\/z=2)(K:∀g f O C' j a d,fS J B Q Y X g f->dR C C'->w.heap.size<=O.heap.size->
 (z=1->∀p i,Sat J O (mR (s.dI j a d (s.l.say t k 7 0))++C')->RV J (s.dI j a d (s.l.say t k 7 0))->B<=p->nth C' i=some (gQ ⟨p,0,none⟩ [⟨3,k,0⟩])->Q (G (Frame.enter prog 83 #[ptr s.gm,i6 t,i6 k,ko (c9 3 k 0) (.slice (some ⟨p,0,none⟩) 1 1)] .normal) (g::f)) O)/\
 (z=2->Sat J O (mR (s.dI j a d (s.l.say t k 13 0))++C')->RV J (s.dI j a d (s.l.say t k 13 0))->Q (G (Frame.enter prog 58 #[ptr s.gm,i6 t,i6 (k+1:Nat)] .normal) (g::f)) O)):
 Q (G (Frame.enter prog 59 #[ptr s.gm,i6 t,i6 k,i6 z,ko b (.slice T R U)] .normal) (Y::X)) w:=by
 obtain⟨s,rfl⟩:=RS.uF c;replace hk:k<s.V.nl:=hk;replace h6:s.V.nl<=6:=h6;replace v:(s.V.ly k).k=5:=v;have c:((k:Int)==(s.V.nl:Int))=false:=by simp;omega
 have D:IntKind.wrap .i64 ((k:Int)+1)=((k+1:Nat):Int):=by rw[aA (by omega) (by omega)];rfl
 rcases q with rfl|rfl
 .refine cJ func59 hS 94 λZ a0 P hn c n m N A=>aX F o c m N 61 [1,0,0,1,1,0,0,1,12,k,0,101] [0,1,2,0,2,3] [] [(70,i6 k),(69,i6 t),(68,ptr s.gm)] (λM=>bR (P) [i6 b.k,i6 b.n,.slice T R U]::(M)) 1 61 56 [] [((s.V.ly k).k==5,true),((s.V.ly k).k==1,false),((↑k:Int)==(↑s.V.nl:Int),false)] [((↑k:Int),s.V.nl)] [(1,(k,s.V.nl))] λa1 w1 w l z C H=>bu F c l w 71 84 #[ptr s.gm,i6 t,i6 k] λI e=>lG F o (s:={s with la:=some la}) (Sat.back (A:=mR {s with la:=some la}) w.sat) S (by omega) u V x λg f O C' j a d p i y z2 E z4 z5 z6 z7=>?_;refine(K g f O C' j a d (λw4 M G f q=>y _ _ G f λg E y=>e _ _ _ E λE E S6 E YG=>?_) (λi r h=>z2 (i+1) r h) (by omega)).1 rfl p i z4 z5 z6 z7;have h:B<=g.heap.size:=by omega
  refine aq F o c E S6 1 [] [] [] [] (λM=>M) 0 63 56 [] λh p i h r r r=>cC F i c n h [] (.tuple #[]) ?_;exact q p i.sat (by omega)
 .refine cJ func59 hS 94 λZ a0 P hn c n m N A=>aX F o c m N 62 [1,0,0,1,1,0,0,1,12,k,0,101] [0,1,2,0,2,1] [] [(74,i6 k),(73,i6 t),(72,ptr s.gm),(0,ptr s.gm),(1,i6 t),(2,i6 k)] (λM=>bR (P) [i6 b.k,i6 b.n,.slice T R U]::(M)) 1 62 40 [] [((s.V.ly k).k==5,true),((s.V.ly k).k==1,false),((↑k:Int)==(↑s.V.nl:Int),false)] [((↑k:Int),s.V.nl)] [(1,(k,s.V.nl))] λa1 w1 w l z C H=>bu F c l w 75 82 #[ptr s.gm,i6 t,i6 k,i6 13,i6 0] λI e=>iC F o (s:={s with la:=some la}) (Sat.back (A:=mR {s with la:=some la}) w.sat) S (by omega) x u V λj a d b i h b=>e _ _ _ i λb b i b e=>aq F o c b i 6 [] [] [] [(79,i6 (IntKind.wrap .i64 ((↑k:Int)+1))),(77,i6 t),(76,ptr s.gm)] (λM=>M) 0 69 40 [] λb i L b e e e=>?_;rw[D]at L;refine bu F c b L 80 58 #[ptr s.gm,i6 t,i6 (↑(k+1):Int)] λe b=>?_;refine(K e _ i _ j a d (λw4 M G f q=>b _ _ _ G λa a d a b=>?_) dR.bY.cons (by omega)).2 rfl L.sat h;refine aq F o c a d 2 [] [] [] [] (λM=>M) 0 72 40 [] λa g d b y a e=>cC F d c n b [] (.tuple #[]) ?_;exact q g d.sat a
structure RI(J:dh)(B:Nat)(V:Ev0)(w:aj)(s:RS)(C:aW):Prop where
 v:s.V=V
 sat:Sat J w (mR s++C)
 rv:RV J s
 bw:B<=w.heap.size
 la:0<V.nl->∃la,s.la=some la
 ca:0<V.nc->∃ca,s.ca=some ca
 oh:∀j,j<V.nc->nL B C (s.oh j) (s.l.ou j).b.ch
 wh:∀j,j<s.l.wl->nL B C (s.wh j) (s.l.wt j).b.ch
 xm:∀c,c<V.nc->0<V.nt c->∃ta,s.dL c=some ta/\Has C (fR ta 3 (λj=>s9 (V.tr c j)) (V.nt c) false)
 gh:lf B C V.nl s.l.gt s.gb
structure Fx(s s':RS):Prop where
 gm:s'.gm=s.gm
 v:s'.V=s.V
 la:s'.la=s.la
 ca:s'.ca=s.ca
 th:s'.dL=s.dL
 oa:s'.oa=s.oa
 oc:s'.oc=s.oc
theorem Fx.bY{s:RS}:Fx s s:=⟨rfl,rfl,rfl,rfl,rfl,rfl,rfl⟩
theorem Fx.trans{s b s2:RS}(h:Fx s b)(a:Fx b s2):Fx s s2:=⟨a.gm.trans h.gm,a.v.trans h.v,a.la.trans h.la,a.ca.trans h.ca,a.th.trans h.th,a.oa.trans h.oa,a.oc.trans h.oc⟩
theorem dR.has(h:dR C C')(a:Has C r):Has C' r:=by obtain⟨c,i,b⟩:=a;obtain⟨j,a⟩:=h i r b;exact⟨c,j,a⟩
section
variable{Lf:LS}
theorem RI.Tg{s a:RS}(h:RI J B V w s C)(k:Sat J O (mR a++C'))(f:RV J a)(b:Fx s a)(g:dR C C')(d:w.heap.size<=O.heap.size)(T:∀j,j<V.nc->nL B C' (a.oh j) (a.l.ou j).b.ch)(e:∀j,j<a.l.wl->nL B C' (a.wh j) (a.l.wt j).b.ch)(i:lf B C' V.nl a.l.gt a.gb):RI J B V O a C':=
 ⟨b.v.trans h.v,k,f,aT h.bw d,λz=>by rw[b.la];exact h.la z,λz=>by rw[b.ca];exact h.ca z,T,e,λc j f=>by
  obtain⟨a,e,d⟩:=h.xm c j f;exact⟨a,by rw[b.th];exact e,g.has d⟩,i⟩
theorem RI.mv{s a:RS}(h:RI J B V w s C)(f:Sat J O (mR a++C'))(e:RV J a)(g:Fx s a)(b:dR C C')(c:w.heap.size<=O.heap.size)(T:∀j,j<V.nc->nL B C' (a.oh j) (a.l.ou j).b.ch)(d:∀j,j<a.l.wl->nL B C' (a.wh j) (a.l.wt j).b.ch)(i:a.l.gt=s.l.gt:=by rfl)(j:a.gb=s.gb:=by rfl):RI J B V O a C':=
 h.Tg f e g b c T d (by rw[i,j];exact h.gh.inc b)
theorem RI.sI{s:RS}(h:RI J B V w s C)(b:dR C C')(j:Nat)(a:j<V.nc):nL B C' (s.oh j) (s.l.ou j).b.ch:=(h.oh j a).inc b
theorem RI.vg{s:RS}(h:RI J B V w s C)(b:dR C C')(j:Nat)(a:j<s.l.wl):nL B C' (s.wh j) (s.l.wt j).b.ch:=(h.wh j a).inc b
theorem RI.tg{s:RS}(h:RI J B V w s C)(a:t<s.l.tl):∃g,s.ta=some g:=by
 rcases h.rv.t.row with ⟨_,z,_⟩|⟨g,z,_⟩
 .omega
 simp_all
def Sb(J:dh)(B:Nat)(V:Ev0)(Lf:LS)(Q:gi)(Y:aC)(X:cO)(m:Nat)(w:aj)(s:RS)(C:aW):Prop:=
 ∀s' C' O m',RI J B V O s' C'->m'<m->Fx s s'->dR C C'->Fin V Lf m' none s'.l->w.heap.size<=O.heap.size->Q (G (Y.finish (.tuple #[])) X) O
theorem Sb.mv{b:aC}{a:cO}{m1:Nat}{c:aj}{s d:RS}{e:aW}(h:Sb J B V Lf Q Y X m w s C)(R:fS J B Q Y X b a)(f:m1<=m)(l:Fx s d)(f:dR C e)(g:w.heap.size<=c.heap.size):Sb J B V Lf Q b a m1 c d e:=
 λd C' O e a b k j i b=>R O _ a.sat a.bw λc g b=>h d C' c e ⟨a.v,g,a.rv,aT a.bw b,a.la,a.ca,a.oh,a.wh,a.xm,a.gh⟩ (by omega) (l.trans k) (f.trans j) i (by omega)
theorem fS.trans{d c:aC}{b a:cO}(h:fS J B Q Y X d b)(e:fS J B Q d b c a):fS J B Q Y X c a:=
 λw M a c K=>e w M a c λd b a=>h d M b (aT c a) λb a c=>K b a (by omega)
theorem LS.JR(y:ju)(t k:Nat)(L:LS):(L.jg y t k).1.ou=L.ou/\(L.jg y t k).1.wl=L.wl/\(L.jg y t k).1.wt=L.wt:=by
 unfold LS.jg LS.nV;split<;>exact⟨rfl,rfl,rfl⟩
theorem LS.Mz(y:ju)(t k:Nat)(L:LS):(L.pass y t k).1.ou=L.ou/\(L.pass y t k).1.wl=L.wl/\(L.pass y t k).1.wt=L.wt:=by
 have a:(L.aM t k).ou=L.ou/\(L.aM t k).wl=L.wl/\(L.aM t k).wt=L.wt:=by unfold LS.aM;split<;>exact⟨rfl,rfl,rfl⟩
 have b:((L.aM t k).cz k).ou=L.ou/\((L.aM t k).cz k).wl=L.wl/\((L.aM t k).cz k).wt=L.wt:=by
  unfold LS.cz;split
  .exact a
  .exact a
 unfold LS.pass LS.nV;split
 .exact⟨rfl,rfl,rfl⟩
 .split
  .exact a
  .exact b
theorem LS.Jv(y:ju)(t k:Nat)(b:Bk)(L:LS):(L.count y t k b).ou=L.ou/\(L.count y t k b).wl=L.wl/\(L.count y t k b).wt=L.wt:=by
 unfold LS.count;split
 .simp
 .split
  .exact⟨rfl,rfl,rfl⟩
  .dsimp only;split
   .exact⟨rfl,rfl,rfl⟩
   .split<;>exact⟨rfl,rfl,rfl⟩
theorem LS.L7(y:ju)(t k:Nat)(L:LS)(h:(L.take y t k).2≠none):(L.take y t k).1.ou=L.ou/\(L.take y t k).1.wl=L.wl/\(L.take y t k).1.wt=L.wt:=by
 unfold LS.take LS.nV at h ⊢;split
 .exact⟨rfl,rfl,rfl⟩
 .split
  .exact⟨rfl,rfl,rfl⟩
  simp_all
theorem LS.MR(t k:Nat)(L:LS):(L.fC t k).ou=L.ou/\(L.fC t k).wl=L.wl:=by
 unfold LS.fC;split<;>exact⟨rfl,rfl⟩
theorem rU(F:aB prog W (DX J) Q)(hB:HB B J)(hV:wM V):∀(m:Nat)(Y:aC)(X:cO)(w:aj)(s:RS)(C:aW)(t k:Nat)(ob:Option Bk),RI J B V w s C->Fin V Lf m (some (t,k,ob)) s.l->Sb J B V Lf Q Y X m w s C->
 (ob=none->Q (G (Frame.enter prog 58 #[ptr s.gm,i6 t,i6 k] .normal) (Y::X)) w)/\(∀b,ob=some b->∀T R U,nL B C (.slice T R U) b.ch->Q (G (Frame.enter prog 83 #[ptr s.gm,i6 t,i6 k,ko b (.slice T R U)] .normal) (Y::X)) w):=by
 intro m;induction m with
 |zero=>intro Y X w s C t k ob I hf;exact hf.elim
 |succ m ih=>
  intro Y X w s C t k ob I hf hK;obtain⟨f,hk,hb,d⟩:=hf;have e:=I.v;subst e;have y:t<s.l.tl:=by rw[f.tl];exact f.tn
  obtain⟨G,M⟩:=I.tg y;have U6:=hV.nl;refine⟨λe=>?_,λb e T R U mQ=>?_⟩
  .subst e;by_cases Vq:k<s.V.nl/\((s.V.ly k).k=3\/(s.V.ly k).k=4\/(s.V.ly k).k=5)
   .obtain⟨u,Vi⟩:=Vq;have gk:∀(q:LS×Option (Nat×Option Bk))(H:aC)(D:cO)(O:aj)(C':aW),fS J B Q Y X H D->dR C C'->w.heap.size<=O.heap.size->(q.2≠none->q.1.ou=s.l.ou/\q.1.wl=s.l.wl/\q.1.wt=s.l.wt)->(match q with|(L',none)=>Fin s.V Lf m none L'|(L',some (k',PE))=>Fin s.V Lf m (some (t,k',PE)) L')->Sm J B Q H D O s C' t k q:=by
     intro q H D O C' R g L p hq E A w2 K ea ec vv gb gc x c l S h2 h3;obtain⟨L',_|o⟩:=q
     .simp
     replace p:=p (by simp);replace c:dR C' K:=c;have I2:=I.Tg S h2 ⟨rfl,rfl,rfl,rfl,rfl,rfl,rfl⟩ (g.trans c) (by omega) (λj n=>by dsimp only at p ⊢;rw[p.1];exact I.sI (g.trans c) j n) (λj n=>by dsimp only at p n ⊢;rw[p.2.1]at n;rw[p.2.2];exact I.vg (g.trans c) j n) h3;refine⟨λnb i e o8 hn=>?_,λe=>?_⟩
     .cases e;exact(ih E A w2 _ K t k (some _) I2 hq (hK.mv (R.trans x) (by omega) ⟨rfl,rfl,rfl,rfl,rfl,rfl,rfl⟩ (g.trans c) (by omega))).2 _ rfl _ _ _ (.inr ⟨_,_,i,rfl,hn,o8,az _⟩)
     .cases e;exact(ih E A w2 _ K t (k+1) none I2 hq (hK.mv (R.trans x) (by omega) ⟨rfl,rfl,rfl,rfl,rfl,rfl,rfl⟩ (g.trans c) (by omega))).1 rfl
    refine N3 F hB I.sat I.bw u (I.la (by omega)) (λH D O C' R g L v=>⟨λh3=>?_,λZ=>?_,λh5=>?_⟩) Vi
    .simp only[LS.step,af (show¬k=s.V.nl by omega),af (show¬(s.V.ly k).k=1 by omega),ah h3]at d;exact JU F hB v I.rv (aT I.bw L) M y (by have:=f.el;omega) u (by omega) (I.gh.inc g) (hV.ra k u h3) f.now (f.gt k u (by omega)) (gk _ H D O C' R g L (λ_=>LS.JR ..) d)
    .simp only[LS.step,af (show¬k=s.V.nl by omega),af (show¬(s.V.ly k).k=1 by omega),af (show¬(s.V.ly k).k=3 by omega),ah Z]at d;exact MC F hB v I.rv (aT I.bw L) M y f.el u (by omega) (I.gh.inc g) (hV.br k u Z).2.2.2.2 f.now (f.gt k u (by omega)) (gk _ H D O C' R g L (λ_=>LS.Mz ..) d)
    .simp only[LS.step,af (show¬k=s.V.nl by omega),af (show¬(s.V.ly k).k=1 by omega),af (show¬(s.V.ly k).k=3 by omega),af (show¬(s.V.ly k).k=4 by omega),ah h5]at d;have o:=f.gt k u (by omega);refine L8 F hB v I.rv (aT I.bw L) M y (by have:=f.el;omega) (by have:=f.wl;omega) (by have:=f.al;omega) u (by omega) (I.gh.inc g) (hV.ro k u h5).2 f.now (by have:=o.tn;omega) f.tx (gk _ H D O C' R g L (LS.L7 _ _ _ _) d) λha hb g1 c1 v1 g2 c2 v2 g3 c3 v3 w2 K c l S h2=>?_;replace g:dR C C':=g;replace c:dR C' K:=c;have o:s.l.take (s.V.ly k) t k=((s.l.say t k 12 0).wait t k (s.V.ly k).b,none):=by unfold LS.take;simp_all
     rw[o]at d;refine(hK.mv (m1:=m+1) R (az _) Fx.bY g L) _ K w2 m (I.mv S h2 ⟨rfl,rfl,rfl,rfl,rfl,rfl,rfl⟩ (g.trans c) (by omega) (I.sI (g.trans c)) λj n=>?_) (by omega) ⟨rfl,rfl,rfl,rfl,rfl,rfl,rfl⟩ c d l;by_cases ej:j=s.l.wl
     .subst ej;exact .inl ⟨by simp[LS.say,LS.wait,LS.cB,LS.put,upd],by simp[LS.say,LS.wait,LS.cB,LS.put,upd]⟩
     .have:=I.vg (g.trans c) j (by have:j<s.l.wl+1:=n;omega);simpa [LS.say,LS.wait,LS.cB,LS.put,upd,ej]using this
   refine N2 F hB I.sat I.bw M y hk hV.nl I.la (λz=>by have:=hV.kd k z;omega) λH D O C' R g L=>⟨λu v=>?_,λu Zk v=>?_,λu QJ v=>?_⟩
   .replace g:dR C C':=g;subst u;obtain⟨ca,o⟩:=I.ca (by have:=f.tn;omega);have U:(s.l.tk t).c.toNat=t:=by rw[f.tc];omega
    have P:=hK.mv (m1:=m+1) R (az _) Fx.bY g L;refine H9 F hB v I.rv (aT I.bw L) M o y f.tc f.tn U6 (by have:=f.el;omega) (by have:=f.wl;omega) (by have:=f.al;omega) ⟨f.us.1,by have:=f.us.2;omega⟩ f.now (λz=>?_) (Ke hV f.tn _) (λE A w2 K x c l o g' cap' vs' g1 c1 v1 T q u S h2 h3=>?_) (λo K w2 g1 c1 v1 g2 c2 v2 g3 c3 v3 w q u c l S h2 h3=>?_)
    .obtain⟨G,z1,w⟩:=I.xm t f.tn z;exact⟨G,z1,dR.has g w⟩
    .simp only[LS.step,U,if_true,o]at d;exact(ih E A w2 _ K t s.V.nl (some _) (I.mv S h2 ⟨rfl,rfl,rfl,rfl,rfl,rfl,rfl⟩ (g.trans c) (by omega) (I.sI (g.trans c)) (I.vg (g.trans c))) d (P.mv x (by omega) ⟨rfl,rfl,rfl,rfl,rfl,rfl,rfl⟩ c l)).2 _ rfl T q u h3
    .simp only[LS.step,U,if_true,af o]at d;refine P _ K w2 m (I.mv S ⟨h2.a,h2.t,h2.w,h2.e⟩ ⟨rfl,rfl,rfl,rfl,rfl,rfl,rfl⟩ (g.trans c) (by omega) (I.sI (g.trans c)) λj n=>?_) (by omega) ⟨rfl,rfl,rfl,rfl,rfl,rfl,rfl⟩ c d l;by_cases ej:j=s.l.wl
     .subst ej;simpa [LS.say,LS.wait,LS.cB,LS.put,upd]using h3
     .have:=I.vg (g.trans c) j (by have:j<s.l.wl+1:=n;omega);simpa [LS.say,LS.wait,LS.cB,LS.put,upd,ej]using this
   .simp only[LS.step,af (show¬k=s.V.nl by omega),ah Zk]at d;exact(ih H D O _ C' t (k+1) none (I.mv v ⟨I.rv.a,I.rv.t,I.rv.w,I.rv.e⟩ ⟨rfl,rfl,rfl,rfl,rfl,rfl,rfl⟩ g L (I.sI g) (I.vg g)) d (hK.mv R (by omega) ⟨rfl,rfl,rfl,rfl,rfl,rfl,rfl⟩ g L)).1 rfl
   .simp only[LS.step,af (show¬k=s.V.nl by omega),af (show¬(s.V.ly k).k=1 by omega),af (show¬(s.V.ly k).k=3 by omega),af (show¬(s.V.ly k).k=4 by omega),af (show¬(s.V.ly k).k=5 by omega)]at d;exact(ih H D O _ C' t (k+1) none (I.mv v I.rv ⟨rfl,rfl,rfl,rfl,rfl,rfl,rfl⟩ g L (I.sI g) (I.vg g)) d (hK.mv R (by omega) ⟨rfl,rfl,rfl,rfl,rfl,rfl,rfl⟩ g L)).1 rfl
  .subst e;obtain⟨Ja,OO⟩:=hb b rfl;refine PB F hB I.sat I.bw M y f.to (by omega) λH D O r KF v L=>⟨λZw=>?_,λj hkj=>?_⟩
   .subst Zw;simp only[LS.step,if_true]at d;refine Rw F hB v (aT I.bw L) M y (by rw[f.tf];decide) f.tc f.tn λw2 h2 l=>?_;refine(hK.mv KF (az _) Fx.bY (dR.bY.cons (r:=r)) L) _ (r::C) w2 m (I.mv h2 ⟨I.rv.a,I.rv.t,I.rv.w,I.rv.e⟩ ⟨rfl,rfl,rfl,rfl,rfl,rfl,rfl⟩ (dR.bY.cons) (by omega) (λj n=>?_) (I.vg dR.bY.cons)) (by omega) ⟨rfl,rfl,rfl,rfl,rfl,rfl,rfl⟩ dR.bY d l;have U:(s.l.tk t).c.toNat=t:=by rw[f.tc];omega
    by_cases ej:j=t
    .subst ej;have:=mQ.inc (C':=r::C) dR.bY.cons;simpa [LS.end_,upd,U]using this
    .have:=I.sI (C':=r::C) dR.bY.cons j n;simpa [LS.end_,upd,U,ej]using this
   .subst hkj;have n:j<s.V.nl:=by omega
    have P:=hK.mv (m1:=m+1) KF (az _) Fx.bY (dR.bY.cons (r:=r)) L;have N:dR C (r::C):=dR.bY.cons;have e:=I.la (by omega);by_cases Vq:(s.V.ly j).k=3\/(s.V.ly j).k=4\/(s.V.ly j).k=5
    .have k:lf B (r::C) s.V.nl s.l.gt s.gb:=I.gh.inc N;refine Oh F hB v I.rv (aT I.bw L) M y n (by omega) (by have:=f.el;omega) e k (Vq.imp id (Or.imp (λZ=>⟨Z,f.gt j n (by omega),⟨(hV.br j n Z).1,(hV.br j n Z).2.2.1,(hV.br j n Z).2.2.2.2⟩,f.q j n Z⟩) λh5=>⟨h5,f.gt j n (by omega),by have:=f.wl;omega,by have:=f.al;omega⟩)) ((mQ.inc N).RQ []) Ja.1 λE A w2 K x c l=>⟨λh3 S=>?_,λZ ea ec vv gb gc S h2 h3=>?_,λh5 ea ec vv k k k k S h2 h3 B=>?_⟩
     .replace c:dR (r::C) K:=c;have a:=N.trans c;simp only[LS.step,kT,gp,and_false,if_false,eM,af (show¬(s.V.ly j).k=1 by omega),af (show¬(s.V.ly j).k=4 by omega),af (show¬(s.V.ly j).k=5 by omega),af (show¬((s.V.ly j).k=2/\b.k=3) by omega)]at d;exact(ih E A w2 s K t j (some b) (I.mv S I.rv Fx.bY a (by omega) (I.sI a) (I.vg a)) d (P.mv x (by omega) Fx.bY c l)).2 b rfl T R U (mQ.inc a)
     .replace c:dR (r::C) K:=c;have a:=N.trans c;simp only[LS.step,kT,gp,and_false,if_false,eM,af (show¬(s.V.ly j).k=1 by omega),ah Z]at d;have p:=LS.Jv (s.V.ly j) t j b s.l;have I2:=I.Tg S h2 ⟨rfl,rfl,rfl,rfl,rfl,rfl,rfl⟩ a (by omega) (λj n=>by dsimp only;rw[p.1];exact I.sI a j n) (λj n=>by dsimp only at n ⊢;rw[p.2.1]at n;rw[p.2.2];exact I.vg a j n) h3;exact(ih E A w2 _ K t j (some b) I2 d (P.mv x (by omega) ⟨rfl,rfl,rfl,rfl,rfl,rfl,rfl⟩ c l)).2 b rfl T R U (mQ.inc a)
     .replace c:dR (r::C) K:=c;have a:=N.trans c;simp only[LS.step,kT,gp,and_false,if_false,eM,af (show¬(s.V.ly j).k=1 by omega),af (show¬(s.V.ly j).k=4 by omega),ah h5]at d;have p:=LS.MR t j s.l;have I2:=I.Tg S h2 ⟨rfl,rfl,rfl,rfl,rfl,rfl,rfl⟩ a (by omega) (λj n=>by dsimp only;rw[p.1];exact I.sI a j n) (λi g=>by
       dsimp only at g ⊢;rw[p.2]at g;rcases B i with ⟨o,k⟩|⟨o,k⟩
       .rw[o,k];exact I.vg a i g
       .rw[o,k];exact .inl ⟨rfl,rfl⟩) h3
      exact(ih E A w2 _ K t j (some b) I2 d (P.mv x (by omega) ⟨rfl,rfl,rfl,rfl,rfl,rfl,rfl⟩ c l)).2 b rfl T R U (mQ.inc a)
    refine Of F hB v I.rv (aT I.bw L) M y n (by have:=f.el;omega) e (by have:=hV.kd j n;omega) λE A w2 K x c l=>⟨λZk S=>?_,λQJ KQ S=>?_,λQJ KQ g' cap' vs' nb i S h2 o8 h3=>?_⟩
    .replace c:dR (r::C) K:=c;have w:=mQ.inc (N.trans c);have ha:=OO (by omega);rw[eM]at ha;have k:=P.mv (m1:=m+1) x (az _) Fx.bY c l;have a:=N.trans c;refine JP F hB S I.rv (by have:=I.bw;omega) M y (by omega) w Ja.1 (λz=>?_) (by have:=f.el;omega) (by have:=f.wl;omega) (by have:=f.al;omega) f.tx f.now (hV.rt j n Zk) (ha Zk) (λu q v C3 o h e=>⟨λhq Z=>?_,λhq hn g' cap' vs' ca cap Z h5 B=>?_,λhq hn y g' cap' vs' Z h5=>?_⟩) (λhq hn y C3 v g' cap' vs' g2 c2 v2 g3 c3 v3 h e Z h5=>?_)
     .rcases Ja.2.2 with ⟨z1,_⟩|⟨_,_,z1⟩|⟨z1,_⟩
      .omega
      .exact z1
      .omega
     .simp only[LS.step,kT,gp,and_false,if_false,eM,ah Zk,ah hq]at d;exact(ih u q v s C3 t j (some b) (I.mv Z I.rv Fx.bY (a.trans h) (by omega) (I.sI (a.trans h)) (I.vg (a.trans h))) d (k.mv o (by omega) Fx.bY h e)).2 b rfl T R U (w.inc h)
     .simp only[LS.step,kT,gp,and_false,if_false,eM,ah Zk,af hq,ah hn]at d;exact(ih u q v _ C3 t j (some _) (I.mv Z h5 ⟨rfl,rfl,rfl,rfl,rfl,rfl,rfl⟩ (a.trans h) (by omega) (I.sI (a.trans h)) (I.vg (a.trans h))) d (k.mv o (by omega) ⟨rfl,rfl,rfl,rfl,rfl,rfl,rfl⟩ h e)).2 _ rfl _ _ _ B
     .have f:¬aI (s.V.ly j) ((s.l.tk t).a j)>0:=y;simp only[LS.step,kT,gp,and_false,if_false,eM,ah Zk,af hq,af hn,af f]at d;exact(ih u q v _ C3 t (j+1) none (I.mv Z h5 ⟨rfl,rfl,rfl,rfl,rfl,rfl,rfl⟩ (a.trans h) (by omega) (I.sI (a.trans h)) (I.vg (a.trans h))) d (k.mv o (by omega) ⟨rfl,rfl,rfl,rfl,rfl,rfl,rfl⟩ h e)).1 rfl
     .have f:aI (s.V.ly j) ((s.l.tk t).a j)>0:=y;simp only[LS.step,kT,gp,and_false,if_false,eM,ah Zk,af hq,af hn,ah f]at d;refine k _ C3 v m (I.mv Z h5 ⟨rfl,rfl,rfl,rfl,rfl,rfl,rfl⟩ (a.trans h) (by omega) (I.sI (a.trans h)) λi g=>?_) (by omega) ⟨rfl,rfl,rfl,rfl,rfl,rfl,rfl⟩ h d e;by_cases ej:i=s.l.wl
      .subst ej;left;simp[LS.say,LS.wait,LS.cB,LS.put,LS.Yj,upd]
      .have:=I.vg (a.trans h) i (by have:i<s.l.wl+1:=g;omega);simpa [LS.say,LS.wait,LS.cB,LS.put,LS.Yj,upd,ej]using this
    .replace c:dR (r::C) K:=c;have a:=N.trans c;simp only[LS.step,kT,gp,and_false,if_false,eM,af (show¬(s.V.ly j).k=1 by omega),af (show¬(s.V.ly j).k=4 by omega),af (show¬(s.V.ly j).k=5 by omega),af (λz:(s.V.ly j).k=2/\b.k=3=>KQ z.2)]at d;exact(ih E A w2 s K t j (some b) (I.mv S I.rv Fx.bY a (by omega) (I.sI a) (I.vg a)) d (P.mv x (by omega) Fx.bY c l)).2 b rfl T R U (mQ.inc a)
    .replace c:dR (r::C) K:=c;have a:=N.trans c;simp only[LS.step,kT,gp,and_false,if_false,eM,af (show¬(s.V.ly j).k=1 by omega),af (show¬(s.V.ly j).k=4 by omega),af (show¬(s.V.ly j).k=5 by omega),ah (show(s.V.ly j).k=2/\b.k=3 from⟨QJ,KQ⟩)]at d;exact(ih E A w2 _ K t j (some _) (I.mv S h2 ⟨rfl,rfl,rfl,rfl,rfl,rfl,rfl⟩ a (by omega) (I.sI a) (I.vg a)) d (P.mv x (by omega) ⟨rfl,rfl,rfl,rfl,rfl,rfl,rfl⟩ c l)).2 _ rfl _ _ _ (.inr ⟨_,_,i,rfl,h3,o8,az _⟩)
end
section
variable{Lf:LS}
theorem Mw(F:aB prog W (DX J) Q)(k:HB B J){s:RS}{i:Addr}(l:Sat J w (mR s++C))(a:B<=w.heap.size)(g:s.ta=some i)(j:t<s.l.tl)(b:(s.l.tk t).o=-1)(c:e.t=t)(d:e.c=0)(K:∀f a O C',fS J B Q Y X f a->dR C C'->w.heap.size<=O.heap.size->Sat J O (mR s++C')->Q (G (Frame.enter prog 58 #[ptr s.gm,i6 t,i6 (0:Nat)] .normal) (f::a)) O):
 Q (G (Frame.enter prog 46 #[ptr s.gm,.agg (BA e).toArray] .normal) (Y::X)) w:=by
 obtain⟨s,rfl⟩:=RS.jw g;replace j:t<s.l.tl:=j;replace b:(s.l.tk t).o=-1:=b;obtain⟨p,a,n,a,o⟩:=e;simp only at c d;subst c;subst d;have m:IntKind.wrap .i64 ((s.l.tk t).o+1)=((0:Nat):Int):=by rw[b];decide
 refine cJ func46 l 84 λZ a P a a g e l f=>aX F k a e l 14 [0,0,3,1,0,0,1,1,1,0,4,1,0,0,1,1,4,t,3,101] [3,2] [13] [(20,i6 (IntKind.wrap .i64 ((s.l.tk t).o+1))),(10,i6 t),(8,ptr s.gm)] (λM=>bR (P) [i6 p,i6 t,i6 n,i6 0,.bool o]::(M)) 1 14 3 [13] [] [((↑t:Int),s.l.tl)] [(1,(t,s.l.tl))] λe l h e f f f=>?_;rw[m]at h;refine bu F a e h 21 58 #[ptr s.gm,i6 t,i6 0] λf e=>K f _ l _ (λf M m f l=>e _ _ _ m λe e m e f=>?_) dR.bY.cons (by omega) (Sat.back (A:=mR {s with ta:=some i}) h.sat);refine aq F k a e m 1 [] [] [] [] (λM=>M) 0 16 3 [13] λe k i f e e m=>cC F i a g f [] (.tuple #[]) ?_;exact l k i.sat e
abbrev RS.J2(s:RS)(t i:Nat):RS:={s with l:=s.l.bV t i}
theorem RS.J5{s:RS}{g:Addr}(h:s.wa=some g):∃a:RS,s={a with wa:=some g}:=⟨s,by cases s;simp_all⟩
theorem Mv(F:aB prog W (DX J) Q)(r:HB B J){s:RS}{l wg:Addr}(R:Sat J w (mR s++C))(x:B<=w.heap.size)(E:s.ta=some l)(D:s.wa=some wg)(I:t<s.l.tl)(L:i<s.l.wl)(n:(s.l.wt i).e=false)(p:e.t=t)(o:e.w=i)(d:e.c=1/\(s.l.wt i).x=false\/e.c=2/\(s.l.wt i).x=true)(K:∀y x O C',fS J B Q Y X y x->dR C C'->w.heap.size<=O.heap.size->Sat J O (mR (s.J2 t i)++C')->Q (G (Frame.enter prog 59 #[ptr s.gm,i6 t,i6 (s.l.wt i).l,i6 e.c,ko (s.l.wt i).b (s.wh i)] .normal) (y::x)) O):
 Q (G (Frame.enter prog 46 #[ptr s.gm,.agg (BA e).toArray] .normal) (Y::X)) w:=by
 obtain⟨s,rfl⟩:=RS.jw E;obtain⟨s,rfl⟩:=RS.J5 (s:=s) D;replace I:t<s.l.tl:=I;replace L:i<s.l.wl:=L;replace n:(s.l.wt i).e=false:=n;obtain⟨v,w,w,k,u⟩:=e;simp only at p o d K;subst p;subst o;replace d:k=1/\(s.l.wt i).x=false\/k=2/\(s.l.wt i).x=true:=d;refine cJ func46 R 84 λZ e P e a w q N e=>?_;have rest:∀(g:Act)(c:aj),g.defers=[]->c.heap.size=P+1->St J P 84 [(4,i6 i),(3,ptr P),(0,ptr s.gm)] (bR P [i6 v,i6 t,i6 i,i6 k,.bool u]::(bh 5 (i,3) (.bool true) (mR {s with wa:=some wg,ta:=some l}++C))) 1 g c->Q (G (Z.at g (pc prog 46 58 [false,false] [])) (Y::X)) c:=by
  intro g c b m h;replace h:St J P 84 _ (bR P (BA ⟨v,t,i,k,u⟩)::(mR {s with wa:=some wg,ta:=some l,l:={s.l with wt:=upd s.l.wt i {s.l.wt i with e:=true}}}++C)) 1 g c:=⟨h.env,h.sat.re 6 rfl rfl (λj=>oL (upd s.l.wt i {s.l.wt i with e:=true} j,s.wh j)) λj _ f e=>?_,h.sz⟩
  .refine aX F r a b h 6 [1,0,4,1,0,0,1,1,4,t,6,101] [2] [6] [(4,i6 i),(3,ptr P),(0,ptr s.gm)] (λM=>bh 4 (t,6) (i6 (-1)) (M)) 1 64 4 [6] [] [((↑t:Int),s.l.tl)] [(1,(t,s.l.tl))] λB x A e y y y=>?_;replace A:St J P 84 _ (bR P (BA ⟨v,t,i,k,u⟩)::(mR (RS.J2 {s with wa:=some wg,ta:=some l} t i)++C)) 1 B x:=⟨A.env,A.sat.re 4 rfl rfl _ λj _ f _=>fT rfl (show 6<19 by decide) j f,A.sz⟩;have B:upd s.l.wt i {s.l.wt i with e:=true} i={s.l.wt i with e:=true}:=by simp[upd]
   refine aX F r a e A 2 [0,0,1,1,1,0,5,1,6,i,1,101,0,0,3,1,1,0,5,1,6,i,4,103] [2,2] [21] [(82,.agg #[i6 (upd s.l.wt i (tU.mk (s.l.wt i).t (s.l.wt i).l (s.l.wt i).x true (s.l.wt i).b) i).b.k,i6 (upd s.l.wt i (tU.mk (s.l.wt i).t (s.l.wt i).l (s.l.wt i).x true (s.l.wt i).b) i).b.n,aH.get (aH.mk (λj=>Addr.add (Addr.add (Option.getD (some wg) (Addr.mk 0 0 none)) (j.fst*7)) j.snd) [] (λj f=>List.getD (oL (upd s.l.wt i (tU.mk (s.l.wt i).t (s.l.wt i).l (s.l.wt i).x true (s.l.wt i).b) j,s.wh j)) f undef) s.l.wl 7 false (some (wg.block,136,s.wc*7))) (i,6)]),(74,i6 k),(72,i6 (upd s.l.wt i (tU.mk (s.l.wt i).t (s.l.wt i).l (s.l.wt i).x true (s.l.wt i).b) i).l),(64,i6 t),(62,ptr s.gm)] (λM=>M) 1 66 4 [6,21] [] [((↑i:Int),s.l.wl),((↑i:Int),s.l.wl)] [(4,(i,s.l.wl))] λe x H e y y y=>?_;rw[B]at H;refine bu F a e H 83 59 #[ptr s.gm,i6 t,i6 (s.l.wt i).l,i6 k,.agg #[i6 (s.l.wt i).b.k,i6 (s.l.wt i).b.n,aH.get (aH.mk (λj=>Addr.add (Addr.add (Option.getD (some wg) (Addr.mk 0 0 none)) (j.fst*7)) j.snd) [] (λj f=>List.getD (oL (upd s.l.wt i (tU.mk (s.l.wt i).t (s.l.wt i).l (s.l.wt i).x true (s.l.wt i).b) j,s.wh j)) f undef) s.l.wl 7 false (some (wg.block,136,s.wc*7))) (i,6)]] λk e=>K k _ x _ (λk M x k y=>e _ _ _ x λe e x e k=>?_) dR.bY.cons (by omega) (Sat.back (A:=mR (RS.J2 {s with wa:=some wg,ta:=some l} t i)) H.sat);refine aq F r a e x 1 [] [] [] [] (λM=>M) 0 68 4 [6,21] λe x l k e e B=>cC F l a w k [] (.tuple #[]) ?_;exact y x l.sat e
  .exact(cT (λz=>(oL z).getD f undef) (show(upd s.l.wt i {s.l.wt i with e:=true} j,s.wh j)=upd (λj=>(s.l.wt j,s.wh j)) i ({s.l.wt i with e:=true},s.wh i) j by unfold upd;grind)).trans (fT (C:=oL) (g:=λj=>(s.l.wt j,s.wh j)) (l:=3) (x:=.bool true) rfl (show 3<7 by decide) j f)
 rcases d with ⟨rfl,e⟩|⟨rfl,e⟩
 .refine aX F r a q N 58 [0,0,3,1,0,0,2,1,1,0,5,1,6,i,3,101,0,0,3,1,1,0,5,1,6,i,2,101,1,0,5,1,6,i,3,101] [1,2,0,1,1,1,3,3,3,3,3,3,2,3,3,1,0,2] [] [(4,i6 i),(3,ptr P),(0,ptr s.gm)] (λM=>bR (P) [i6 v,i6 t,i6 i,i6 1,.bool u]::(bh 5 (i,3) (.bool true) (M))) 1 58 4 [] [((s.l.wt i).x,false),((s.l.wt i).e,false)] [((↑i:Int),s.l.wl),((↑i:Int),s.l.wl),((↑i:Int),s.l.wl)] [(3,(i,s.l.wl))] λg c h b m e f=>rest g c b (by omega) h
 .refine aX F r a q N 58 [0,0,3,1,0,0,2,1,1,0,5,1,6,i,3,101,0,0,3,1,1,0,5,1,6,i,3,101] [1,2,0,1,1,1,1,1,1,1,1,1,1,1,1,1,2] [] [(4,i6 i),(3,ptr P),(0,ptr s.gm)] (λM=>bR (P) [i6 v,i6 t,i6 i,i6 2,.bool u]::(bh 5 (i,3) (.bool true) (M))) 1 58 4 [] [((s.l.wt i).e,false)] [((↑i:Int),s.l.wl),((↑i:Int),s.l.wl)] [(2,(i,s.l.wl))] λg c h b m e f=>rest g c b (by omega) h
theorem Mt(F:aB prog W (DX J) Q)(q:HB B J){s:RS}{wg:Addr}(x:Sat J w (mR s++C))(n:B<=w.heap.size)(n:s.wa=some wg)(p:i<s.l.wl)(d:e.w=i)(f:e.c=1)(c:(s.l.wt i).x=true\/(s.l.wt i).e=true)(K:∀O C',dR C C'->w.heap.size<=O.heap.size->Sat J O (mR s++C')->Q (G (Y.finish (.tuple #[])) X) O):
 Q (G (Frame.enter prog 46 #[ptr s.gm,.agg (BA e).toArray] .normal) (Y::X)) w:=by
 obtain⟨s,rfl⟩:=RS.J5 (s:=s) n;replace p:i<s.l.wl:=p;obtain⟨u,r,n,n,t⟩:=e;simp only at d f;subst d;subst f;replace c:(s.l.wt i).x=true\/(s.l.wt i).e=true:=c;refine cJ func46 x 84 λZ e P e a h g v e=>?_;cases z:(s.l.wt i).e with
 |true=>
  refine aX F q a g v 47 [0,0,3,1,0,0,2,1,1,0,5,1,6,i,3,101] [1,2,2,3,3,3,3,3] [] [] (λM=>bR (P) [i6 u,i6 r,i6 i,i6 1,.bool t]::(M)) 1 47 6 [] [((s.l.wt i).e,true)] [((↑i:Int),s.l.wl)] [(1,(i,s.l.wl))] λy k j b l m o=>cC F j a h b [] (.tuple #[]) ?_;exact K k _ dR.bY.cons (by omega) (Sat.back (A:=mR {s with wa:=some wg}) j.sat)
 |false=>
  have e:(s.l.wt i).x=true:=by simp_all
  refine aX F q a g v 47 [0,0,3,1,0,0,2,1,1,0,5,1,6,i,3,101,0,0,3,1,1,0,5,1,6,i,2,101] [1,2,0,1,1,1,3,3,3,3,3,3,2,3,3,1,2] [] [] (λM=>bR (P) [i6 u,i6 r,i6 i,i6 1,.bool t]::(M)) 1 47 6 [] [((s.l.wt i).x,true),((s.l.wt i).e,false)] [((↑i:Int),s.l.wl),((↑i:Int),s.l.wl)] [(2,(i,s.l.wl))] λy k j b l m o=>cC F j a h b [] (.tuple #[]) ?_;exact K k _ dR.bY.cons (by omega) (Sat.back (A:=mR {s with wa:=some wg}) j.sat)
end
section
variable{Lf:LS}
abbrev Ta(c:Int):Ot:=⟨c,-1,-1,-1,false,false,-1,λ_=>0,λ_=>0⟩
def LS.nH(L:LS)(c:Int):LS:={L with tl:=L.tl+1,tk:=upd L.tk L.tl (Ta c)}
abbrev RS.nH(s:RS)(g' cap':Nat)(vs':eX)(c:Int):RS:={s with ta:=some ⟨g',0,none⟩,tc:=cap',tv:=vs',l:=s.l.nH c}
theorem Is(e:Ot):∀u∈Ep e,u.oneCell'=true:=by
 intro u a;simp only[Ep,ak,bH,or_false]at a;rcases a with rfl|rfl|rfl|rfl|rfl|rfl|rfl|rfl|rfl|rfl|rfl|rfl|rfl|rfl|rfl|rfl|rfl|rfl|rfl<;>rfl
theorem T4:Qc prog 85 131 19 144=true:=by kernel_rfl
theorem L4(F:aB prog W (DX J) Q)(l:HB B J){s:RS}{c:Int}(u:Sat J w (mR s++C))(k:RV J s)(p:B<=w.heap.size)(p:s.l.tl<1000000)(K:∀g b d O,Sat J O (mR (s.nH g b d c)++C)->RV J (s.nH g b d c)->w.heap.size<=O.heap.size->Q (G (Y.finish (i6 s.l.tl)) X) O):
 Q (G (Frame.enter prog 43 #[ptr s.gm,i6 c,i6 (-1),i6 (-1),i6 (-1)] .normal) (Y::X)) w:=by
 refine cJ func43 u 33 λZ p P p e q p w u=>aq F l e p w 15 [0,0,0,19] [] [] [(11,ptr P),(0,ptr s.gm)] (λM=>bR (P) [i6 c,i6 (-1),i6 (-1),i6 (-1),.bool false,.bool false,i6 (-1),i6 0,i6 0,i6 0,i6 0,i6 0,i6 0,i6 0,i6 0,i6 0,i6 0,i6 0,i6 0]::(M)) 1 15 1 [] λp p x o p p p=>TM [] [] F aK (λa wr z=>l a wr (by omega)) e 7 (Hq [1,0,4,1,0,0,0,19]) [] [(17,ptr s.gm),(0,ptr s.gm)] (bR (P+1) (Ep (Ta c))::·) 2 [] [] [] 21 23 24 85 131 19 144 5 6 0 T4 (by kernel_rfl) (by kernel_rfl) (by kernel_rfl) (by kernel_rfl) (by kernel_rfl) (λ_ _ h=>by cases h) rfl rfl (by decide) (by kernel_rfl) eU eU eU x rfl rfl (by decide) rfl k.t (λ_ _=>rfl) rfl (Is _) (by omega) (by simp only[maxLen];omega) (by omega) λg b a d h i a A a a f=>?_;have t:St J i.heap.size 33 _ _ 0 h i:=⟨a,A.sat,rfl⟩;have m:i.heap.size=i.heap.size:=rfl;have n:=A.size;replace f:=f.trans o;generalize v:i.heap.size=y at t m n;refine aq F l e f t 5 [2,0,4,1] [] [] [(0,ptr s.gm)] (λM=>bh 2 (0,4) (.slice (some ⟨g,0,none⟩) (s.l.tl+1) b) (M)) 0 21 1 [8] λo h j a i i i=>?_;have i:Sat J h (mR (s.nH g b d c)++C):=j.sat.tail.tail.re 3 rfl rfl _ A.upd;replace j:St J y 33 _ (mR (s.nH g b d c)++C) 0 o h:=⟨j.env,i,j.sz⟩;have i:IntKind.wrap .i64 (((s.l.tl+1:Nat):Int)-1)=s.l.tl:=by rw[aA (by omega) (by omega)];omega
 refine aq F l e a j 9 [0,0,4,1] [] [] [(10,i6 (IntKind.wrap .i64 ((↑(s.l.tl+1):Int)-1)))] (λM=>M) 0 30 1 [8] λa c r a h h h=>?_;rw[i]at r;refine cC F r e q a [] (i6 s.l.tl) ?_;exact K g b d c r.sat ⟨k.a,A.vc,k.w,k.e⟩ (by omega)
theorem Mu(F:aB prog W (DX J) Q)(o:HB B J)(H:wM V){s:RS}{L:LS}(I:RI J B V w s C)(h:s.l=L.pop i)(v:Fin V Lf (m+1) none L)(Z:cj L.ag L.al=i)(he:e={L.ag i with o:=true})(N:Sb J B V Lf Q Y X (m+1) w s C):
 Q (G (Frame.enter prog 46 #[ptr s.gm,.agg (BA e).toArray] .normal) (Y::X)) w:=by
 obtain⟨w,v⟩:=v;rw[af (by omega)]at v;simp only[Z,mY]at v;obtain⟨t,h1,P⟩:=v;rw[<-h]at P;have e0:=I.v;subst e0;have G:e.t=t:=by rw[he];exact h1
 rcases P with ⟨M,D,h5⟩|⟨x,h5,w,P⟩
 .have d:t<s.l.tl:=by rw[D.tl];exact D.tn
  obtain⟨tg,l⟩:=I.tg d;refine Mw F o I.sat I.bw l d D.to G (by rw[he];exact M) λZ V O C' R b w K=>?_;exact(rU F o H m Z V O s C' t 0 none (I.mv K I.rv Fx.bY b w (I.sI b) (I.vg b)) h5 (N.mv R (by omega) Fx.bY b w)).1 rfl
 .have Dy:s.l.wl=L.wl:=by rw[h];rfl
  have Qd:s.l.wt=L.wt:=by rw[h];rfl
  obtain⟨wg,h⟩:∃g,s.wa=some g:=by
   rcases I.rv.w.row with ⟨_,z,_⟩|⟨g,z,_⟩
   .omega
   .exact⟨_,z⟩
  rw[<-Qd]at P;have g:e.w=x:=by rw[he];exact h5
  have hec:e.c=(L.ag i).c:=by rw[he]
  rw[<-hec]at P;rcases P with ⟨M,L,e⟩|⟨L,h9,e,D,KW⟩
  .exact Mt F o I.sat I.bw h (by omega) g M L λO C' b w K=>N s C' O m (I.mv K I.rv Fx.bY b w (I.sI b) (I.vg b)) (by omega) Fx.bY b e w
  have d:t<s.l.tl:=by rw[D.tl];exact D.tn
  obtain⟨tg,l⟩:=I.tg d;have n:=I.wh x (by omega);refine Mv F o I.sat I.bw l h d (by omega) h9 G g e λZ V O C' R b w K=>?_;have E:RV J (s.J2 t x):=⟨I.rv.a,I.rv.t,I.rv.w,I.rv.e⟩
  have r:∀j,j<s.l.wl->∀f,dR C f->nL B f (s.wh j) ((s.J2 t x).l.wt j).b.ch:=λj u f a=>by
   have:=I.vg a j u;by_cases ej:j=x
   .subst ej;simpa [LS.bV,upd]using this
   .simpa [LS.bV,upd,ej]using this
  rcases KW with ⟨M,A,y,ch,q,p⟩|⟨k,A,p,c⟩
  .rw[q]at n;rw[A,M];have S:ch.length<1000000:=by
    cases m with
    |zero=>exact p.elim
    |succ m=>exact(p.2.2.1 _ rfl).1.1
   refine Uj F o (s:=s.J2 t x) (k:=s.V.nl) (kk:=(s.l.wt x).b.k) (nn:=(s.l.wt x).b.n) K E (by have:=I.bw;omega) l d rfl (n.inc b) S (by have:=D.el;show s.l.el<_;omega) λh g y f e a B Z L S T C U w G V=>?_;exact(rU F o H m h g y _ f t s.V.nl (some _) (I.mv w G ⟨rfl,rfl,rfl,rfl,rfl,rfl,rfl⟩ (b.trans a) (by omega) (I.sI (b.trans a)) (λj u=>r j u f (b.trans a))) p (N.mv (R.trans e) (by omega) ⟨rfl,rfl,rfl,rfl,rfl,rfl,rfl⟩ (b.trans a) (by omega))).2 _ rfl T C U V
  .rw[p];obtain⟨la,p⟩:=I.la (by omega);obtain⟨T,C,U,C⟩:∃T R U,s.wh x=.slice T R U:=by
    rcases n with ⟨z,_⟩|⟨ca,cap,i,z,_⟩
    .exact⟨_,_,_,z⟩
    .exact⟨_,_,_,z⟩
   rw[C];rcases c with ⟨M,q,c⟩|c
   .rw[M];refine Ui F o (s:=s.J2 t x) K (by have:=I.bw;omega) p A H.nl q λh g y f e a B w=>?_;exact(rU F o H m h g y _ f t (k+1) none (I.mv w E ⟨rfl,rfl,rfl,rfl,rfl,rfl,rfl⟩ (b.trans a) (by omega) (I.sI (b.trans a)) (λj u=>r j u f (b.trans a))) c (N.mv (R.trans e) (by omega) ⟨rfl,rfl,rfl,rfl,rfl,rfl,rfl⟩ (b.trans a) (by omega))).1 rfl
   .have q:(s.V.ly k).k=5:=c.elim (λz=>z.1) λz=>z.1;refine Uk F o (s:=s.J2 t x) K E (by have:=I.bw;omega) p l d (by have:=D.el;show s.l.el<_;omega) A H.nl q (c.imp (λz=>z.2.1) λz=>z.2.1) λh g y f Z L S e a B=>⟨λd d i w G V l=>?_,λd w G=>?_⟩
    .have v:Fin s.V Lf m (some (t,k,some (c9 3 k 0))) ((s.l.bV t x).say t k 7 0):=c.elim (λz=>z.2.2) λz=>by omega
     exact(rU F o H m h g y _ f t k (some _) (I.mv w G ⟨rfl,rfl,rfl,rfl,rfl,rfl,rfl⟩ (b.trans a) (by omega) (I.sI (b.trans a)) (λj u=>r j u f (b.trans a))) v (N.mv (R.trans e) (by omega) ⟨rfl,rfl,rfl,rfl,rfl,rfl,rfl⟩ (b.trans a) (by omega))).2 _ rfl _ _ _ (.inr ⟨_,_,i,rfl,l,V,az _⟩)
    .have v:Fin s.V Lf m (some (t,k+1,none)) ((s.l.bV t x).say t k 13 0):=c.elim (λz=>by omega) λz=>z.2.2;exact(rU F o H m h g y _ f t (k+1) none (I.mv w G ⟨rfl,rfl,rfl,rfl,rfl,rfl,rfl⟩ (b.trans a) (by omega) (I.sI (b.trans a)) (λj u=>r j u f (b.trans a))) v (N.mv (R.trans e) (by omega) ⟨rfl,rfl,rfl,rfl,rfl,rfl,rfl⟩ (b.trans a) (by omega))).1 rfl
end
theorem PL(F:aB prog W (DX J) Q){b:aC}(v:b.kind=.normal){t:eC}(s d k:Nat){e:TypeId}{cells:iO}(g:∀w,(Instr.makeSlice k (.int .i64 (n:Int)) (.int .i64 (n:Int))).run prog w=.ok (.slice (some ⟨w.heap.size,0,none⟩) n n) (w.alloc (.cells cells.toArray e)))(m:∀w es,(Instr.makeSlice k (.int .i64 (n:Int)) (.int .i64 (n:Int))).events prog w es=es)(T:kI t=true)(l:CC (aQ t) s d k=true)(x:d<N)(k:look E s=some (i6 n))(S:St J B N E M c a w)(K:∀p O,World.alloc w (.cells cells.toArray e)=O->Kp [] w O->aR ((d,.slice (some ⟨w.heap.size,0,none⟩) n n)::E) N p->p.defers=a.defers->O.heap.size=w.heap.size+1->Q (G (b.at p (jB t)) X) O):Q (G (b.at a t) X) w:=by
 obtain⟨b,i,r,b,r,i,u⟩:=dH T;obtain⟨z,y,q⟩:=A7 l;have c:a.eval (.tmp s)=i6 n:=by rw[S.env.eval (by simp[kn,k])];simp[ev,k]
 have b:∀d,(execOp a.eval (aQ t)).run prog (w.at d)=.ok (.value (.slice (some ⟨w.heap.size,0,none⟩) n n)) ((w.at d).alloc (.cells cells.toArray e)):=λd=>by
  unfold execOp;rw[q];simp only[c];have:=g (w.at d);simp[this];rfl
 have f:∀d,raw prog a (aQ t) (w.at d)=#[]:=λd=>by
  unfold raw execOp;rw[q];simp only[c];have c:=g (w.at d);have a:=m (w.at d) #[];simp[c,a]
 rw[r];refine F.op i (by simp[Region.wanted,z]) (by rw[v];decide) (λa c o=>?_);rw[b a,alloc_at'];generalize h:World.alloc w _=j;have a:Kp [] w j:=Kp.alloc h;have b:=gH h rfl;refine o _ j ⟨?_,?_⟩
 .rw[f,<-h,<-alloc_at'];exact DX.alloc _ _ (by simp)
 .rw[<-u,y];exact K _ j h a (S.env.put x) (put_defers _ _ _) (by omega)
theorem PM(F:aB prog W (DX J) Q)(u:HB B J){b:aC}(p:b.kind=.normal){t:eC}(s d:Nat)(T:kI t=true)(g:CC (aQ t) s d 58=true)(q:d<N)(m:look E s=some (i6 n))(k:n<=9)(o:B<=B')(S:St J B' N E M c a w)(K:∀f O,Sat J O (fR ⟨w.heap.size,0,none⟩ 1 (λ_=>[i6 0]) n true::M)->aR ((d,.slice (some ⟨w.heap.size,0,none⟩) n n)::E) N f->f.defers=a.defers->O.heap.size=w.heap.size+1->Q (G (b.at f (jB t)) X) O):Q (G (b.at a t) X) w:=by
 have b:B<=w.heap.size:=by rw[S.sz];omega
 refine PL F p s d 58 (Um n k) (PN n k) T g q m S λf c l d k b g=>K f c (S.sat.sj d (N:=[_]) (λr e=>?_) (LJ ..) (λr e j h=>?_)) k b g
 .simp only[ak,bH,or_false]at e;subst e;refine rI (λj h i b=>?_) (λa wr a=>u _ _ (by omega));refine⟨?_,cy l rfl _⟩;match i,b with
  |0,_=>exact aY (i:=j*1+0) l rfl (by simpa using zf n j h)
 .simp only[ak,bH,or_false]at e;subst e;show w.heap.size<=(((⟨w.heap.size,0,none⟩:Addr).add (j.1*1)).add j.2).block;rw[add_add];exact az _
def TW:Nat->List Value
 |0=>[]
 |n+1=>.bool false::.int .i64 0::.int .i64 0::.int .i64 0::.int .i64 0::.slice none 0 0::.int .i64 0::.int .i64 0::TW n
theorem Z1(n:Nat)(h:n<=6)(w:aj):(Instr.makeSlice 87 (.int .i64 (n:Int)) (.int .i64 (n:Int))).run prog w=.ok (.slice (some ⟨w.heap.size,0,none⟩) n n) (w.alloc (.cells (TW n).toArray 208)):=by
 obtain rfl|rfl|rfl|rfl|rfl|rfl|rfl:n=0\/n=1\/n=2\/n=3\/n=4\/n=5\/n=6:=by omega
 all_goals kernel_rfl
theorem Un(n:Nat)(h:n<=6)(w:aj)(es:dS):(Instr.makeSlice 87 (.int .i64 (n:Int)) (.int .i64 (n:Int))).events prog w es=es:=by
 obtain rfl|rfl|rfl|rfl|rfl|rfl|rfl:n=0\/n=1\/n=2\/n=3\/n=4\/n=5\/n=6:=by omega
 all_goals kernel_rfl
theorem Ec:∀(n j f:Nat),j<n->f<8->(TW n)[j*8+f]? =some ((Yt gz none 0).getD f undef)
 |0,j,f,h,_=>by omega
 |n+1,0,f,_,a=>by
  rcases f with _|_|_|_|_|_|_|_|f;all_goals first|omega|rfl
 |n+1,j+1,f,h,a=>by
  rw[show(j+1)*8+f=(j*8+f)+8 by omega];exact Ec n j f (by omega) a
theorem PO(F:aB prog W (DX J) Q)(u:HB B J){b:aC}(p:b.kind=.normal){t:eC}(s d:Nat)(T:kI t=true)(g:CC (aQ t) s d 87=true)(q:d<N)(m:look E s=some (i6 n))(k:n<=6)(o:B<=B')(S:St J B' N E M c a w)(K:∀f O,Sat J O (fR ⟨w.heap.size,0,none⟩ 8 (λ_=>Yt gz none 0) n true::M)->aR ((d,.slice (some ⟨w.heap.size,0,none⟩) n n)::E) N f->f.defers=a.defers->O.heap.size=w.heap.size+1->Q (G (b.at f (jB t)) X) O):Q (G (b.at a t) X) w:=by
 have b:B<=w.heap.size:=by rw[S.sz];omega
 refine PL F p s d 87 (Z1 n k) (Un n k) T g q m S λf c l d k b g=>K f c (S.sat.sj d (N:=[_]) (λr e=>?_) (LJ ..) (λr e j h=>?_)) k b g
 .simp only[ak,bH,or_false]at e;subst e;refine rI (λj h i b=>?_) (λa wr a=>u _ _ (by omega));exact⟨aY (i:=j*8+i) l rfl (by simpa using Ec n j i h b),cy l rfl _⟩
 .simp only[ak,bH,or_false]at e;subst e;show w.heap.size<=(((⟨w.heap.size,0,none⟩:Addr).add (j.1*8)).add j.2).block;rw[add_add];exact az _
def Yp(V:Ev0):Nat->LS
 |0=>⟨0,0,λ_=>⟨0,0,0,0,false⟩,0,λ_=>Ta 0,0,λ_=>⟨0,0,false,false,⟨0,0,[]⟩⟩,λ_=>0,λ_=>⟨0,⟨0,0,[]⟩⟩,0,λ_=>⟨0,0,0,0,0⟩,λ_=>gz⟩
 |k+1=>((Yp V k).nH k).put ⟨V.st k,k,-1,0,false⟩
theorem uZ(V:Ev0):∀k,(Yp V k).now=0/\(Yp V k).al=k/\(Yp V k).tl=k/\(Yp V k).wl=0/\(Yp V k).el=0/\(∀i,(Yp V k).us i=0)/\(∀i,(Yp V k).ou i=⟨0,⟨0,0,[]⟩⟩)/\(∀i,i<k->(Yp V k).ag i=⟨V.st i,i,-1,0,false⟩/\(Yp V k).tk i=Ta i)
 |0=>⟨rfl,rfl,rfl,rfl,rfl,λ_=>rfl,λ_=>rfl,λi h=>by omega⟩
 |k+1=>by
  obtain⟨j,b,a,h,g,f,d,c⟩:=uZ V k;refine⟨j,by show(Yp V k).al+1=k+1;rw[b],by show(Yp V k).tl+1=k+1;rw[a],h,g,f,d,λi d=>?_⟩;show upd (Yp V k).ag (Yp V k).al _ i=_/\upd (Yp V k).tk (Yp V k).tl _ i=_;rw[b,a];by_cases e:i=k
  .subst e;simp[upd]
  .have:=c i (by omega);simpa [upd,e]using this
theorem uY(V:Ev0):∀k i,(Yp V k).gt i=gz
 |0,_=>rfl
 |k+1,i=>uY V k i
section
variable{Lf:LS}
theorem AA(F:aB prog W (DX J) Q)(f:HB B J){Z:aC}(a:Z.kind=.normal){X:cO}{C:aW}{g:Nat}(E:V.nc<=9):
 ∀(m k:Nat)(s:RS)(j:Act)(w:aj)(P:Nat),k+m=V.nc->s.V=V->(0<V.nc->∃ca,s.ca=some ca)->s.l=Yp V k->RV J s->j.defers=[]->B<=P->w.heap.size=P->
   St J P 102 [(10,i6 k),(9,ptr s.gm),(4,ptr g),(1,.slice s.ca V.nc s.cc)] (mR s++C) 0 j w->
   (∀c l O B',Fx s c->c.oh=s.oh->c.l=Yp V V.nc->RV J c->l.defers=[]->P<=B'->O.heap.size=B'->St J B' 102 [(65,ptr s.gm),(9,ptr s.gm),(4,ptr g)] (mR c++C) 0 l O->Q (G (Z.at l (pc prog 31 85 [false,false] [])) X) O)->
   Q (G (Z.at j (pc prog 31 71 [false] [])) X) w
 |0,k,s,j,w,P,D,h,i,R,r,d,t,p,v,K=>by
  have H:decide ((k:Int)<(V.nc:Int))=false:=by simp;omega
  refine aX F f a d v 14 [] [0] [] [(65,ptr s.gm),(9,ptr s.gm),(4,ptr g)] (λM=>M) 0 85 4 [] [(decide ((↑k:Int)<(↑V.nc:Int)),false)] [] [] λy x n b o q u=>?_;have e:k=V.nc:=by omega
  subst e;exact K s y x P Fx.bY rfl R r b (az _) (by omega) n
 |m+1,k,s,j,w,P,D,h,i,R,r,d,t,p,v,K=>by
  have H:decide ((k:Int)<(V.nc:Int))=true:=by simp;omega
  obtain⟨ca,e⟩:=i (by omega);obtain⟨s,rfl⟩:=RS.Ld e;replace h:s.V=V:=h;have e:s.V.nc=V.nc:=by rw[h]
  replace R:s.l=Yp V k:=R;obtain⟨f1,f2,f3,f4,f5,f6,f7,f8⟩:=uZ V k;have p:s.l.tl=k:=by simp_all
  have e:s.l.al=k:=by simp_all
  refine aX F f a d v 16 [] [2] [] [(54,i6 k),(53,ptr s.gm),(10,i6 k),(9,ptr s.gm),(4,ptr g),(1,.slice (some ca) V.nc s.cc)] (λM=>M) 0 87 6 [] [(decide ((↑k:Int)<(↑V.nc:Int)),true)] [] [] λy x n b o q u=>bu F a b n 55 43 #[ptr s.gm,i6 k,i6 (-1),i6 (-1),i6 (-1)] λb e=>L4 F f (s:={s with ca:=some ca}) (c:=k) n.sat r (by omega) (by grind) λo b d i q i n=>e _ _ _ q λe e A e n=>?_;rw[show({s with ca:=some ca}:RS).l.tl=k from p]at A;have n:k<s.V.nc:=by omega
  refine aX F f a e A 11 [12,k,0,101] [2] [] [(63,.agg #[i6 (s.V.st k),i6 k,i6 (-1),i6 0,.bool false]),(56,ptr s.gm),(10,i6 k),(9,ptr s.gm),(4,ptr g),(1,.slice (some ca) V.nc s.cc)] (λM=>M) 0 99 6 [] [] [((↑k:Int),V.nc)] [(1,(k,s.V.nc))] λe e n e p p p=>bu F a e n 64 44 #[ptr s.gm,.agg #[i6 (s.V.st k),i6 k,i6 (-1),i6 0,.bool false]] λe e=>EV F f (s:=RS.nH {s with ca:=some ca} o b d k) ⟨s.V.st k,k,-1,0,false⟩ n.sat i (by omega) (by show s.l.al<1000000000;omega) λn t p i r i q=>e _ _ _ r λe v u e q=>?_;have r:IntKind.wrap .i64 ((k:Int)+1)=((k+1:Nat):Int):=by rw[aA (by omega) (by omega)];rfl
  refine aq F f a e u 8 [] [] [] [(10,i6 (IntKind.wrap .i64 ((↑k:Int)+1))),(9,ptr s.gm),(4,ptr g),(1,.slice (some ca) V.nc s.cc)] (λM=>M) 0 108 6 [] λu g z e q q q=>?_;rw[r]at z;rw[show pc prog 31 108 (Bo 6) []=pc prog 31 71 [false] [] by kernel_rfl];refine AA F f a E m (k+1) (RS.jz (RS.nH {s with ca:=some ca} o b d k) n t p ((s.l.nH k).put ⟨s.V.st k,k,-1,0,false⟩)) u g v (by omega) h (λ_=>⟨ca,rfl⟩) ?_ i e (by omega) (by omega) z λc l O B' a n g f e b d b=>K c l O B' ⟨a.gm,a.v,a.la,a.ca,a.th,a.oa,a.oc⟩ n g f e (by omega) d b;show(s.l.nH k).put _=_;rw[R,h];rfl
theorem MI(F:aB prog W (DX J) Q)(d:HB B J){s:RS}(b:Sat J w (mR s++C))(a:B<=w.heap.size)(a:s.l.al=0)(K:∀O,Sat J O (mR s++C)->w.heap.size<=O.heap.size->Q (G (Y.finish (i6 (-1))) X) O):Q (G (Frame.enter prog 45 #[ptr s.gm] .normal) (Y::X)) w:=by
 have a:decide ((0:Int)<(s.l.al:Int))=false:=by simp;omega
 refine cJ func45 b 48 λZ a P a a c b f e=>aq F d a b f 15 [] [] [] [(4,i6 0),(3,i6 (-1)),(0,ptr s.gm)] (λM=>M) 0 15 1 [] λb b f b e e e=>oH F d a c b f 18 [0,0,3,1] [0] [] 2 (i6 (-1)) (λM=>M) 0 33 2 [] [(decide (0<(↑s.l.al:Int)),false)] [] [] λa c b b=>K a c.sat (by omega)
theorem Fu(F:aB prog W (DX J) Q)(b:HB B J){s:RS}(I:RI J B V w s C)(a:s.l.al<1000000)(K:∀O,Sat J O (mR s++C)->w.heap.size<=O.heap.size->Q (G (Y.finish (i6 (cj s.l.ag s.l.al))) X) O):Q (G (Frame.enter prog 45 #[ptr s.gm] .normal) (Y::X)) w:=by
 rcases I.rv.a.row with ⟨_,z,_⟩|⟨g,z,_⟩
 .rw[z]at K;exact MI F b I.sat I.bw z λO a c=>K O a c
 .exact MJ F b I.sat I.bw z (by omega) λO a c=>K O a (by omega)
theorem Y2:∀{C:aW}{j:Nat}{r:aH},nth C j=some r->∃C',C.Perm (r::C')/\∀x,Has C x->x≠r->Has C' x
 |[],j,r,h=>by cases h
 |x::C,0,r,h=>by
  cases h;refine⟨C,.refl _,λx d a=>?_⟩;obtain⟨c,i,b⟩:=d;cases i with
  |zero=>cases b;simp_all
  |succ i=>exact⟨c,i,b⟩
 |x::C,j+1,r,h=>by
  obtain⟨C',p,e⟩:=Y2 (C:=C) (j:=j) h;refine⟨x::C',(List.Perm.cons x p).trans (.swap ..),λy d a=>?_⟩;obtain⟨c,i,b⟩:=d;cases i with
  |zero=>exact⟨c,0,b⟩
  |succ i=>
   obtain⟨d,k,d⟩:=e y ⟨c,i,b⟩ a;exact⟨c,k+1,d⟩
theorem DM(F:aB prog W (DX J) Q)(l:HB B J)(hV:wM V){Z:aC}(a:Z.kind=.normal)(qh:Z.fn=31){Y:aC}{X:cO}{d:Nat}{C0:aW}:
 ∀(n m:Nat)(s:RS)(C:aW)(D:Act)(w:aj)(P:Nat),m<=n->RI J B V w s C->Fin V Lf m none s.l->dR C0 C->(∃j,nth C j=some (bR d [.slice none 0 0,.slice none 0 0]))->D.defers=[]->B<=P->w.heap.size=P->aR [(12,i6 (cj s.l.ag s.l.al)),(9,ptr s.gm),(4,ptr d)] 102 D->
   (∀b C' O,Fx s b->b.l=Lf->(∀r,Has C0 r->Has C' r)->RI J B V O b C'->w.heap.size<=O.heap.size->Q (G (Y.finish (.tuple #[.agg #[.slice (some b.oa) b.V.nc b.oc,.slice b.ea b.l.el b.ec],i6 0,i6 0])) X) O)->
   Q (G (Z.at D (pc prog 31 90 [false,false] [])) (Y::X)) w
 |0,m,s,C,D,w,P,hm,I,o,hi,e,A,hle,u,hA,K=>by
  have:m=0:=by omega
  subst this;exact o.elim
 |n+1,m,s,C,D,w,P,hm,I,o,hi,e,A,hle,u,hA,K=>by
  cases m with
  |zero=>exact o.elim
  |succ m=>
   have rZ:=o.1;have Z5:=I.v;rcases rS s.l.ag s.l.al with v|⟨i,R,v⟩
   .have Vg:s.l=Lf:=by have:=o.2;simp_all
    obtain⟨j,e⟩:=e;obtain⟨H,p,G⟩:=Y2 e;rw[v]at hA;have S0:St J P 102 [(12,i6 (-1)),(9,ptr s.gm),(4,ptr d)] (bR d [.slice none 0 0,.slice none 0 0]::(mR s++H)) 0 D w:=⟨hA,I.sat.perm ((p.append_left (mR s)).trans eY),u⟩;refine aq F l a A S0 18 [1,0,8,2,0,0,0,2] [1] [] [(6,i6 0),(5,i6 0),(4,ptr d)] (λM=>bh 0 (0,1) (.slice s.ea s.l.el s.ec) (bh 0 (0,0) (.slice (some s.oa) s.V.nc s.oc) (M))) 0 108 8 [] λa1 w1 t y zS Dx o9=>cC F t a qh y [0,0,0,2] (.tuple #[.agg #[.slice (some s.oa) s.V.nc s.oc,.slice s.ea s.l.el s.ec],i6 0,i6 0]) ?_;have hH:∀r,Has C r->Has H r:=λr hr=>G r hr (λz=>by have:=hr.1;simp_all);have Z6:∀h L,nL B C h L->nL B H h L:=λh L z=>by
     rcases z with z|⟨ca,cap,i,z1,z2,z3,z4⟩
     .exact .inl z
     .obtain⟨_,i',S⟩:=hH _ ⟨rfl,i,z2⟩;exact .inr ⟨ca,cap,i',z1,S,z3,z4⟩
    exact K s H w1 Fx.bY Vg (λr hr=>hH r (dR.has hi hr)) ⟨I.v,t.sat.tail,I.rv,by omega,I.la,I.ca,λj e=>Z6 _ _ (I.oh j e),λj e=>Z6 _ _ (I.wh j e),λc p h=>by
     obtain⟨r,r,r⟩:=I.xm c p h;simp_all,λk c=>by
     rcases I.gh k c with z|⟨c,i,z1,z2,z3⟩
     .exact .inl z
     .obtain⟨_,i',S⟩:=hH _ ⟨rfl,i,z3⟩;grind⟩ (by omega)
   .have T:=(qI _ _ _ v).2;rw[v]at hA;have S0:St J P 102 [(12,i6 i),(9,ptr s.gm),(4,ptr d)] (mR s++C) 0 D w:=⟨hA,I.sat,u⟩
    obtain⟨ag,c⟩:∃g,s.aa=some g:=by
     rcases I.rv.a.row with ⟨_,z,_⟩|⟨g,z,_⟩
     .omega
     simp_all
    obtain⟨s,rfl⟩:=RS.Ll c;replace R:i<s.l.al:=R;replace rZ:s.l.al<1000000:=rZ;replace v:cj s.l.ag s.l.al=i:=v;replace o:Fin V Lf (m+1) none s.l:=o;replace Z5:s.V=V:=Z5;refine aX F l a A S0 20 [0,0,3,1,1,i,4,101] [3,2] [] [(12,i6 i),(9,ptr s.gm),(4,ptr d)] (λM=>bh 1 (i,4) (.bool true) (M)) 0 110 12 [] [] [((↑i:Int),s.l.al)] [(1,(i,s.l.al))] λa1 w1 t y zS Dx o9=>?_;replace t:St J P 102 _ (mR {s with aa:=some ag,l:={s.l with ag:=upd s.l.ag i {s.l.ag i with o:=true}}}++C) 0 a1 w1:=⟨t.env,t.sat.re 1 rfl rfl _ λj _ f _=>fT rfl (show 4<5 by decide) j f,t.sz⟩;have f:upd s.l.ag i {s.l.ag i with o:=true} i={s.l.ag i with o:=true}:=by simp[upd]
    refine aX F l a y t 15 [0,0,3,1,1,i,0,101,0,0,2,1] [2] [] [(12,i6 i),(9,ptr s.gm),(4,ptr d)] (λM=>bh 0 (0,2) (i6 (upd s.l.ag i (qy.mk (s.l.ag i).a (s.l.ag i).t (s.l.ag i).w (s.l.ag i).c true) i).a) (M)) 0 125 12 [] [] [((↑i:Int),s.l.al)] [(1,(i,s.l.al))] λk g E c h h h=>?_;rw[f]at E;replace E:St J P 102 _ (mR {s with aa:=some ag,l:=s.l.pop i}++C) 0 k g:=⟨E.env,E.sat,E.sz⟩;refine aX F l a c E 10 [0,0,3,1,1,i,0,105] [2] [] [(96,.agg #[i6 (upd s.l.ag i (qy.mk (s.l.ag i).a (s.l.ag i).t (s.l.ag i).w (s.l.ag i).c true) i).a,i6 (upd s.l.ag i (qy.mk (s.l.ag i).a (s.l.ag i).t (s.l.ag i).w (s.l.ag i).c true) i).t,i6 (upd s.l.ag i (qy.mk (s.l.ag i).a (s.l.ag i).t (s.l.ag i).w (s.l.ag i).c true) i).w,i6 (upd s.l.ag i (qy.mk (s.l.ag i).a (s.l.ag i).t (s.l.ag i).w (s.l.ag i).c true) i).c,.bool (upd s.l.ag i (qy.mk (s.l.ag i).a (s.l.ag i).t (s.l.ag i).w (s.l.ag i).c true) i).o]),(89,ptr s.gm),(9,ptr s.gm),(4,ptr d)] (λM=>M) 0 135 12 [] [] [((↑i:Int),s.l.al)] [(5,(i,s.l.al))] λc g S3 c h h h=>?_;rw[f]at S3;refine bu F a c S3 97 46 #[ptr s.gm,.agg #[i6 (s.l.ag i).a,i6 (s.l.ag i).t,i6 (s.l.ag i).w,i6 (s.l.ag i).c,.bool true]] λc c=>?_;have f:RI J B V g {s with aa:=some ag,l:=s.l.pop i} C:=I.mv S3.sat ⟨I.rv.a,I.rv.t,I.rv.w,I.rv.e⟩ ⟨rfl,rfl,rfl,rfl,rfl,rfl,rfl⟩ dR.bY (by omega) I.oh I.wh;refine Mu F l hV (s:={s with aa:=some ag,l:=s.l.pop i}) (L:=s.l) (e:={s.l.ag i with o:=true}) f rfl o v rfl λb C' f m' I4 f q N x f=>c _ _ _ I4.sat λc c S4 f c=>?_;have c:b.gm=s.gm:=q.gm;rw[<-c]at S4;refine aq F l a f S4 4 [] [] [] [(69,ptr b.gm),(9,ptr b.gm),(4,ptr d)] (λM=>M) 0 140 12 [] λc c S5 c f f f=>bu F a c S5 70 45 #[ptr b.gm] λc U=>?_;have ZU:b.l.al<1000000:=by
     cases m' with
     |zero=>exact x.elim
     |succ m'=>exact x.1
    refine Fu F l {I4 with sat:=S5.sat,bw:=by omega} ZU λc f c=>U _ _ _ f λc i g c f=>aq F l a c g 3 [] [] [] [(12,i6 (cj b.l.ag b.l.al)),(9,ptr b.gm),(4,ptr d)] (λM=>M) 0 144 12 [] λh f d c g g g=>?_;rw[show pc prog 31 144 (Bo 12) []=pc prog 31 90 [false,false] [] by kernel_rfl];obtain⟨j,e⟩:=e;exact DM F l hV a qh n m' b C' h f i (by omega) {I4 with sat:=d.sat,bw:=by omega} x (hi.trans N) (N j _ e) c (by omega) (by omega) d.env λc H b a f e d g=>K c H b ⟨a.gm.trans q.gm,a.v.trans q.v,a.la.trans q.la,a.ca.trans q.ca,a.th.trans q.th,a.oa.trans q.oa,a.oc.trans q.oc⟩ f e d (by omega)
end
section
variable{Lf:LS}
theorem rB:Vc J none 0 0:=⟨.inl ⟨rfl,rfl,rfl⟩,az _,gl _,λa h=>by cases h⟩
abbrev Uf(V:Ev0)(gm u o gt:Nat)(sL sa:eP)(cA cap:Nat)(dL:p9)(eu:bU):RS:=
 {gm:=gm,la:=sL,lc:=cA,ca:=sa,cc:=cap,dL:=dL,eu:=eu,aa:=none,ac:=0,av:=λ_=>[],ta:=none,tc:=0,tv:=λ_=>[],wa:=none,wc:=0,wv:=λ_=>[],wh:=λ_=>.slice none 0 0,ua:=⟨u,0,none⟩,uc:=V.nc,ga:=⟨gt,0,none⟩,gb:=λ_=>none,gc:=λ_=>0,oa:=⟨o,0,none⟩,oc:=V.nc,oh:=λ_=>.slice none 0 0,ea:=none,ec:=0,vv:=λ_=>[],V:=V,l:=Yp V 0}
theorem Ib{a u o gt:Nat}(h:Sat J w (fR ⟨o,0,none⟩ 4 (λ_=>[i6 0,i6 0,i6 0,.slice none 0 0]) V.nc true::fR ⟨u,0,none⟩ 1 (λ_=>[i6 0]) V.nc true::fR ⟨gt,0,none⟩ 8 (λ_=>Yt gz none 0) V.nl true::bR a (mC (Uf V a u o gt sL sa cA cap dL eu))::C))(R:0<V.nl->∃la,sL=some la/\Has C (fR la 6 (λi=>Y3 (V.ly i)) V.nl false))(U:0<V.nc->∃ca,sa=some ca/\Has C (fR ca 2 (λj=>[i6 (V.st j),.slice (dL j) (V.nt j) (eu j)]) V.nc false)):
 Sat J w (mR (Uf V a u o gt sL sa cA cap dL eu)++C):=by
 let s:=Uf V a u o gt sL sa cA cap dL eu
 let d:List aH:=fR ⟨gt,0,none⟩ 8 (λ_=>Yt gz none 0) V.nl true::C
 have i:Sat J w (fR ⟨o,0,none⟩ 4 (λ_=>[i6 0,i6 0,i6 0,.slice none 0 0]) V.nc true::fR ⟨u,0,none⟩ 1 (λ_=>[i6 0]) V.nc true::bR a (mC s)::d):=h.perm (.cons _ (.cons _ (.swap ..)));have f:=Sat.back (A:=[bR a (mC s)]) (Sat.back (A:=[fR ⟨u,0,none⟩ 1 (λ_=>[i6 0]) V.nc true,bR a (mC s)]) i)
 let b:List aH:=[bR a (mC s),fR ⟨u,0,none⟩ 1 (λ_=>[i6 0]) V.nc true,fR ⟨o,0,none⟩ 4 (λ_=>[i6 0,i6 0,i6 0,.slice none 0 0]) V.nc true]
 have e:Sat J w (b++(fR (sa.getD ⟨0,0,none⟩) 2 (λj=>[i6 (V.st j),.slice (dL j) (V.nt j) (eu j)]) V.nc false::d)):=by
  refine Sat.back (A:=b) ?_;by_cases z:0<V.nc
  .obtain⟨ca,rfl,c⟩:=U z;exact Sat.get f (c.cons.app b)
  .exact Sat.ff f (by simp_all) rfl
 have g:Sat J w (b++(fR (sL.getD ⟨0,0,none⟩) 6 (λj=>pR (V.ly j)) V.nl false::fR (sa.getD ⟨0,0,none⟩) 2 (λj=>[i6 (V.st j),.slice (dL j) (V.nt j) (eu j)]) V.nc false::d)):=by
  refine Sat.back (A:=b) ?_;by_cases z:0<V.nl
  .obtain⟨la,rfl,c⟩:=R z;exact Sat.get e ((c.cons.cons).app b)
  .exact Sat.ff e (by simp_all) rfl
 have c:=Sat.back (A:=b) (Sat.ff (Sat.back (A:=b) (Sat.ff g (r:=sR s.ea 5 s.vv s.l.el s.ec) rfl rfl)) (r:=vR s.ea 5 (λj=>yt (s.l.ev j)) s.l.el s.ec 55) rfl rfl);have b:=Sat.back (A:=[bR a (mC s)]) (Sat.ff c (r:=sR s.wa 7 s.wv s.l.wl s.wc) rfl rfl);have c:=Sat.back (A:=[bR a (mC s)]) (Sat.ff b (r:=vR s.wa 7 (λj=>oL (s.l.wt j,s.wh j)) s.l.wl s.wc 136) rfl rfl);have b:=Sat.back (A:=[bR a (mC s)]) (Sat.ff c (r:=sR s.ta 19 s.tv s.l.tl s.tc) rfl rfl);have c:=Sat.back (A:=[bR a (mC s)]) (Sat.ff b (r:=vR s.ta 19 (λj=>Ep (s.l.tk j)) s.l.tl s.tc 131) rfl rfl);have b:=Sat.back (A:=[bR a (mC s)]) (Sat.ff c (r:=sR s.aa 5 s.av s.l.al s.ac) rfl rfl);exact Sat.back (A:=[bR a (mC s)]) (Sat.ff b (r:=vR s.aa 5 (λj=>BA (s.l.ag j)) s.l.al s.ac 93) rfl rfl)
theorem Pk(F:aB prog W (DX J) Q)(d:HB B J)(L:wM V)(hf:Fin V Lf m none (Yp V V.nc))(f:0<V.nc->∃ca,sa=some ca/\Has M (fR ca 2 (λj=>[i6 (V.st j),.slice (dL j) (V.nt j) (eu j)]) V.nc false))(q:∀c,c<V.nc->0<V.nt c->∃v,dL c=some v/\Has M (fR v 3 (λj=>s9 (V.tr c j)) (V.nt c) false))(t:0<V.nl->∃la,sL=some la/\Has M (fR la 6 (λi=>Y3 (V.ly i)) V.nl false))(i:Sat J w M)(H:B<=w.heap.size)(H:O3 J Q B M 17 #[.slice sL V.nl cA,.slice sa V.nc cap] (.tuple #[i6 0,i6 0]))(K:∀s C O,s.l=Lf->s.V=V->s.oc=V.nc->(∀r,Has M r->Has C r)->RI J B V O s C->w.heap.size<=O.heap.size->Q (G (Y.finish (.tuple #[.agg #[.slice (some s.oa) V.nc V.nc,.slice s.ea s.l.el s.ec],i6 0,i6 0])) X) O):
 Q (G (Frame.enter prog 31 #[.slice sL V.nl cA,.slice sa V.nc cap] .normal) (Y::X)) w:=by
 refine cJ func31 i 102 λZ i P i b I i w s=>aq F d b i w 10 [] [] [] [(15,.slice sa V.nc cap),(14,.slice sL V.nl cA),(4,ptr P),(0,.slice sL V.nl cA),(1,.slice sa V.nc cap)] (λM=>bR (P) [.slice none 0 0,.slice none 0 0]::(M)) 1 10 1 [] λi i s i w w w=>bu F b i s 16 17 #[.slice sL V.nl cA,.slice sa V.nc cap] λi i=>H _ _ _ _ (λr E=>E.cons) s.sat (by omega) λs N s=>i _ _ _ N λi e w i s=>aq F d b i w 27 [] [1] [] [(30,i6 V.nl),(28,ptr e),(9,ptr e),(4,ptr P),(1,.slice sa V.nc cap)] (λM=>bR (e) [.slice sL V.nl cA,.slice sa V.nc cap,i6 0,.slice none 0 0,.slice none 0 0,.slice none 0 0,.slice none 0 0,.slice none 0 0,.slice none 0 0,.slice none 0 0]::(M)) 1 38 2 [] λi w3 w s i i i=>?_;have i:=L.nl;have g:=L.nc;refine PO F d b 30 31 (by kernel_rfl) (by kernel_rfl) (by decide) rfl i (by omega) w λC x w i n D=>?_;rw[show jB (pc prog 31 38 (Bo 2) [])=pc prog 31 39 [false] [] by kernel_rfl];have T:St J x.heap.size 102 _ _ 0 C x:=⟨i,w,rfl⟩;replace n:=n.trans s;generalize hB4:x.heap.size=i at T D;refine aq F d b n T 9 [1,0,7,1] [] [] [(36,i6 V.nc),(34,ptr e),(9,ptr e),(4,ptr P),(1,.slice sa V.nc cap)] (λM=>bh 1 (0,7) (.slice (some ⟨Array.size w3.heap,0,none⟩) V.nl V.nl) (M)) 0 48 2 [] λi w5 w i s s s=>PM F d b 36 37 (by kernel_rfl) (by kernel_rfl) (by decide) rfl g (by omega) w λx u w s l A=>?_;rw[show jB (pc prog 31 48 (Bo 2) [])=pc prog 31 49 [false] [] by kernel_rfl];have S:St J u.heap.size 102 _ _ 0 x u:=⟨s,w,rfl⟩;replace l:=l.trans i;generalize hB6:u.heap.size=i at S A;refine aq F d b l S 9 [2,0,6,1] [] [] [(42,i6 V.nc),(40,ptr e),(9,ptr e),(4,ptr P),(1,.slice sa V.nc cap)] (λM=>bh 2 (0,6) (.slice (some ⟨Array.size w5.heap,0,none⟩) V.nc V.nc) (M)) 0 58 2 [] λi U u i s s s=>Kx F (λa wr z=>d a wr (by omega)) b 42 43 (by kernel_rfl) (by kernel_rfl) (by decide) rfl g u λu p s a h y w=>?_;rw[show jB (pc prog 31 58 (Bo 2) [])=pc prog 31 59 [false] [] by kernel_rfl];have R:St J p.heap.size 102 _ _ 0 u p:=⟨a,s,rfl⟩;replace h:=h.trans i;generalize hB8:p.heap.size=B8 at R y;refine aq F d b h R 12 [3,0,8,1] [] [] [(10,i6 0),(9,ptr e),(4,ptr P),(1,.slice sa V.nc cap)] (λM=>bh 3 (0,8) (.slice (some ⟨Array.size U.heap,0,none⟩) V.nc V.nc) (M)) 0 71 2 [] λx u s i a a a=>?_;have w:=Ib (C:=bR P [.slice none 0 0,.slice none 0 0]::M) (dL:=dL) (eu:=eu) s.sat (λz=>by obtain⟨la,a,p⟩:=t z;exact⟨la,a,p.cons⟩) (λz=>by obtain⟨ca,a,p⟩:=f z;exact⟨ca,a,p.cons⟩);refine AA F d b g V.nc 0 _ x u B8 (bK _) rfl (λz=>by grind) rfl ⟨rB,rB,rB,rB⟩ i (by omega) (by omega) ⟨s.env,w,s.sz⟩ λg i w i i H x G s u u o=>?_;have C:=uZ V V.nc;have u:RI J B V w g (bR P [.slice none 0 0,.slice none 0 0]::M):=⟨i.v,o.sat,G,by omega,λz=>by obtain⟨la,a,_⟩:=t z;exact⟨la,i.la.trans a⟩,λz=>by obtain⟨ca,a,_⟩:=f z;exact⟨ca,i.ca.trans a⟩,λj f=>by rw[H,x,C.2.2.2.2.2.2.1];exact .inl ⟨rfl,rfl⟩,λj f=>by simp_all,λc f N=>by
  obtain⟨v,a,p⟩:=q c f N;exact⟨v,by rw[i.th];exact a,p.cons⟩,λk _=>.inl (by rw[x,uY];rfl)⟩
 have a:g.gm=e:=i.gm;rw[<-a]at o;refine bu F b s o 66 45 #[ptr g.gm] λa a=>Fu F d u (by grind) λc c e=>a _ _ _ c λa j c a e=>aq F d b a c 4 [] [] [] [(12,i6 (cj g.l.ag g.l.al)),(9,ptr g.gm),(4,ptr P)] (λM=>M) 0 90 4 [] λf e c a k k k=>DM F d L b I m m g (bR P [.slice none 0 0,.slice none 0 0]::M) f e j (az _) {u with sat:=c.sat,bw:=by omega} (by rw[x];exact hf) dR.bY ⟨0,rfl⟩ a (by omega) (by omega) c.env λd k c e j g f a=>?_;have a:d.oc=V.nc:=e.oc.trans i.oc;have b:d.V=V:=e.v.trans i.v;have:=K d k c j b a (λr E=>g r E.cons) f (by omega);rw[a,b];exact this
theorem Mh(F:aB prog W (DX J) Q)(g:HB B J){c i:Int}{nl b:Nat}(U:c≠0)(d:Sat J w M)(a:B<=w.heap.size)(e:O3 J Q B M 17 #[.slice sL nl cA,.slice sa b cap] (.tuple #[i6 c,i6 i]))(K:∀O,Sat J O M->w.heap.size<=O.heap.size->Q (G (Y.finish (.tuple #[.agg #[.slice none 0 0,.slice none 0 0],i6 c,i6 i])) X) O):
 Q (G (Frame.enter prog 31 #[.slice sL nl cA,.slice sa b cap] .normal) (Y::X)) w:=by
 have a:(c !=0)=true:=by simp_all
 refine cJ func31 d 102 λZ a P a a f d j h=>aq F g a d j 10 [] [] [] [(15,.slice sa b cap),(14,.slice sL nl cA),(4,ptr P),(0,.slice sL nl cA),(1,.slice sa b cap)] (λM=>bR (P) [.slice none 0 0,.slice none 0 0]::(M)) 1 10 1 [] λd d h d j j j=>bu F a d h 16 17 #[.slice sL nl cA,.slice sa b cap] λb b=>e _ _ _ _ (λr d=>d.cons) h.sat (by omega) λd e d=>b _ _ _ e λb b e b d=>aX F g a b e 22 [0,0,0,2] [2] [] [(6,i6 i),(5,i6 c),(4,ptr P)] (λM=>M) 0 33 3 [] [(c !=0,true)] [] [] λb e d b g g g=>cC F d a f b [0,0,0,2] (.tuple #[.agg #[.slice none 0 0,.slice none 0 0],i6 c,i6 i]) ?_;exact K e d.sat.tail (by omega)
end
end Go.Proofs.YtobagnjnbmgidaaGreatDoor
