import Derived.Test.YtobagnjnbmgidaaGreatDoorR6
import Derived.Test.YtobagnjnbmgidaaGreatDoorE28
import Derived.Test.YtobagnjnbmgidaaGreatDoorP14
import Derived.Test.YtobagnjnbmgidaaGreatDoorA4
set_option linter.all false
set_option maxHeartbeats 8000000
set_option maxRecDepth 100000
namespace Go.Proofs.YtobagnjnbmgidaaGreatDoor
open Go.Conc Go.RowKit Tryz
def pV(B:Nat)(C:List ah)(h:Value)(L:List iO):Prop:=(h=.slice none 0 0∧L=[])∨∃ca cap i,h=.slice (some ca) L.length cap∧nth C i=some (iL ca L)∧B≤ca.block∧L.length≤cap
def fL(C C':List ah):Prop:=∀i r,nth C i=some r→∃j,nth C' j=some r
theorem fL.dy{C:List ah}:fL C C:=fun i r h=>⟨i,h⟩
theorem fL.trans{A C D:List ah}(h:fL A C)(h':fL C D):fL A D:=fun i r z=>by obtain⟨j,z⟩:=h i r z;exact h' j r z
theorem fL.cons{C C':List ah}{r:ah}(h:fL C C'):fL C (r::C'):=fun i x z=>by obtain⟨j,z⟩:=h i x z;exact⟨j+1,z⟩
theorem pV.inc{B:Nat}{C C':List ah}{h:Value}{L:List iO}(H:pV B C h L)(hi:fL C C'):pV B C' h L:=by
 rcases H with H|⟨ca,cap,i,h1,h2,h3⟩
 ·exact .inl H
 ·obtain⟨j,hj⟩:=hi i _ h2;exact .inr ⟨ca,cap,j,h1,hj,h3⟩
theorem pV.X3{B:Nat}{C:List ah}{h:Value}{L:List iO}(H:pV B C h L)(A:List ah):gQ (A++C) h L:=by
 rcases H with H|⟨ca,cap,i,h1,h2,h3⟩
 ·exact .inl H
 ·exact .inr ⟨ca,cap,A.length+i,h1,by rw[cz,if_neg (by omega),Nat.add_sub_cancel_left];exact h2⟩
section
variable{main:Bool}{B:Nat}{Ok:Addr→Bool→Prop}{Ψ:Goroutine→World→Prop}
theorem CZ(F:aC prog main (DX Ok) Ψ)(hB:HB B Ok){bb:Frame}(af:bb.kind=.normal){cs:List Frame}{M:List ah}{x0 x1 x2:Value}{gm b1 b2 t k:Nat}{y:Ff}{n:Int}(hn:n≤9)(hc:1≤y.c∧y.c≤9)(gV:0≤y.d∧y.d≤10000){B1:Nat}(hle:B≤B1):
 ∀(m:Nat)(i p:Int),i+m=n→1≤i→0≤p→p≤100000→∀(a0:Act)(w:World),a0.defers=[]→w.heap.size=B1→St Ok B1 130 [(15,i6 i),(14,i6 p),(12,i6 n),(8,ptr b1),(0,ptr gm),(1,i6 t),(2,i6 k)] (bR b2 [x0,x1,x2]::bR b1 (BU y)::M) 0 a0 w→
   (∀a' w',a'.defers=[]→w'.heap.size=B1→St Ok B1 130 [(14,i6 (dZ y.c y.d m p)),(12,i6 n),(8,ptr b1),(0,ptr gm),(1,i6 t),(2,i6 k)] (bR b2 [x0,x1,x2]::bR b1 (BU y)::M) 0 a' w'→Ψ (G (bb.at a' (pc prog 116 86 [false,false,false] [])) cs) w')→
   Ψ (G (bb.at a0 (pc prog 116 69 [false,false] [])) cs) w
 |0,i,p,hi,UK,hp,LP,a0,w,aP,dH,S0,K=>by
  have h1:decide (i<n)=false:=by simp;omega
  refine cJ F hB af aP S0 17 [] [0,1,1,1,1] [] [(14,i6 p),(12,i6 n),(8,ptr b1),(0,ptr gm),(1,i6 t),(2,i6 k)] (fun M=>M) 0 86 [false,false,false] [] [(decide (i<n),false)] [] [] fun a1 w1 S1 aG ck cV cW=>?_
  exact K a1 w1 aG (by omega) S1
 |m+1,i,p,hi,UK,hp,LP,a0,w,aP,dH,S0,K=>by
  have h1:decide (i<n)=true:=by simp;omega
  have e:dZ y.c y.d (m+1) p=if p≤y.d then dZ y.c y.d m (p*y.c) else p:=rfl
  by_cases h2:p≤y.d
  ·have qA:decide (p≤y.d)=true:=by simpa using h2
   have Ww:0≤p*y.c:=Int.mul_nonneg hp (by omega);have aai:p*y.c≤10000*9:=Int.mul_le_mul (by omega) hc.2 (by omega) (by omega);have Ce:IntKind.wrap .i64 (i+1)=i+1:=bI (by omega) (by omega);have EU:IntKind.wrap .i64 (p*y.c)=p*y.c:=bI (by omega) (by omega);refine cJ F hB af aP S0 31 [1,0,4,1,1,0,3,1] [2,3,3,3,2] [] [(15,i6 (IntKind.wrap .i64 (i+1))),(14,i6 (IntKind.wrap .i64 (p*y.c))),(12,i6 n),(8,ptr b1),(0,ptr gm),(1,i6 t),(2,i6 k)] (fun M=>M) 0 69 [false,false] [] [(decide (p≤y.d),true),(decide (i<n),true)] [] [] fun a1 w1 S1 aG ck cV cW=>?_
   rw[Ce,EU] at S1;rw[e,if_pos h2] at K;exact CZ F hB af hn hc gV hle m (i+1) (p*y.c) (by omega) (by omega) Ww (by omega) a1 w1 aG (by omega) S1 K
  ·have qA:decide (p≤y.d)=false:=by simpa using h2
   refine cJ F hB af aP S0 17 [1,0,4,1] [2,3,3,3,0] [] [(14,i6 p),(12,i6 n),(8,ptr b1),(0,ptr gm),(1,i6 t),(2,i6 k)] (fun M=>M) 0 86 [false,false,false] [] [(decide (p≤y.d),false),(decide (i<n),true)] [] [] fun a1 w1 S1 aG ck cV cW=>?_
   rw[e,if_neg h2] at K;exact K a1 w1 aG (by omega) S1
theorem KV(F:aC prog main (DX Ok) Ψ)(hB:HB B Ok){cf:Frame}{cs:List Frame}{w:World}{s:RS}{C:List ah}{tg:Addr}{t k:Nat}{y:Ff}{b:Bk}{ho:Option Addr}{hl hc:Nat}(hS:Sat Ok w (mR s++C))(hv:RV Ok s)(ey:B≤w.heap.size)(jy:s.ta=some tg)(ht:t<s.l.tl)(hk:k<6)(eC:pV B C (.slice ho hl hc) b.ch)(hlen:b.ch.length<1000000)(fK:b.k=2→b.ch≠[])(kO:s.l.el<1000000000)(rJ:s.l.wl<1000000000)(fy:s.l.al<1000000000)(hx:(s.l.tk t).x=false)(jJ:0≤s.l.now∧s.l.now<1000000000000)(hy:(1≤y.a∧y.a≤9)∧(0≤y.b∧y.b≤1000)∧(1≤y.c∧y.c≤9)∧(0≤y.d∧y.d≤10000))(ha:1≤(s.l.tk t).a k∧(s.l.tk t).a k≤y.a)(K:∀eN dY w' C',nG Ok B Ψ cf cs eN dY→fL C C'→w.heap.size≤w'.heap.size→
 ((b.k≠2∨cH b 2=true∨cH b 5=true)→Sat Ok w' (mR s++C')→Ψ (G (Frame.enter prog 83 #[ptr s.gm,i6 t,i6 k,p9 b (.slice ho hl hc)] .normal) (eN::dY)) w')∧
 (¬(b.k≠2∨cH b 2=true∨cH b 5=true)→(s.l.tk t).a k=y.a→∀g' aj bA ca cap,Sat Ok w' (mR (s.jN g' aj bA (s.l.say t k 4 0))++C')→RV Ok (s.jN g' aj bA (s.l.say t k 4 0))→pV B C' (.slice (some ca) (b.ch.length+1) cap) (⟨7,k,0⟩::b.ch)→Ψ (G (Frame.enter prog 83 #[ptr s.gm,i6 t,i6 k,p9 ⟨2,0,⟨7,k,0⟩::b.ch⟩ (.slice (some ca) (b.ch.length+1) cap)] .normal) (eN::dY)) w')∧
 (¬(b.k≠2∨cH b 2=true∨cH b 5=true)→(s.l.tk t).a k≠y.a→¬0<aH y ((s.l.tk t).a k)→∀g' aj bA,Sat Ok w' (mR (RS.nF (s.jN g' aj bA (s.l.say t k 3 (aH y ((s.l.tk t).a k)))) t k ((s.l.tk t).a k+1))++C')→RV Ok (RS.nF (s.jN g' aj bA (s.l.say t k 3 (aH y ((s.l.tk t).a k)))) t k ((s.l.tk t).a k+1))→Ψ (G (Frame.enter prog 58 #[ptr s.gm,i6 t,i6 (k+1:Nat)] .normal) (eN::dY)) w'))(K2:¬(b.k≠2∨cH b 2=true∨cH b 5=true)→(s.l.tk t).a k≠y.a→0<aH y ((s.l.tk t).a k)→∀C' w' g' aj bA g2 c2 v2 g3 c3 v3,fL C C'→w.heap.size≤w'.heap.size→Sat Ok w' (mR (RS.lP (RS.c8 (RS.nF (s.jN g' aj bA (s.l.say t k 3 (aH y ((s.l.tk t).a k)))) t k ((s.l.tk t).a k+1)) g2 c2 v2 t k) g3 c3 v3 (((s.l.say t k 3 (aH y ((s.l.tk t).a k))).nF t k ((s.l.tk t).a k+1)).wait t k (aH y ((s.l.tk t).a k))))++C')→RV Ok (RS.lP (RS.c8 (RS.nF (s.jN g' aj bA (s.l.say t k 3 (aH y ((s.l.tk t).a k)))) t k ((s.l.tk t).a k+1)) g2 c2 v2 t k) g3 c3 v3 (((s.l.say t k 3 (aH y ((s.l.tk t).a k))).nF t k ((s.l.tk t).a k+1)).wait t k (aH y ((s.l.tk t).a k))))→Ψ (G (cf.finish (.tuple #[])) cs) w'):
 Ψ (G (Frame.enter prog 116 #[ptr s.gm,i6 t,i6 k,.agg (BU y).toArray,p9 b (.slice ho hl hc)] .normal) (cf::cs)) w:=by
 obtain⟨s,rfl⟩:=RS.lV jy;replace ht:t<s.l.tl:=ht;replace kO:s.l.el<1000000000:=kO;replace rJ:s.l.wl<1000000000:=rJ;replace fy:s.l.al<1000000000:=fy;replace hx:(s.l.tk t).x=false:=hx;replace jJ:0≤s.l.now∧s.l.now<1000000000000:=jJ;replace ha:1≤(s.l.tk t).a k∧(s.l.tk t).a k≤y.a:=ha;refine iT f116 func116 _ rfl 130 (by kernel_rfl) hS fun bb a0 B1 hn af aJ aP S0 dH=>?_
 refine aD F hB af aP S0 8 [0,0,0,3] [] [] [(16,.agg #[i6 b.k,i6 b.n,.slice ho hl hc]),(9,ptr (B1+1)),(8,ptr B1),(0,ptr s.gm),(1,i6 t),(2,i6 k)] (fun M=>bR (B1+1) [i6 b.k,i6 b.n,.slice ho hl hc]::(bR (B1) [i6 y.k,i6 y.a,i6 y.b,i6 y.c,i6 y.d,i6 y.e]::(M))) 2 8 [] [] fun a1 w1 S1 aG ck cV cW=>?_
 refine fT F af aG S1 17 124 #[.agg #[i6 b.k,i6 b.n,.slice ho hl hc],i6 2] fun kP bK=>?_
 have qv:=eC.X3 (bR (B1+1) [i6 b.k,i6 b.n,.slice ho hl hc]::bR B1 (BU y)::mR {s with ta:=some tg});refine L9 F hB S1.au qv (by omega) (by omega) fun w2 h2 kX=>bK _ _ _ h2 fun a2 B2 S2 aW dV=>?_
 refine aD F hB af aW S2 5 [0,0,0,3] [] [] [(18,.agg #[i6 b.k,i6 b.n,.slice ho hl hc]),(10,.bool (cH b 2)),(9,ptr (B1+1)),(8,ptr B1),(0,ptr s.gm),(1,i6 t),(2,i6 k)] (fun M=>M) 0 14 [] [] fun a3 w3 S3 bD eu fS gD=>?_
 refine fT F af bD S3 19 124 #[.agg #[i6 b.k,i6 b.n,.slice ho hl hc],i6 5] fun vO ij=>?_
 refine L9 F hB S3.au qv (by omega) (by omega) fun w4 h4 Ay=>ij _ _ _ h4 fun a4 B4 S4 fC oJ=>?_
 by_cases hq:b.k≠2∨cH b 2=true∨cH b 5=true
 ·have HJ:∀a5 w5,a5.defers=[]→w5.heap.size=B4+0→w4.heap.size≤w5.heap.size→St Ok B4 130 [(32,.agg #[i6 b.k,i6 b.n,.slice ho hl hc]),(31,i6 k),(30,i6 t),(29,ptr s.gm)] (bR (B1+1) [i6 b.k,i6 b.n,.slice ho hl hc]::bR B1 (BU y)::(mR {s with ta:=some tg}++C)) 0 a5 w5→Ψ (G (bb.at a5 (pc prog 116 37 [true] [])) (cf::cs)) w5:=by
   intro a5 w5 dU jT kC S5;refine fT F af dU S5 33 83 #[ptr s.gm,i6 t,i6 k,.agg #[i6 b.k,i6 b.n,.slice ho hl hc]] fun TF xg=>?_
   refine(K TF _ w5 _ (fun w6 M h6 hb6 hz=>xg _ _ _ h6 fun a6 B6 S6 kF xX=>?_) (fL.dy.cons.cons) (by omega)).1 hq (Sat.back (A:=mR {s with ta:=some tg}) (Sat.back (A:=bR (B1+1) [i6 b.k,i6 b.n,.slice ho hl hc]::mR {s with ta:=some tg}) (S5.au.perm (.swap ..))));refine aD F hB af kF S6 1 [] [] [] [] (fun M=>M) 0 39 [true] [] fun a7 w7 S7 lN ur Ea Kt=>?_
   refine dA F S7 af aJ lN [] (.tuple #[]) ?_;exact hz w7 S7.au Ea
  by_cases pZ:b.k=2
  ·by_cases Ck:cH b 2=true
   ·refine cJ F hB af fC S4 22 [0,0,0,1,0,0,0,3] [0,2,3] [] [(32,.agg #[i6 b.k,i6 b.n,.slice ho hl hc]),(31,i6 k),(30,i6 t),(29,ptr s.gm)] (fun M=>M) 0 37 [true] [] [(cH b 2,true),(b.k !=2,false)] [] [] fun a5 w5 S5 dU jT kC rq=>?_
    exact HJ a5 w5 dU jT kC S5
   ·have RJ:cH b 5=true:=by
     rcases hq with z|z|z
     ·exact absurd pZ z
     ·exact absurd z Ck
     ·exact z
    have aag:cH b 2=false:=by simpa using Ck
    refine cJ F hB af fC S4 22 [0,0,0,1,0,0,0,3] [0,0,2] [] [(32,.agg #[i6 b.k,i6 b.n,.slice ho hl hc]),(31,i6 k),(30,i6 t),(29,ptr s.gm)] (fun M=>M) 0 37 [true] [] [(cH b 5,true),(cH b 2,false),(b.k !=2,false)] [] [] fun a5 w5 S5 dU jT kC rq=>?_
    exact HJ a5 w5 dU jT kC S5
  ·have aah:(b.k !=2)=true:=by simpa using pZ
   refine cJ F hB af fC S4 22 [0,0,0,1,0,0,0,3] [2,3,3] [] [(32,.agg #[i6 b.k,i6 b.n,.slice ho hl hc]),(31,i6 k),(30,i6 t),(29,ptr s.gm)] (fun M=>M) 0 37 [true] [] [(b.k !=2,true)] [] [] fun a5 w5 S5 dU jT kC rq=>?_
   exact HJ a5 w5 dU jT kC S5
 ·have pZ:b.k=2:=Decidable.byContradiction fun z=>hq (.inl z)
  have Ck:cH b 2=false:=by
   cases z:cH b 2 with
   |false=>rfl
   |true=>exact absurd (.inr (.inl z)) hq
  have RJ:cH b 5=false:=by
   cases z:cH b 5 with
   |false=>rfl
   |true=>exact absurd (.inr (.inr z)) hq
  refine cJ F hB af fC S4 13 [0,0,0,1] [0,0] [] [(27,.bool (cH b 5)),(26,.bool false),(9,ptr (B1+1)),(8,ptr B1),(0,ptr s.gm),(1,i6 t),(2,i6 k)] (fun M=>M) 0 28 [] [] [(cH b 2,false),(b.k !=2,false)] [] [] fun a5 w5 S5 dU jT kC rq=>?_
  have J9:k=0∨k=1∨k=2∨k=3∨k=4∨k=5:=by omega
  refine Va F aL hB (by omega) af dU 26 [(2,(0,4),true),(5,(t,7+k),false),(1,(0,1),true)] [(false,false),(true,false),(true,true)] [] [(47,.bool ((s.l.tk t).a k==y.a)),(12,i6 ((s.l.tk t).a k)),(9,ptr (B1+1)),(8,ptr B1),(0,ptr s.gm),(1,i6 t),(2,i6 k)] (fun M=>M) 0 54 [false] [] [(cH b 5,false)] [((↑t:Int),s.l.tl)] [(t,s.l.tl)] (by rcases J9 with rfl|rfl|rfl|rfl|rfl|rfl<;>kernel_rfl) (by rcases J9 with rfl|rfl|rfl|rfl|rfl|rfl<;>kernel_rfl) (Ms (by assumption) gl) (Ms (by dsimp only;omega) gl) (Ms (by dsimp only;omega) gl) S5 fun a6 w6 S6 kF xX GO Mk=>?_
  by_cases SI:(s.l.tk t).a k=y.a
  ·have Xo:((s.l.tk t).a k==y.a)=true:=by simpa using SI
   refine cJ F hB af kF S6 6 [] [2] [] [(50,i6 k),(49,i6 t),(48,ptr s.gm),(9,ptr (B1+1)),(0,ptr s.gm),(1,i6 t),(2,i6 k)] (fun M=>M) 0 60 [false,true] [] [((s.l.tk t).a k==y.a,true)] [] [] fun a7 w7 S7 lN ur Ea Kt=>?_
   refine fT F af lN S7 51 82 #[ptr s.gm,i6 t,i6 k,i6 4,i6 0] fun cf7 Ho=>?_
   refine vi F hB (s:={s with ta:=some tg}) (Sat.back (A:=mR {s with ta:=some tg}) (Sat.back (A:=bR (B1+1) [i6 b.k,i6 b.n,.slice ho hl hc]::mR {s with ta:=some tg}) (S7.au.perm (.swap ..)))) hv (by omega) kO rfl ht fun g' aj bA w8 h8 hv8 JW=>Ho _ _ _ h8 fun a8 B8 S8 qZ ET=>?_
   refine aD F hB af qZ S8 13 [14,0,2,1] [] [] [(57,.slice ho hl hc),(55,.slice (some ⟨B8,0,none⟩) 1 1),(0,ptr s.gm),(1,i6 t),(2,i6 k)] (fun M=>bR (B8) [i6 7,i6 k,i6 0]::(M)) 1 74 [false,true] [] fun a9 w9 S9 oC PA Rl Mj=>?_
   obtain⟨ca,cap,i,e1,e2,e3,e4⟩:∃ca cap i,Value.slice ho hl hc=.slice (some ca) b.ch.length cap∧nth C i=some (iL ca b.ch)∧B≤ca.block∧b.ch.length≤cap:=by
    rcases eC with ⟨_,z⟩|z
    ·exact absurd z (fK pZ)
    ·exact z
   cases e1
   refine TL F hB af 55 57 58 (1+(13+(2+i))) (L0:=[⟨7,k,0⟩]) (by kernel_rfl) (by kernel_rfl) (by decide) rfl rfl ?_ (.inr ⟨B8,⟨7,k,0⟩,0,rfl,rfl,rfl⟩) (by omega) (fun a z=>by cases z;show B≤B8;omega) (fK pZ) (by simp only[List.length_cons,List.length_nil];omega) e3 S9 fun g2 c2 IJ rC xu tN yQ Xj XI kG=>?_
   ·rw[show 1+(13+(2+i))=13+(2+i)+1 by omega]
    show nth (mR _++_) (13+(2+i))=_
    rw[cz,if_neg (by show¬13+(2+i)<13;omega),show 13+(2+i)-(mR (RS.jN {s with ta:=some tg} g' aj bA (s.l.say t k 4 0))).length=i+1+1 by show 13+(2+i)-13=_;omega];exact e2
   rw[show nL (pc prog 116 74 [false,true] [])=pc prog 116 75 [false,true] [] by kernel_rfl];have rA:St Ok rC.heap.size 130 _ _ 0 IJ rC:=⟨XI,xu,rfl⟩;have wP:rC.heap.size=rC.heap.size:=rfl;have L5:IJ.defers=[]:=kG.trans oC;clear kG;have kG:=L5;clear L5;generalize aaw:rC.heap.size=Yq at rA wP yQ;refine aD F hB af kG rA 9 [] [] [] [(63,.agg #[i6 2,i6 0,.slice (some ⟨g2,0,none⟩) (List.length ([iO.mk 7 (↑k:Int) 0]++b.ch)) c2]),(61,i6 k),(60,i6 t),(59,ptr s.gm)] (fun M=>M) 0 84 [false,true] [] fun Yg Qp Fe Ek Rk NL XP=>?_
   refine fT F af Ek Fe 64 83 #[ptr s.gm,i6 t,i6 k,.agg #[i6 2,i6 0,.slice (some ⟨g2,0,none⟩) (List.length ([iO.mk 7 (↑k:Int) 0]++b.ch)) c2]] fun X4 Sz=>?_
   refine(K X4 _ Qp _ (fun Qo M sD aav hz=>Sz _ _ _ sD fun TN Pm EP wZ JV=>?_) (fL.dy.cons.cons.cons.cons) (by omega)).2.1 hq SI g' aj bA ⟨g2,0,none⟩ c2 (Sat.back (A:=mR (RS.jN {s with ta:=some tg} g' aj bA (s.l.say t k 4 0))) (Sat.back (A:=bR B8 [i6 7,i6 k,i6 0]::mR (RS.jN {s with ta:=some tg} g' aj bA (s.l.say t k 4 0))) Fe.au)) hv8 (.inr ⟨⟨g2,0,none⟩,c2,1,rfl,rfl,by show B≤g2;omega,Xj⟩);refine aD F hB af wZ EP 1 [] [] [] [] (fun M=>M) 0 86 [false,true] [] fun Yf K7 KX AY NJ NK XO=>?_
   refine dA F KX af aJ AY [] (.tuple #[]) ?_;exact hz K7 KX.au NK
  ·have Xo:((s.l.tk t).a k==y.a)=false:=by simpa using SI
   refine cJ F hB af kF S6 15 [1,0,2,1] [0] [] [(15,i6 1),(14,i6 y.b),(12,i6 ((s.l.tk t).a k)),(8,ptr B1),(0,ptr s.gm),(1,i6 t),(2,i6 k)] (fun M=>M) 0 69 [false,false] [] [((s.l.tk t).a k==y.a,false)] [] [] fun a7 w7 S7 lN ur Ea Kt=>?_
   refine CZ F hB af (b1:=B1) (b2:=B1+1) (by omega) hy.2.2.1 hy.2.2.2 (by omega) ((s.l.tk t).a k-1).toNat 1 y.b (by omega) (by omega) (by omega) (by omega) a7 w7 lN (by omega) S7 fun a8 w8 qZ ET S8=>?_
   have Rz:∀a9 w9 p,p=aH y ((s.l.tk t).a k)→a9.defers=[]→w9.heap.size=B4→St Ok B4 130 [(91,i6 p),(90,i6 k),(89,i6 t),(88,ptr s.gm),(14,i6 p),(12,i6 ((s.l.tk t).a k)),(0,ptr s.gm),(1,i6 t),(2,i6 k)] (bR (B1+1) [i6 b.k,i6 b.n,.slice ho hl hc]::bR B1 (BU y)::(mR {s with ta:=some tg}++C)) 0 a9 w9→Ψ (G (bb.at a9 (pc prog 116 100 [false,false,false,false] [])) (cf::cs)) w9:=by
    intro a9 w9 p ep oC PA S9;refine fT F af oC S9 92 82 #[ptr s.gm,i6 t,i6 k,i6 3,i6 p] fun cf9 Xh=>?_
    refine vi F hB (s:={s with ta:=some tg}) (Sat.back (A:=mR {s with ta:=some tg}) (Sat.back (A:=bR (B1+1) [i6 b.k,i6 b.n,.slice ho hl hc]::mR {s with ta:=some tg}) (S9.au.perm (.swap ..)))) hv (by omega) kO rfl ht fun g' aj bA rC xu JX yQ=>Xh _ _ _ xu fun IJ Yq rA kG wP=>?_
    have hw:IntKind.wrap .i64 ((s.l.tk t).a k+1)=(s.l.tk t).a k+1:=bI (by omega) (by omega);refine Va F aL hB (by omega) af kG 15 [(0,(0,4),true),(3,(t,7+k),false)] [(true,false),(true,true)] [] [(14,i6 p),(0,ptr s.gm),(1,i6 t),(2,i6 k)] (fun M=>gH 3 (t,7+k) (i6 (IntKind.wrap .i64 ((s.l.tk t).a k+1))) (M)) 0 116 [false,false,false,false] [] [] [((↑t:Int),s.l.tl)] [(t,s.l.tl)] (by rcases J9 with rfl|rfl|rfl|rfl|rfl|rfl<;>kernel_rfl) (by rcases J9 with rfl|rfl|rfl|rfl|rfl|rfl<;>kernel_rfl) gl (Ms (by dsimp only;omega) gl) (Ms (by dsimp only;omega) gl) rA fun Yg Qp Fe Ek Rk NL XP=>?_
    rw[hw] at Fe;replace Fe:St Ok Yq 130 _ (mR (RS.nF (RS.jN {s with ta:=some tg} g' aj bA (s.l.say t k 3 p)) t k ((s.l.tk t).a k+1))++(bR (B1+1) [i6 b.k,i6 b.n,.slice ho hl hc]::bR B1 (BU y)::C)) 0 Yg Qp:=⟨Fe.env,Fe.au.re 3 rfl rfl _ fun j _ f _=>iz (by rcases J9 with rfl|rfl|rfl|rfl|rfl|rfl<;>rfl) (show 7+k<19 by omega) j f,Fe.sz⟩;have Rp:(upd s.l.tk t {s.l.tk t with a:=upd (s.l.tk t).a k ((s.l.tk t).a k+1)} t).x=false:=by simp only[upd,if_true];exact hx
    have Ru:RV Ok (RS.nF (RS.jN {s with ta:=some tg} g' aj bA (s.l.say t k 3 p)) t k ((s.l.tk t).a k+1)):=⟨JX.a,JX.t,JX.w,JX.e⟩
    by_cases N3:0<p
    ·have Wx:decide (p>0)=true:=by simpa using N3
     refine cJ F hB af Ek Fe 27 [0,0,4,1,3,t,4,101] [2,0,2] [] [(128,i6 p),(127,i6 k),(126,i6 t),(125,ptr s.gm)] (fun M=>M) 0 143 [false,false,false,false,false,true] [] [(decide (p>0),true),((upd s.l.tk t (Pe.mk (s.l.tk t).c (s.l.tk t).f (s.l.tk t).p (s.l.tk t).o (s.l.tk t).x (s.l.tk t).e (s.l.tk t).w (upd (s.l.tk t).a k ((s.l.tk t).a k+1)) (s.l.tk t).q) t).x,false)] [((↑t:Int),s.l.tl)] [(1,(t,s.l.tl))] fun TN Qo EP wZ JV Rn Ta=>?_
     refine fT F af wZ EP 129 81 #[ptr s.gm,i6 t,i6 k,i6 p] fun TG Hp=>?_
     have hp9:=BL y ((s.l.tk t).a k) hy.2.2.2;refine FB F hB (s:=RS.nF (RS.jN {s with ta:=some tg} g' aj bA (s.l.say t k 3 p)) t k ((s.l.tk t).a k+1)) EP.au Ru (by omega) rJ fy rfl ht (by omega) (by show -4611686018427387904≤s.l.now+p;omega) (by show s.l.now+p<4611686018427387904;omega) fun g2 c2 v2 g3 c3 v3 K7 za V3 NK=>Hp _ _ _ za fun Yf B13 KX AY NJ=>?_
     refine aD F hB af AY KX 2 [] [] [] [] (fun M=>M) 0 146 [false,false,false,false,false,true] [] fun a14 Vn TS Oj VT Rm XN=>?_
     refine dA F TS af aJ Oj [] (.tuple #[]) ?_;subst ep;exact K2 hq SI N3 _ Vn g' aj bA g2 c2 v2 g3 c3 v3 (fL.dy.cons.cons) (by omega) TS.au V3
    ·have Wx:decide (p>0)=false:=by simpa using N3
     have xY:IntKind.wrap .i64 ((k:Int)+1)=((k+1:Nat):Int):=by rw[bI (by omega) (by omega)];rfl
     refine cJ F hB af Ek Fe 27 [0,0,4,1,3,t,4,101] [2,0,0] [] [(107,i6 (IntKind.wrap .i64 ((↑k:Int)+1))),(105,i6 t),(104,ptr s.gm)] (fun M=>M) 0 143 [false,false,false,false,false,false] [] [(decide (p>0),false),((upd s.l.tk t (Pe.mk (s.l.tk t).c (s.l.tk t).f (s.l.tk t).p (s.l.tk t).o (s.l.tk t).x (s.l.tk t).e (s.l.tk t).w (upd (s.l.tk t).a k ((s.l.tk t).a k+1)) (s.l.tk t).q) t).x,false)] [((↑t:Int),s.l.tl)] [(1,(t,s.l.tl))] fun TN Qo EP wZ JV Rn Ta=>?_
     rw[xY] at EP;refine fT F af wZ EP 108 58 #[ptr s.gm,i6 t,i6 (↑(k+1):Int)] fun TG Hp=>?_
     subst ep;refine(K TG _ Qo _ (fun K7 M za aau hz=>Hp _ _ _ za fun Yf B13 KX AY NJ=>?_) (fL.dy.cons.cons) (by omega)).2.2 hq SI N3 g' aj bA EP.au Ru;refine aD F hB af AY KX 2 [] [] [] [] (fun M=>M) 0 146 [false,false,false,false,false,false] [] fun a14 Vn TS Oj VT Rm XN=>?_
     refine dA F TS af aJ Oj [] (.tuple #[]) ?_;exact hz Vn TS.au Rm
   by_cases hp:y.d<dZ y.c y.d ((s.l.tk t).a k-1).toNat y.b
   ·have AG:decide (y.d<dZ y.c y.d ((s.l.tk t).a k-1).toNat y.b)=true:=by simpa using hp
    refine cJ F hB af qZ S8 18 [1,0,4,1,1,0,4,1] [2] [] [(91,i6 y.d),(90,i6 k),(89,i6 t),(88,ptr s.gm),(14,i6 y.d),(12,i6 ((s.l.tk t).a k)),(0,ptr s.gm),(1,i6 t),(2,i6 k)] (fun M=>M) 0 104 [false,false,false,true] [] [(decide (dZ y.c y.d (Int.toNat ((s.l.tk t).a k-1)) y.b>y.d),true)] [] [] fun a9 w9 S9 oC PA Rl Mj=>?_
    rw[show pc prog 116 104 [false,false,false,true] []=pc prog 116 100 [false,false,false,false] [] by kernel_rfl];exact Rz a9 w9 _ (by unfold aH;exact(if_pos hp).symm) oC (by omega) S9
   ·have AG:decide (y.d<dZ y.c y.d ((s.l.tk t).a k-1).toNat y.b)=false:=by simpa using hp
    refine cJ F hB af qZ S8 14 [1,0,4,1] [0] [] [(91,i6 (dZ y.c y.d (Int.toNat ((s.l.tk t).a k-1)) y.b)),(90,i6 k),(89,i6 t),(88,ptr s.gm),(14,i6 (dZ y.c y.d (Int.toNat ((s.l.tk t).a k-1)) y.b)),(12,i6 ((s.l.tk t).a k)),(0,ptr s.gm),(1,i6 t),(2,i6 k)] (fun M=>M) 0 100 [false,false,false,false] [] [(decide (dZ y.c y.d (Int.toNat ((s.l.tk t).a k-1)) y.b>y.d),false)] [] [] fun a9 w9 S9 oC PA Rl Mj=>?_
    exact Rz a9 w9 _ (by unfold aH;exact(if_neg hp).symm) oC (by omega) S9
end
theorem BW:∀{E:Env}{n:Nat}{v:Value},look E n=some v→(n,v)∈E
 |[],n,v,h=>by cases h
 |(d,u)::E,n,v,h=>by
  simp only[look] at h
  by_cases e:d=n
  ·subst e;simp at h;subst h;exact List.mem_cons_self ..
  ·have e':(d==n)=false:=by simpa using e
   rw[e'] at h;exact List.mem_cons_of_mem _ (BW h)
theorem aO.sub{E E':Env}{N:Nat}{a:Act}(h:aO E N a)(hs:∀p∈E',look E p.1=some p.2):aO E' N a:=⟨h.sz,fun n v hv=>h.val n v (hs (n,v) (BW hv))⟩
section
variable{main:Bool}{B:Nat}{Ok:Addr→Bool→Prop}{Ψ:Goroutine→World→Prop}
theorem Sat.Qt{w:World}{M:List ah}{p:Nat}{ca:Addr}{y:iO}{ch:List iO}(h:Sat Ok w M)(hp:nth M p=some (iL ca (y::ch))):Sat Ok w (iL (ca.add 3) ch::M):=by
 have h1:=h.dup hp rfl;have hv:=(sat_iff.1 h1).1 _ (List.mem_cons_self ..);have G0:=List.pairwise_cons.1 (sat_iff.1 h1).2
 have OO:∀j:Ix,(iL (ca.add 3) ch).ad j=(iL ca (y::ch)).ad (j.1+1,j.2):=fun j=>by
  show((ca.add 3).add (j.1*3)).add j.2=(ca.add ((j.1+1)*3)).add j.2
  rw[Addr.add_add,Addr.add_add,Addr.add_add];congr 1;omega
 refine sat_iff.2 ⟨fun r hr=>?_,List.pairwise_cons.2 ⟨fun r hr hw j j' hj bP e=>?_,G0.2⟩⟩
 ·rcases List.mem_cons.1 hr with rfl|hr
  ·refine⟨fun j hj=>?_,fun j hj=>⟨?_,fun z=>(by cases z)⟩,fun z=>(by cases z),fun g e n z=>(by cases z)⟩
   ·rw[OO]
    exact hv.val (j.1+1,j.2) ⟨Nat.succ_lt_succ hj.1,hj.2⟩
   ·rw[OO]
    exact(hv.ok (j.1+1,j.2) ⟨Nat.succ_lt_succ hj.1,hj.2⟩).1
  ·exact(sat_iff.1 h1).1 r (List.mem_cons_of_mem _ hr)
 ·rw[OO] at e
  exact G0.1 r hr (hw.elim (fun z=>by cases z) .inr) (j.1+1,j.2) j' ⟨Nat.succ_lt_succ hj.1,hj.2⟩ bP e
theorem VF(F:aC prog main (DX Ok) Ψ)(hB:HB B Ok){cf:Frame}{cs:List Frame}{w:World}{s:RS}{C:List ah}{tg:Addr}{t k:Nat}{kk nn:Int}{y:iO}{ch:List iO}{h:Value}(hS:Sat Ok w (mR s++C))(hv:RV Ok s)(ey:B≤w.heap.size)(jy:s.ta=some tg)(ht:t<s.l.tl)(hk:k=s.V.nl)(eC:pV B C h (y::ch))(hlen:ch.length<1000000)(kO:s.l.el<1000000000)(K:∀eN dY w' C',nG Ok B Ψ cf cs eN dY→fL C C'→w.heap.size≤w'.heap.size→∀g' aj bA ho hl hc,Sat Ok w' (mR (s.jN g' aj bA (s.l.say t (-1) 2 y.n))++C')→RV Ok (s.jN g' aj bA (s.l.say t (-1) 2 y.n))→pV B C' (.slice ho hl hc) ch→Ψ (G (Frame.enter prog 83 #[ptr s.gm,i6 t,i6 k,p9 ⟨kk,nn,ch⟩ (.slice ho hl hc)] .normal) (eN::dY)) w'):
 Ψ (G (Frame.enter prog 59 #[ptr s.gm,i6 t,i6 k,i6 1,p9 ⟨kk,nn,y::ch⟩ h] .normal) (cf::cs)) w:=by
 obtain⟨s,rfl⟩:=RS.lV jy;replace ht:t<s.l.tl:=ht;replace kO:s.l.el<1000000000:=kO;replace hk:k=s.V.nl:=hk
 obtain⟨ca,cap,i,rfl,e2,e3,e4⟩:∃ca cap i,h=.slice (some ca) (ch.length+1) cap∧nth C i=some (iL ca (y::ch))∧B≤ca.block∧ch.length+1≤cap:=by
  rcases eC with ⟨_,z⟩|z
  ·cases z
  ·exact z
 have gB:((k:Int)==(s.V.nl:Int))=true:=by simp[hk]
 have hS0:=hS;replace hS:=hS.Qt (p:=13+i) (ca:=ca) (y:=y) (ch:=ch) (by rw[cz,if_neg (by show¬13+i<13;omega),show 13+i-(mR {s with ta:=some tg}).length=i by show 13+i-13=i;omega];exact e2);replace hS:=hS.dup (i:=14+i) (r:=iL ca (y::ch)) (by rw[show 14+i=13+i+1 by omega];show nth (mR _++_) (13+i)=_;rw[cz,if_neg (by show¬13+i<13;omega),show 13+i-(mR {s with ta:=some tg}).length=i by show 13+i-13=i;omega];exact e2) rfl;have bp:(y::ch).length=ch.length+1:=rfl;refine iT f59 func59 _ rfl 94 (by kernel_rfl) hS fun bb a0 B1 hn af aJ aP S0 dH=>?_
 refine cJ F hB af aP S0 30 [3,0,0,1,0,0,2,1,1,0,2,101] [2,2] [] [(26,i6 (List.getD (y::ch) 0 (iO.mk 0 0 0)).n),(25,i6 t),(24,ptr s.gm),(9,ptr B1),(0,ptr s.gm),(1,i6 t),(2,i6 k)] (fun M=>bR (B1) [i6 kk,i6 nn,.slice (some ca) (List.length ch+1) cap]::(M)) 1 30 [true] [] [((↑k:Int)==(↑s.V.nl:Int),true)] [(0,List.length ch+1)] [(1,(0,List.length (y::ch)))] fun a1 w1 S1 aG ck cV cW=>?_
 refine fT F af aG S1 27 82 #[ptr s.gm,i6 t,i6 (-1),i6 2,i6 (List.getD (y::ch) 0 (iO.mk 0 0 0)).n] fun kP bK=>?_
 refine vi F hB (s:={s with ta:=some tg}) (C:=bR B1 [i6 kk,i6 nn,.slice (some ca) (ch.length+1) cap]::iL ca (y::ch)::iL (ca.add 3) ch::C) (n:=y.n) (S1.au.perm ?_) hv (by omega) kO rfl ht fun g' aj bA w2 h2 qU kX=>bK _ _ _ h2 fun a2 B2 S2 aW dV=>?_
 ·exact(List.perm_append_comm (l₁:=[_,_,_]) (l₂:=mR {s with ta:=some tg})).append_right C|>.trans (by rw[List.append_assoc];exact .refl _)
 refine aD F hB af aW S2 10 [13,0,2,1] [] [] [(30,.slice (some ca) (List.length ch+1) cap),(28,.slice none 0 0),(9,ptr B1),(0,ptr s.gm),(1,i6 t),(2,i6 k)] (fun M=>M) 0 41 [true] [] fun a3 w3 S3 bD eu fS gD=>?_
 refine sl1 F af 30 31 (by kernel_rfl) (by kernel_rfl) (by decide) rfl e4 S3 fun a4 yf fC=>?_
 rw[show nL (pc prog 59 41 [true] [])=pc prog 59 42 [true] [] by kernel_rfl];have S4:St Ok B2 94 _ _ 0 a4 w3:=⟨yf,S3.au,S3.sz⟩;replace fC:=fC.trans bD
 have fin:∀ho hl hc a5 w5 B5 C',a5.defers=[]→w5.heap.size=B5→w2.heap.size≤w5.heap.size→fL C C'→pV B C' (.slice ho hl hc) ch→St Ok B5 94 [(32,.slice ho hl hc),(9,ptr B1),(0,ptr s.gm),(1,i6 t),(2,i6 k)] (mR (RS.jN {s with ta:=some tg} g' aj bA (s.l.say t (-1) 2 y.n))++(bR B1 [i6 kk,i6 nn,.slice (some ca) (ch.length+1) cap]::C')) 0 a5 w5→Ψ (G (bb.at a5 (pc prog 59 43 [true] [])) (cf::cs)) w5:=by
  intro ho hl hc a5 w5 B5 C' dU jT kC hi lR S5;refine aD F hB af dU S5 13 [13,0,0,2] [] [] [(41,.agg #[i6 kk,i6 nn,.slice ho hl hc]),(35,i6 k),(34,i6 t),(33,ptr s.gm)] (fun M=>M) 0 56 [true] [] fun a6 w6 S6 kF xX GO Mk=>?_
  refine fT F af kF S6 42 83 #[ptr s.gm,i6 t,i6 k,.agg #[i6 kk,i6 nn,.slice ho hl hc]] fun cf6 Xi=>?_
  refine K cf6 _ w6 _ (fun w7 M h7 hb7 hz=>Xi _ _ _ h7 fun a7 B7 S7 lN ur=>?_) hi.cons (by omega) g' aj bA ho hl hc S6.au qU (lR.inc fL.dy.cons);refine aD F hB af lN S7 1 [] [] [] [] (fun M=>M) 0 58 [true] [] fun a8 w8 S8 qZ ET JW P8=>?_
  refine dA F S8 af aJ qZ [] (.tuple #[]) ?_;exact hz w8 S8.au JW
 have sub:∀v a5 w5 B5 M,St Ok B5 94 [(32,v),(31,.slice (some (if cap=1 then ca else ca.add 3)) ch.length (cap-1)),(30,.slice (some ca) (ch.length+1) cap),(28,.slice none 0 0),(9,ptr B1),(0,ptr s.gm),(1,i6 t),(2,i6 k)] M 0 a5 w5→St Ok B5 94 [(32,v),(9,ptr B1),(0,ptr s.gm),(1,i6 t),(2,i6 k)] M 0 a5 w5:=fun v a5 w5 B5 M S=>⟨?_,S.au,S.sz⟩
 ·cases zJ:ch with
  |nil=>
   subst zJ;refine ap0 F af 28 31 32 (base:=none) (sl:=0) (sc:=0) (by kernel_rfl) (by kernel_rfl) (by decide) rfl rfl (fun _=>rfl) (Nat.le_refl _) S4 fun a5 IE dU=>?_
   rw[show nL (pc prog 59 42 [true] [])=pc prog 59 43 [true] [] by kernel_rfl];exact fin none 0 0 a5 w3 B2 _ (dU.trans fC) (by omega) (by omega) (fL.dy.cons.cons) (.inl ⟨rfl,rfl⟩) (sub _ _ _ _ _ ⟨IE,S4.au,S4.sz⟩)
  |cons z zs=>
   have hz:1≤ch.length:=by rw[zJ];simp
   have ec:(if cap=1 then ca else ca.add 3)=ca.add 3:=if_neg (by omega);have S4':=S4;rw[ec] at S4';refine TL F hB af 28 31 32 15 (L0:=[]) (base:=none) (ad:=ca.add 3) (L:=ch) (by kernel_rfl) (by kernel_rfl) (by decide) rfl rfl rfl (.inl ⟨rfl,rfl⟩) (by omega) (fun a z=>by cases z) (by rw[zJ];simp) (by simp only[List.length_nil];omega) (by rw[addBlock];exact e3) S4' fun g2 c2 a5 w5 h5 tN kC Em IE dU=>?_
   rw[show nL (pc prog 59 42 [true] [])=pc prog 59 43 [true] [] by kernel_rfl];rw[←ec] at IE;exact fin (some ⟨g2,0,none⟩) ch.length c2 a5 w5 _ (iL ⟨g2,0,none⟩ ch::iL ca (y::ch)::iL (ca.add 3) ch::C) (dU.trans fC) rfl (by omega) (fL.dy.cons.cons.cons) (.inr ⟨_,_,0,rfl,rfl,by show B≤g2;omega,Em⟩) (sub _ _ _ _ _ ⟨IE,Sat.back (A:=mR (RS.jN {s with ta:=some tg} g' aj bA (s.l.say t (-1) 2 y.n))++[bR B1 [i6 kk,i6 nn,.slice (some ca) (ch.length+1) cap]]) (by simpa using h5)|>(by simpa using ·),rfl⟩)
 ·exact S.env.sub (by intro p hp;simp only[List.mem_cons,List.not_mem_nil,or_false] at hp;rcases hp with rfl|rfl|rfl|rfl|rfl<;>rfl)
theorem VE(F:aC prog main (DX Ok) Ψ)(hB:HB B Ok){cf:Frame}{cs:List Frame}{w:World}{s:RS}{C:List ah}{la:Addr}{t k:Nat}{b:Bk}{ho:Option Addr}{hl hc:Nat}(hS:Sat Ok w (mR s++C))(ey:B≤w.heap.size)(AO:s.la=some la)(hk:k<s.V.nl)(h6:s.V.nl≤6)(kE:(s.V.ly k).k=1)(K:∀eN dY w' C',nG Ok B Ψ cf cs eN dY→fL C C'→w.heap.size≤w'.heap.size→Sat Ok w' (mR s++C')→Ψ (G (Frame.enter prog 58 #[ptr s.gm,i6 t,i6 (k+1:Nat)] .normal) (eN::dY)) w'):
 Ψ (G (Frame.enter prog 59 #[ptr s.gm,i6 t,i6 k,i6 1,p9 b (.slice ho hl hc)] .normal) (cf::cs)) w:=by
 obtain⟨s,rfl⟩:=RS.GI AO;replace hk:k<s.V.nl:=hk;replace h6:s.V.nl≤6:=h6;replace kE:(s.V.ly k).k=1:=kE;have gB:((k:Int)==(s.V.nl:Int))=false:=by simp;omega
 have AP:((s.V.ly k).k==1)=true:=by simpa using kE
 have xY:IntKind.wrap .i64 ((k:Int)+1)=((k+1:Nat):Int):=by rw[bI (by omega) (by omega)];rfl
 refine iT f59 func59 _ rfl 94 (by kernel_rfl) hS fun bb a0 B1 hn af aJ aP S0 dH=>?_
 refine cJ F hB af aP S0 48 [1,0,0,1,1,0,0,1,12,k,0,101] [0,1,2,2] [] [(62,i6 (IntKind.wrap .i64 ((↑k:Int)+1))),(60,i6 t),(59,ptr s.gm)] (fun M=>bR (B1) [i6 b.k,i6 b.n,.slice ho hl hc]::(M)) 1 48 [false,false,true] [] [((s.V.ly k).k==1,true),((↑k:Int)==(↑s.V.nl:Int),false)] [((↑k:Int),s.V.nl)] [(1,(k,s.V.nl))] fun a1 w1 S1 aG ck cV cW=>?_
 rw[xY] at S1;refine fT F af aG S1 63 58 #[ptr s.gm,i6 t,i6 (↑(k+1):Int)] fun kP bK=>?_
 refine K kP _ w1 _ (fun w2 M h2 fK hz=>bK _ _ _ h2 fun a2 B2 S2 aW dV=>?_) fL.dy.cons (by omega) (Sat.back (A:=mR {s with la:=some la}) S1.au);refine aD F hB af aW S2 2 [] [] [] [] (fun M=>M) 0 51 [false,false,true] [] fun a3 w3 S3 bD eu fS gD=>?_
 refine dA F S3 af aJ bD [] (.tuple #[]) ?_;exact hz w3 S3.au fS
end
end Go.Proofs.YtobagnjnbmgidaaGreatDoor
