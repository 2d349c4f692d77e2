import Derived.Test.YtobagnjnbmgidabGreatDoorB2
import Derived.Test.YtobagnjnbmgidabGreatDoorA42
set_option linter.all false
set_option maxHeartbeats 0
set_option maxRecDepth 100000
namespace Go.Proofs.YtobagnjnbmgidabGreatDoor
open Go.Conc Go.RowKit Tryz
variable{a:Act}{E:Env}{Z:LS->Prop}{N N' N0 R cap cA i o:Nat}{J:Nat->Se}{r:aH}{C M:aW}{D:aj}{b U Y:aC}{os:p9}{X:cO}{sL:eP}{vs:iO}
variable{W:Bool}{B ng n m:Nat}{I:dh}{Q:gi}{P:aG}{w wI:aj}{Post:qz}{l:aN}{O sa:eP}{L:oF}{g:Nat->Cl}
abbrev oG(L:oF)(i:Nat):List Value:=[i6 (L i 0),i6 (L i 1),i6 (L i 2),i6 (L i 3),i6 (L i 4),i6 (L i 5)]
def iI(F:aB prog W (DX I) Q)(o:HB B I)(n lo d:Int)(m:Sat I w M)(a:B<=w.heap.size)(K:∀D,Sat I D M->w.heap.size<=D.heap.size->Q (G (Y.finish (.bool (eB lo n d))) X) D):Q (G (Frame.enter prog 58 #[i6 lo,i6 n,i6 d] .normal) (Y::X)) w:=by
 by_cases p:lo<=n
 .have j:decide (lo<=n)=true:=ξ
  refine cJ func58 m 15 λU r s q b c a l h=>ZI F o b c a l 16 [] 126 [] 6 (.bool (decide (n<=d))) 16 1 [] [] [(decide (lo<=n),true)] [] [] λf k g i=>?_;have e:eB lo n d=decide (n<=d):=by unfold eB;simp[p]
  rw[e]at K;exact K f k.sat ω
 .have j:decide (lo<=n)=false:=ξ
  refine cJ func58 m 15 λU r s q b c a l h=>ZI F o b c a l 16 [] 84 [] 6 (.bool false) 16 1 [] [] [(decide (lo<=n),false)] [] [] λf k g i=>?_;have e:eB lo n d=false:=by unfold eB;simp[p]
  rw[e]at K;exact K f k.sat ω
def F8(F:aB prog W (DX I) Q)(h:HB B I)(k a b c d e:Int)(hS:Sat I w M)(yQ:B<=w.heap.size)(K:∀D,Sat I D M->w.heap.size<=D.heap.size->Q (G (Y.finish (.bool (aF k a b c d e))) X) D):Q (G (Frame.enter prog 43 #[.agg #[i6 k,i6 a,i6 b,i6 c,i6 d,i6 e]] .normal) (Y::X)) w:=by
 by_cases k1:k=1
 .subst k1;refine cJ func43 hS 79 λU a0 p hn f g l P N=>aq (λM=>bR (p) [i6 1,i6 a,i6 b,i6 c,i6 d,i6 e]::(M)) 1 F h f l P 22 [0,0,0,2] 7 [] [(8,i6 a),(1,ptr p)] 22 3 [] λa1 w1 t s L O o9=>ah F f s t 9 58 #[i6 1,i6 a,i6 9] λyS i=>iI F h a 1 9 t.sat ω λw2 h2 yP=>i _ _ _ h2 λa2 B2 y j tM=>?_;cases m:eB 1 a 9<;>rw[m]at y
  .refine UF F h f g j y 17 [] 349525 [] 2 (.bool false) 40 3 [] λJ q u v=>?_;rw[show aF 1 a b c d e=false by simp[aF,m]]at K;exact K J q.sat.tail ω
  refine Rb F h f j y 3 [0,0,2,1] 31 [] [(12,i6 b),(10,.bool true),(1,ptr p)] 26 3 [] λa3 J q C u v mH=>ah F f C q 13 58 #[i6 0,i6 b,i6 1000] λIb o=>iI F h b 0 1000 q.sat ω λw4 h4 FO=>o _ _ _ h4 λa4 B4 E n Bj=>?_;cases r:eB 0 b 1000<;>rw[r]at E
  .refine UF F h f g n E 13 [] 5461 [] 2 (.bool false) 40 3 [] λH x z A=>?_;rw[show aF 1 a b c d e=false by simp[aF,m,r]]at K;exact K H x.sat.tail ω
  refine Rb F h f n E 4 [0,0,3,1] 31 [] [(17,i6 c),(15,.bool true),(1,ptr p)] 31 3 [] λa5 H x Yv z A qO=>ah F f Yv x 18 58 #[i6 1,i6 c,i6 9] λLO V=>iI F h c 1 9 x.sat ω λw6 h6 Hf=>V _ _ _ h6 λa6 B6 S6 S YG=>?_;cases Z:eB 1 c 9<;>rw[Z]at S6
  .refine UF F h f g S S6 8 [] 85 [] 2 (.bool false) 40 3 [] λw7 S7 OD YQ=>?_;rw[show aF 1 a b c d e=false by simp[aF,m,r,Z]]at K;exact K w7 S7.sat.tail ω
  refine Rb F h f S S6 4 [0,0,4,1] 31 [] [(22,i6 d),(20,.bool true)] 36 3 [] λa7 w7 S7 CI OD YQ DJ=>ah F f CI S7 23 58 #[i6 0,i6 d,i6 10000] λRU T=>iI F h d 0 10000 S7.sat ω λw8 h8 IV=>T _ _ _ h8 λa8 B8 S8 R FN=>?_;cases q4:eB 0 d 10000<;>rw[q4]at S8
  .refine UF F h f g R S8 3 [] 1 [] 2 (.bool false) 40 3 [] λw9 S9 Tl He=>?_;rw[show aF 1 a b c d e=false by simp[aF,m,r,Z,q4]]at K;exact K w9 S9.sat.tail ω
  refine UF F h f g R S8 3 [] 1 [] 2 (.bool true) 40 3 [] λw9 S9 Tl He=>?_;rw[show aF 1 a b c d e=true by simp[aF,m,r,Z,q4]]at K;exact K w9 S9.sat.tail ω
 have w:(k==1)=false:=ξ
 by_cases k2:k=2
 .subst k2;refine cJ func43 hS 79 λU a0 p hn f g l P N=>bB (λM=>bR (p) [i6 2,i6 a,i6 b,i6 c,i6 d,i6 e]::(M)) 1 F h f g l P 28 [0,0,0,1] 29 [] 2 (.bool true) 28 6 [] λw1 t L O=>K w1 t.sat.tail ω
 have w:(k==2)=false:=ξ
 by_cases k3:k=3
 .subst k3;refine cJ func43 hS 79 λU a0 p hn f g l P N=>aq (λM=>bR (p) [i6 3,i6 a,i6 b,i6 c,i6 d,i6 e]::(M)) 1 F h f l P 34 [0,0,0,2] 117 [] [(30,i6 a),(1,ptr p)] 34 12 [] λa1 w1 t s L O o9=>ah F f s t 31 58 #[i6 1,i6 a,i6 1000] λyS i=>iI F h a 1 1000 t.sat ω λw2 h2 yP=>i _ _ _ h2 λa2 B2 y j tM=>?_;cases m:eB 1 a 1000<;>rw[m]at y
  .refine UF F h f g j y 7 [] 85 [] 2 (.bool false) 42 12 [] λJ q u v=>?_;rw[show aF 3 a b c d e=false by simp[aF,m]]at K;exact K J q.sat.tail ω
  refine Rb F h f j y 3 [0,0,2,1] 31 [] [(34,i6 b),(32,.bool true)] 38 12 [] λa3 J q C u v mH=>ah F f C q 35 58 #[i6 1,i6 b,i6 20] λIb o=>iI F h b 1 20 q.sat ω λw4 h4 FO=>o _ _ _ h4 λa4 B4 E n Bj=>?_;cases r:eB 1 b 20<;>rw[r]at E
  .refine UF F h f g n E 3 [] 1 [] 2 (.bool false) 42 12 [] λH x z A=>?_;rw[show aF 3 a b c d e=false by simp[aF,m,r]]at K;exact K H x.sat.tail ω
  refine UF F h f g n E 3 [] 1 [] 2 (.bool true) 42 12 [] λH x z A=>?_;rw[show aF 3 a b c d e=true by simp[aF,m,r]]at K;exact K H x.sat.tail ω
 have w:(k==3)=false:=ξ
 by_cases k4:k=4
 .subst k4;refine cJ func43 hS 79 λU a0 p hn f g l P N=>aq (λM=>bR (p) [i6 4,i6 a,i6 b,i6 c,i6 d,i6 e]::(M)) 1 F h f l P 40 [0,0,0,2] 469 [] [(40,i6 a),(1,ptr p)] 40 24 [] λa1 w1 t s L O o9=>ah F f s t 41 58 #[i6 1,i6 a,i6 20] λyS i=>iI F h a 1 20 t.sat ω λw2 h2 yP=>i _ _ _ h2 λa2 B2 y j tM=>?_;cases m:eB 1 a 20<;>rw[m]at y
  .refine UF F h f g j y 24 [] 357913941 [] 2 (.bool false) 65 24 [] λJ q u v=>?_;rw[show aF 4 a b c d e=false by simp[aF,m]]at K;exact K J q.sat.tail ω
  refine Rb F h f j y 5 [0,0,2,1,0,0,1,1] 511 [] [(46,i6 a),(42,.bool true),(44,i6 b),(1,ptr p)] 46 24 [] λa3 J q C u v mH=>ah F f C q 47 58 #[i6 1,i6 b,i6 a] λIb o=>iI F h b 1 a q.sat ω λw4 h4 FO=>o _ _ _ h4 λa4 B4 E n Bj=>?_;cases r:eB 1 b a<;>rw[r]at E
  .refine UF F h f g n E 18 [] 349525 [] 2 (.bool false) 65 24 [] λH x z A=>?_;rw[show aF 4 a b c d e=false by simp[aF,m,r]]at K;exact K H x.sat.tail ω
  refine Rb F h f n E 4 [0,0,3,1] 31 [] [(51,i6 c),(49,.bool true),(1,ptr p)] 51 24 [] λa5 H x Yv z A qO=>ah F f Yv x 52 58 #[i6 1,i6 c,i6 100] λLO V=>iI F h c 1 100 x.sat ω λw6 h6 Hf=>V _ _ _ h6 λa6 B6 S6 S YG=>?_;cases Z:eB 1 c 100<;>rw[Z]at S6
  .refine UF F h f g S S6 13 [] 5461 [] 2 (.bool false) 65 24 [] λw7 S7 OD YQ=>?_;rw[show aF 4 a b c d e=false by simp[aF,m,r,Z]]at K;exact K w7 S7.sat.tail ω
  refine Rb F h f S S6 4 [0,0,4,1] 31 [] [(56,i6 d),(54,.bool true),(1,ptr p)] 56 24 [] λa7 w7 S7 CI OD YQ DJ=>ah F f CI S7 57 58 #[i6 0,i6 d,i6 1000] λRU T=>iI F h d 0 1000 S7.sat ω λw8 h8 IV=>T _ _ _ h8 λa8 B8 S8 R FN=>?_;cases q4:eB 0 d 1000<;>rw[q4]at S8
  .refine UF F h f g R S8 8 [] 85 [] 2 (.bool false) 65 24 [] λw9 S9 Tl He=>?_;rw[show aF 4 a b c d e=false by simp[aF,m,r,Z,q4]]at K;exact K w9 S9.sat.tail ω
  refine Rb F h f R S8 4 [0,0,5,1] 31 [] [(61,i6 e),(59,.bool true)] 61 24 [] λw w9 S9 w Tl He B=>ah F f w S9 62 58 #[i6 1,i6 e,i6 9] λw w=>iI F h e 1 9 S9.sat ω λB B G=>w _ _ _ B λw w yU Zl w=>?_;cases q5:eB 1 e 9<;>rw[q5]at yU
  .refine UF F h f g Zl yU 3 [] 1 [] 2 (.bool false) 65 24 [] λw B G R=>?_;rw[show aF 4 a b c d e=false by simp[aF,m,r,Z,q4,q5]]at K;exact K w B.sat.tail ω
  refine UF F h f g Zl yU 3 [] 1 [] 2 (.bool true) 65 24 [] λw B G R=>?_;rw[show aF 4 a b c d e=true by simp[aF,m,r,Z,q4,q5]]at K;exact K w B.sat.tail ω
 have w:(k==4)=false:=ξ
 by_cases k5:k=5
 .subst k5;refine cJ func43 hS 79 λU a0 p hn f g l P N=>aq (λM=>bR (p) [i6 5,i6 a,i6 b,i6 c,i6 d,i6 e]::(M)) 1 F h f l P 46 [0,0,0,2] 1877 [] [(67,i6 a),(1,ptr p)] 46 48 [] λa1 w1 t s L O o9=>ah F f s t 68 58 #[i6 1,i6 a,i6 9] λyS i=>iI F h a 1 9 t.sat ω λw2 h2 yP=>i _ _ _ h2 λa2 B2 y j tM=>?_;cases m:eB 1 a 9<;>rw[m]at y
  .refine UF F h f g j y 7 [] 85 [] 2 (.bool false) 54 48 [] λJ q u v=>?_;rw[show aF 5 a b c d e=false by simp[aF,m]]at K;exact K J q.sat.tail ω
  refine Rb F h f j y 3 [0,0,2,1] 31 [] [(71,i6 b),(69,.bool true)] 50 48 [] λa3 J q C u v mH=>ah F f C q 72 58 #[i6 0,i6 b,i6 1000] λIb o=>iI F h b 0 1000 q.sat ω λw4 h4 FO=>o _ _ _ h4 λa4 B4 E n Bj=>?_;cases r:eB 0 b 1000<;>rw[r]at E
  .refine UF F h f g n E 3 [] 1 [] 2 (.bool false) 54 48 [] λH x z A=>?_;rw[show aF 5 a b c d e=false by simp[aF,m,r]]at K;exact K H x.sat.tail ω
  refine UF F h f g n E 3 [] 1 [] 2 (.bool true) 54 48 [] λH x z A=>?_;rw[show aF 5 a b c d e=true by simp[aF,m,r]]at K;exact K H x.sat.tail ω
 have n:(k==5)=false:=ξ
 by_cases hk:k=6
 .subst hk;refine cJ func43 hS 79 λU a0 p hn f g l P N=>aq (λM=>bR (p) [i6 6,i6 a,i6 b,i6 c,i6 d,i6 e]::(M)) 1 F h f l P 52 [0,0,0,2] 7509 [] [(77,i6 a)] 52 96 [] λa1 w1 t s L O o9=>ah F f s t 78 58 #[i6 1,i6 a,i6 1000] λyS i=>iI F h a 1 1000 t.sat ω λw2 h2 yP=>i _ _ _ h2 λa2 B2 y j tM=>UF F h f g j y 2 [] 1 [] 2 (.bool (eB 1 a 1000)) 55 96 [] λJ q u v=>?_;rw[show aF 6 a b c d e=eB 1 a 1000 by simp[aF]]at K;exact K J q.sat.tail ω
 have i:(k==6)=false:=ξ
 refine cJ func43 hS 79 λU a0 p hn f g l P N=>oH (λM=>bR (p) [i6 k,i6 a,i6 b,i6 c,i6 d,i6 e]::(M)) 1 F h f g l P 54 [0,0,0,1] 4096 [] 2 (.bool false) 54 64 [] [] [(k==6,false),(k==5,false),(k==4,false),(k==3,false),(k==2,false),(k==1,false)] [] [] λw1 t L O=>?_;have e:aF k a b c d e=false:=by simp only[aF,af k1,af k2,af k3,af k4,af k5,af hk]
 rw[e]at K;exact K w1 t.sat.tail ω
def IG(F:aB prog W (DX I) Q)(d:HB B I){U:aC}(b:U.kind=.normal)(c:U.fn=44){Y:aC}{X:cO}{M:aW}{s:eP}{n k:Nat}{T:oF}(N:n<=12)(l:0<n->∃a,s=some a){B1:Nat}(y:B<=B1):
 ∀(m i:Nat)(q:Act)(w:aj)(f:Nat),i+m=n->q.defers=[]->B1<=f->w.heap.size=f->St I f 33 [(18,i6 i),(17,i6 n),(16,.slice s n k)] (fR (s.getD ⟨0,0,none⟩) 3 (λj=>[i6 (T j 0),i6 (T j 1),i6 (T j 2)]) n false::M) 0 q w->
   (∀D,Sat I D M->w.heap.size<=D.heap.size->Q (G (Y.finish (.bool (lQ T m i))) X) D)->Q (G (U.at q (pc prog 44 31 [false] [])) (Y::X)) w
 |0,i,q,w,f,O,h,z,v,E,K=>by
  have a:decide ((i:Int)<(n:Int))=false:=θ
  refine ZI F d b c h E 11 [] 4 [] 2 (.bool true) 42 4 [] [] [(decide ((↑i:Int)<(↑n:Int)),false)] [] [] λH r t x=>K H r.sat.tail ω
 |m+1,i,q,w,f,O,h,z,v,E,K=>by
  obtain⟨u,rfl⟩:=l ω;have e:lQ T (m+1) i=(eB 1 (T i 0) 4&&eB 0 (T i 2) 1000&&lQ T m (i+1)):=rfl;rw[e]at K;refine aX (λM=>bR (f) [i6 (T i 0),i6 (T i 1),i6 (T i 2)]::(M)) 1 F d b h E 20 [0,i,0,103,0,0,0,3,0,0,0,1] 26 [] [(23,i6 (T i 0)),(4,ptr f),(18,i6 i),(17,i6 n),(16,.slice (some u) n k)] 51 6 [] [] [(decide ((↑i:Int)<(↑n:Int)),true)] [((↑i:Int),n)] [(3,(i,n))] λa H r a t x e=>ah F b a r 24 58 #[i6 1,i6 (T i 0),i6 4] λa a=>iI F d (T i 0) 1 4 r.sat ω λe h e=>a _ _ _ h λa a C p a=>?_;cases L:eB 1 (T i 0) 4<;>rw[L]at C K
  .refine UF F d b c p C 13 [] 2047 [] 2 (.bool false) 65 14 [] λj e a h=>K j e.sat.tail.tail ω
  refine Rb F d b p C 4 [0,0,2,1] 21 [] [(28,i6 (T i 2)),(26,.bool false),(27,.pointer (some (Addr.mk f 2 none))),(18,i6 i),(17,i6 n),(16,.slice (some u) n k)] 56 6 [] λp j e j a h a=>ah F b j e 29 58 #[i6 0,i6 (T i 2),i6 1000] λa a=>iI F d (T i 2) 0 1000 e.sat ω λe h e=>a _ _ _ h λa P A o a=>?_;cases J:eB 0 (T i 2) 1000<;>rw[J]at A K
  .refine UF F d b c o A 8 [] 29 [] 2 (.bool false) 65 14 [] λa g e h=>K a g.sat.tail.tail ω
  have j:wp i=((i+1:Nat):Int):=j6;refine Rb F d b o A 11 [] 21 [] [(18,i6 (wp i)),(30,.bool false),(29,.bool true),(28,i6 (T i 2)),(27,.pointer (some (Addr.mk f 2 none))),(17,i6 n),(16,.slice (some u) n k)] 68 10 [] λo a g f e h e=>?_;rw[j]at g;replace g:=g.dB [(18,i6 ((i+1:Nat):Int)),(17,i6 n),(16,.slice (some u) n k)] rfl;rw[show pc prog 44 68 (Bo 10) []=pc prog 44 31 [false] [] by kernel_rfl];exact IG F d b c N l y m (i+1) o a P ω f ω ω ⟨g.env,g.sat.tail,g.sz⟩ λD a b=>K D a ω
def NJ(F:aB prog W (DX I) Q)(g:HB B I){st:Int}{f:eP}{k:Nat}{T:oF}(h:0<n->∃a,f=some a/\Has M (fR a 3 (λj=>[i6 (T j 0),i6 (T j 1),i6 (T j 2)]) n false))(l:Sat I w M)(a:B<=w.heap.size)(K:∀D,Sat I D M->w.heap.size<=D.heap.size->Q (G (Y.finish (.bool (iF st n T))) X) D):Q (G (Frame.enter prog 44 #[.agg #[i6 st,.slice f n k]] .normal) (Y::X)) w:=by
 replace l:Sat I w (fR (f.getD ⟨0,0,none⟩) 3 (λj=>[i6 (T j 0),i6 (T j 1),i6 (T j 2)]) n false::M):=by
  by_cases z:0<n
  .obtain⟨u,rfl,i⟩:=h z;exact l.get i
  .exact l.qj ξ rfl
 refine cJ func44 l 33 λU a h a b e a j i=>aq (λM=>bR (h) [i6 st,.slice f n k]::(M)) 1 F g b a j 10 [0,0,0,1] 1 [] [(6,i6 st),(1,ptr h)] 10 1 [] λa a h a i i i=>ah F b a h 7 58 #[i6 0,i6 st,i6 1000] λa a=>iI F g st 0 1000 h.sat ω λh i h=>a _ _ _ i λa o m d a=>?_;unfold iF at K;cases q:eB 0 st 1000<;>rw[q]at m K
 .refine UF F g b e d m 13 [] 2047 [] 2 (.bool false) 24 3 [] λa c h i=>K a c.sat.tail.tail ω
 by_cases p:n<=12
 .have j:decide ((n:Int)>12)=false:=θ
  rw[show decide (12<n)=false by simp;omega]at K;refine TP F g b d m 20 [0,0,1,1,0,0,1,1] 1109 [] [(18,i6 0),(17,i6 n),(16,.slice f n k)] 31 2 [] [] [(decide ((↑n:Int)>12),false)] [] [] λs a c j h i r=>?_;replace c:=c.dB [(18,i6 ((0:Nat):Int)),(17,i6 n),(16,.slice f n k)] rfl;exact IG F g b e p (λz=>χ) (B1:=o) ω n 0 s a o (bK _) j (az _) ω ⟨c.env,c.sat.tail,c.sz⟩ λD f j=>K D f ω
 .rw[show decide (12<n)=true by simp;omega]at K;refine ZI F g b e d m 13 [0,0,1,1] 1621 [] 2 (.bool false) 24 3 [] [] [(decide ((↑n:Int)>12),true)] [] [] λa c h i=>K a c.sat.tail.tail ω
def KZ(F:aB prog W (DX I) Q)(h:HB B I){U:aC}(b:U.kind=.normal)(f:U.fn=26){Y:aC}{X:cO}{M:aW}{sa:eP}{n cap:Nat}{g:Nat->Cl}(L:n<=9)(l:0<n->∃a,sa=some a)(H:∀j,j<n->0<(g j).nt->∃a,(g j).ta=some a/\Has M (fR a 3 (λi=>[i6 ((g j).T i 0),i6 ((g j).T i 1),i6 ((g j).T i 2)]) (g j).nt false)):
 ∀(m i:Nat)(p:Act)(w:aj)(k:Nat),i+m=n->p.defers=[]->B<=k->w.heap.size=k->St I k 19 [(7,i6 i),(6,i6 n),(5,.slice sa n cap),(0,.slice sa n cap)] (fR (sa.getD ⟨0,0,none⟩) 2 (λj=>[i6 (g j).st,.slice (g j).ta (g j).nt (g j).tc]) n false::M) 0 p w->
   (∀D,Sat I D M->w.heap.size<=D.heap.size->Q (G (Y.finish (i6 (fY g m i))) X) D)->Q (G (U.at p (pc prog 26 13 [] [])) (Y::X)) w
 |0,i,p,w,k,N,d,x,t,A,K=>by
  have j:decide ((i:Int)<(n:Int))=false:=θ
  have e:fY g 0 i=n:=by show i=n;omega
  rw[e]at K;refine ZI F h b f d A 13 [] 4 [] 2 (i6 n) 26 2 [] [] [(decide ((↑i:Int)<(↑n:Int)),false)] [] [] λE q s v=>K E q.sat.tail ω
 |m+1,i,p,w,k,N,d,x,t,A,K=>by
  obtain⟨u,rfl⟩:=l ω;refine aX (λM=>bR (k) [i6 (g i).st,.slice (g i).ta (g i).nt (g i).tc]::(M)) 1 F h b d A 21 [0,i,0,102,0,0,0,2,0,0,0,2] 26 [] [(12,.agg #[i6 (g i).st,.slice (g i).ta (g i).nt (g i).tc]),(3,i6 i),(7,i6 i),(6,i6 n),(5,.slice (some u) n cap),(0,.slice (some u) n cap)] 34 3 [] [] [(decide ((↑i:Int)<(↑n:Int)),true)] [((↑i:Int),n)] [(2,(i,n))] λd E q d s v j=>ah F b d q 13 44 #[.agg #[i6 (g i).st,.slice (g i).ta (g i).nt (g i).tc]] λd d=>?_;have j:=H i ω;refine NJ F h (λz=>by let⟨a,r,C⟩:=j z;exact⟨a,r,C.cons.cons⟩) q.sat ω λa j a=>d _ _ _ j λa O y o a=>?_;have e:fY g (m+1) i=if iF (g i).st (g i).nt (g i).T=false then i else fY g m (i+1):=rfl;rw[e]at K;cases J:iF (g i).st (g i).nt (g i).T<;>rw[J]at y K
  .refine UF F h b f o y 8 [] 7 [] 2 (i6 i) 43 7 [] λa c d e=>K a c.sat.tail.tail ω
  have j:IntKind.wrap .i64 ((i:Int)+1)=((i+1:Nat):Int):=by rw[aA ω ω];rfl
  refine Rb F h b o y 10 [] 5 [] [(7,i6 (IntKind.wrap .i64 ((↑i:Int)+1))),(6,i6 n),(5,.slice (some u) n cap),(0,.slice (some u) n cap)] 45 5 [] λk a c g d e d=>?_;rw[j]at c;replace c:=c.dB [(7,i6 ((i+1:Nat):Int)),(6,i6 n),(5,.slice (some u) n cap),(0,.slice (some u) n cap)] rfl;rw[show pc prog 26 45 (Bo 5) []=pc prog 26 13 [] [] by kernel_rfl];exact KZ F h b f L l H m (i+1) k a O ω g ω ω ⟨c.env,c.sat.tail,c.sz⟩ λD r C=>K D r ω
def Ge(F:aB prog W (DX I) Q)(f:HB B I){U:aC}(b:U.kind=.normal)(d:U.fn=25){Y:aC}{X:cO}{M:aW}{sL:eP}{n cap:Nat}{L:oF}(hn:n<=6)(v:0<n->∃a,sL=some a):
 ∀(m i:Nat)(r:Int)(J:Act)(w:aj)(l:Nat),i+m=n->0<=r->r<=2->J.defers=[]->B<=l->w.heap.size=l->St I l 29 [(8,i6 i),(7,i6 n),(6,.slice sL n cap),(3,i6 r),(0,.slice sL n cap)] (fR (sL.getD ⟨0,0,none⟩) 6 (oG L) n false::M) 0 J w->
   (∀D,Sat I D M->w.heap.size<=D.heap.size->Q (G (Y.finish (i6 (cZ L m i r))) X) D)->Q (G (U.at J (pc prog 25 17 [] [])) (Y::X)) w
 |0,i,r,J,w,l,hi,Zs,hr,h,Rg,R,N,K=>by
  have g1:decide ((i:Int)<(n:Int))=false:=θ
  have e:cZ L 0 i r=n:=by show i=n;omega
  rw[e]at K;refine ZI F f b d h N 13 [] 4 [] 2 (i6 n) 30 2 [] [] [(decide ((↑i:Int)<(↑n:Int)),false)] [] [] λC k q t=>K C k.sat.tail ω
 |m+1,i,r,J,w,l,hi,Zs,hr,h,Rg,R,N,K=>by
  have g1:decide ((i:Int)<(n:Int))=true:=θ
  obtain⟨u,rfl⟩:=v ω;have e:cZ L (m+1) i r=if 2<(if L i 0=1 then r+1 else r)\/aF (L i 0) (L i 1) (L i 2) (L i 3) (L i 4) (L i 5)=false then i else cZ L m (i+1) (if L i 0=1 then r+1 else r):=rfl;rw[e]at K;have hw:IntKind.wrap .i64 ((i:Int)+1)=((i+1:Nat):Int):=by rw[aA ω ω];rfl
  have T:IntKind.wrap .i64 (r+1)=r+1:=aA ω ω;by_cases H:L i 0=1
  .have E:(L i 0==1)=true:=ξ
   rw[sJ H]at K;by_cases Z:r=2
   .subst Z;rw[sJ (.inl δ)]at K;refine oH (λM=>bR (l) [i6 (L i 0),i6 (L i 1),i6 (L i 2),i6 (L i 3),i6 (L i 4),i6 (L i 5)]::(M)) 1 F f b d h N 47 [0,i,0,106,0,0,0,6,0,0,0,1] 32746 [] 2 (i6 i) 64 15 [] [] [(L i 0==1,true),(decide ((↑i:Int)<(↑n:Int)),true)] [((↑i:Int),n)] [(6,(i,n))] λC k q t=>K C k.sat.tail.tail ω
   have a:decide (r+1>2)=false:=θ
   have V:decide (IntKind.wrap .i64 (r+1)>2)=false:=ξ
   refine aX (λM=>bR (l) [i6 (L i 0),i6 (L i 1),i6 (L i 2),i6 (L i 3),i6 (L i 4),i6 (L i 5)]::(M)) 1 F f b h N 37 [0,i,0,106,0,0,0,6,0,0,0,1,0,0,0,6] 298 [] [(21,.agg #[i6 (L i 0),i6 (L i 1),i6 (L i 2),i6 (L i 3),i6 (L i 4),i6 (L i 5)]),(20,.bool false),(3,i6 (IntKind.wrap .i64 (r+1))),(4,i6 i),(8,i6 i),(7,i6 n),(6,.slice (some u) n cap),(0,.slice (some u) n cap)] 54 7 [] [] [(decide (IntKind.wrap .i64 (r+1)>2),false),(L i 0==1,true),(decide ((↑i:Int)<(↑n:Int)),true)] [((↑i:Int),n)] [(6,(i,n))] λa1 C k y q t o9=>ah F b y k 22 43 #[.agg #[i6 (L i 0),i6 (L i 1),i6 (L i 2),i6 (L i 3),i6 (L i 4),i6 (L i 5)]] λyS j=>F8 F f (L i 0) (L i 1) (L i 2) (L i 3) (L i 4) (L i 5) k.sat ω λw2 z S=>j _ _ _ z λa2 B3 A g P=>?_;cases hq:aF (L i 0) (L i 1) (L i 2) (L i 3) (L i 4) (L i 5)<;>rw[hq]at A K
   .rw[sJ (.inr rfl)]at K;refine UF F f b d g A 9 [] 29 [] 2 (i6 i) 64 15 [] λo c p s=>K o c.sat.tail.tail ω
   rw[af ξ]at K;refine Rb F f b g A 11 [] 21 [] [(8,i6 (IntKind.wrap .i64 ((↑i:Int)+1))),(23,.bool false),(22,.bool true),(21,.agg #[i6 (L i 0),i6 (L i 1),i6 (L i 2),i6 (L i 3),i6 (L i 4),i6 (L i 5)]),(3,i6 (IntKind.wrap .i64 (r+1))),(7,i6 n),(6,.slice (some u) n cap),(0,.slice (some u) n cap)] 66 11 [] λa3 o c x p s mH=>?_;rw[hw,T]at c;replace c:=c.dB [(8,i6 ((i+1:Nat):Int)),(7,i6 n),(6,.slice (some u) n cap),(3,i6 (r+1)),(0,.slice (some u) n cap)] rfl;rw[show pc prog 25 66 (Bo 11) []=pc prog 25 17 [] [] by kernel_rfl];exact Ge F f b d hn v m (i+1) (r+1) a3 o B3 ω ω ω x ω ω ⟨c.env,c.sat.tail,c.sz⟩ λD O z2=>K D O ω
  .have E:(L i 0==1)=false:=ξ
   rw[af H]at K;have V:decide (r>2)=false:=θ
   refine aX (λM=>bR (l) [i6 (L i 0),i6 (L i 1),i6 (L i 2),i6 (L i 3),i6 (L i 4),i6 (L i 5)]::(M)) 1 F f b h N 33 [0,i,0,106,0,0,0,6,0,0,0,1,0,0,0,6] 266 [] [(21,.agg #[i6 (L i 0),i6 (L i 1),i6 (L i 2),i6 (L i 3),i6 (L i 4),i6 (L i 5)]),(20,.bool false),(4,i6 i),(8,i6 i),(7,i6 n),(6,.slice (some u) n cap),(3,i6 r),(0,.slice (some u) n cap)] 50 5 [] [] [(decide (r>2),false),(L i 0==1,false),(decide ((↑i:Int)<(↑n:Int)),true)] [((↑i:Int),n)] [(6,(i,n))] λa1 C k y q t o9=>ah F b y k 22 43 #[.agg #[i6 (L i 0),i6 (L i 1),i6 (L i 2),i6 (L i 3),i6 (L i 4),i6 (L i 5)]] λyS j=>F8 F f (L i 0) (L i 1) (L i 2) (L i 3) (L i 4) (L i 5) k.sat ω λw2 z S=>j _ _ _ z λa2 B3 A g P=>?_;cases hq:aF (L i 0) (L i 1) (L i 2) (L i 3) (L i 4) (L i 5)<;>rw[hq]at A K
   .rw[sJ (.inr rfl)]at K;refine UF F f b d g A 9 [] 29 [] 2 (i6 i) 60 13 [] λo c p s=>K o c.sat.tail.tail ω
   rw[af ξ]at K;refine Rb F f b g A 11 [] 21 [] [(8,i6 (IntKind.wrap .i64 ((↑i:Int)+1))),(23,.bool false),(22,.bool true),(21,.agg #[i6 (L i 0),i6 (L i 1),i6 (L i 2),i6 (L i 3),i6 (L i 4),i6 (L i 5)]),(7,i6 n),(6,.slice (some u) n cap),(3,i6 r),(0,.slice (some u) n cap)] 62 9 [] λa3 o c x p s mH=>?_;rw[hw]at c;replace c:=c.dB [(8,i6 ((i+1:Nat):Int)),(7,i6 n),(6,.slice (some u) n cap),(3,i6 r),(0,.slice (some u) n cap)] rfl;rw[show pc prog 25 62 (Bo 9) []=pc prog 25 17 [] [] by kernel_rfl];exact Ge F f b d hn v m (i+1) r a3 o B3 ω ω ω x ω ω ⟨c.env,c.sat.tail,c.sz⟩ λD O z2=>K D O ω
def Rj(F:aB prog W (DX I) Q)(f:HB B I)(i:n<=6)(c:0<n->∃a,sL=some a/\Has M (fR a 6 (oG L) n false))(b:Sat I w M)(a:B<=w.heap.size)(K:∀D,Sat I D M->w.heap.size<=D.heap.size->Q (G (Y.finish (i6 (cZ L n 0 0))) X) D):Q (G (Frame.enter prog 25 #[.slice sL n cap] .normal) (Y::X)) w:=by
 replace b:Sat I w (fR (sL.getD ⟨0,0,none⟩) 6 (oG L) n false::M):=by
  by_cases z:0<n
  .obtain⟨u,rfl,d⟩:=c z;exact b.get d
  .exact b.qj ξ rfl
 refine cJ func25 b 29 λU a k a a d c h g=>Rb F f a c h 17 [] 1 [] [(8,i6 0),(7,i6 n),(6,.slice sL n cap),(3,i6 0),(0,.slice sL n cap)] 17 1 [] λj g e c h h h=>?_;replace e:=e.dB [(8,i6 ((0:Nat):Int)),(7,i6 n),(6,.slice sL n cap),(3,i6 0),(0,.slice sL n cap)] rfl;exact Ge F f a d i (λz=>χ) n 0 0 j g k (bK _) ω ω c ω ω e λD a c=>K D a ω
def Rk(F:aB prog W (DX I) Q)(f:HB B I)(l:n<=9)(d:0<n->∃a,sa=some a/\Has M (fR a 2 (λj=>[i6 (g j).st,.slice (g j).ta (g j).nt (g j).tc]) n false))(k:∀j,j<n->0<(g j).nt->∃a,(g j).ta=some a/\Has M (fR a 3 (λi=>[i6 ((g j).T i 0),i6 ((g j).T i 1),i6 ((g j).T i 2)]) (g j).nt false))(b:Sat I w M)(a:B<=w.heap.size)(K:∀D,Sat I D M->w.heap.size<=D.heap.size->Q (G (Y.finish (i6 (fY g n 0))) X) D):Q (G (Frame.enter prog 26 #[.slice sa n cap] .normal) (Y::X)) w:=by
 replace b:Sat I w (fR (sa.getD ⟨0,0,none⟩) 2 (λj=>[i6 (g j).st,.slice (g j).ta (g j).nt (g j).tc]) n false::M):=by
  by_cases z:0<n
  .obtain⟨u,rfl,c⟩:=d z;exact b.get c
  .exact b.qj ξ rfl
 refine cJ func26 b 19 λU a j a a d c h g=>Rb F f a c h 13 [] 1 [] [(7,i6 0),(6,i6 n),(5,.slice sa n cap),(0,.slice sa n cap)] 13 1 [] λi g e c h h h=>?_;replace e:=e.dB [(7,i6 ((0:Nat):Int)),(6,i6 n),(5,.slice sa n cap),(0,.slice sa n cap)] rfl;exact KZ F f a d l (λz=>χ) k n 0 i g j (bK _) c ω ω e λD a c=>K D a ω
def r8(F:aB prog W (DX I) Q)(d:HB B I)(s:0<n->∃a,sL=some a/\Has M (fR a 6 (oG L) n false))(u:0<m->∃a,sa=some a/\Has M (fR a 2 (λj=>[i6 (g j).st,.slice (g j).ta (g j).nt (g j).tc]) m false))(t:∀j,j<m->0<(g j).nt->∃a,(g j).ta=some a/\Has M (fR a 3 (λi=>[i6 ((g j).T i 0),i6 ((g j).T i 1),i6 ((g j).T i 2)]) (g j).nt false))(p:Sat I w M)(a:B<=w.heap.size)(K:∀D,Sat I D M->w.heap.size<=D.heap.size->Q (G (Y.finish (.tuple #[i6 (jG n L m g).1,i6 (jG n L m g).2])) X) D):Q (G (Frame.enter prog 14 #[.slice sL n cA,.slice sa m cap] .normal) (Y::X)) w:=by
 unfold jG at K;by_cases q:6<n
 .have a:decide ((n:Int)>6)=true:=θ
  rw[sJ q]at K;refine cJ func14 p 28 λU w x r a b e l i=>TP F d a e l 18 [] 6 [] [(5,i6 0),(4,i6 1)] 18 3 [] [] [(decide ((↑n:Int)>6),true)] [] [] λv o f c h j k=>cC F f a b c [] (.tuple #[i6 1,i6 0]) ?_;exact K o f.sat ω
 rw[af q]at K;refine cJ func14 p 28 λU w x r a b e l i=>TP F d a e l 18 [] 4 [] [(11,.slice sL n cA),(0,.slice sL n cA),(1,.slice sa m cap)] 18 2 [] [] [(decide ((↑n:Int)>6),false)] [] [] λv o f c h j k=>ah F a c f 12 25 #[.slice sL n cA] λc c=>Rj F d ω s f.sat ω λe f e=>c _ _ _ f λc c o f c=>?_;by_cases p:cZ L n 0 0<n
 .have l:decide (((cZ L n 0 0:Nat):Int)<(n:Int))=true:=ξ
  rw[sJ p]at K;refine TP F d a f o 16 [] 6 [] [(5,i6 (↑(cZ L n 0 0):Int)),(4,i6 2)] 35 6 [] [] [(decide ((↑(cZ L n 0 0):Int)<(↑n:Int)),true)] [] [] λq k e c h i j=>cC F e a b c [] (.tuple #[i6 2,i6 (↑(cZ L n 0 0):Int)]) ?_;exact K k e.sat ω
 have l:decide (((cZ L n 0 0:Nat):Int)<(n:Int))=false:=ξ
 rw[af p]at K;by_cases l:9<m
 .have p:decide ((m:Int)>9)=true:=θ
  rw[sJ l]at K;refine TP F d a f o 24 [] 24 [] [(5,i6 0),(4,i6 3)] 43 12 [] [] [(decide ((↑m:Int)>9),true),(decide ((↑(cZ L n 0 0):Int)<(↑n:Int)),false)] [] [] λq k e c h i j=>cC F e a b c [] (.tuple #[i6 3,i6 0]) ?_;exact K k e.sat ω
 rw[af l]at K;refine TP F d a f o 24 [] 16 [] [(21,.slice sa m cap),(1,.slice sa m cap)] 43 8 [] [] [(decide ((↑m:Int)>9),false),(decide ((↑(cZ L n 0 0):Int)<(↑n:Int)),false)] [] [] λq k e c h i j=>ah F a c e 22 26 #[.slice sa m cap] λc c=>Rk F d ω u t e.sat ω λe f e=>c _ _ _ f λc c o e c=>?_;by_cases h:fY g m 0<m
 .have f:decide (((fY g m 0:Nat):Int)<(m:Int))=true:=ξ
  rw[sJ h]at K;refine TP F d a e o 16 [] 6 [] [(5,i6 (↑(fY g m 0):Int)),(4,i6 4)] 60 24 [] [] [(decide ((↑(fY g m 0):Int)<(↑m:Int)),true)] [] [] λp j i c k l n=>cC F i a b c [] (.tuple #[i6 4,i6 (↑(fY g m 0):Int)]) ?_;exact K j i.sat ω
 have f:decide (((fY g m 0:Nat):Int)<(m:Int))=false:=ξ
 rw[af h]at K;refine TP F d a e o 16 [] 4 [] [(5,i6 0),(4,i6 0)] 60 16 [] [] [(decide ((↑(fY g m 0):Int)<(↑m:Int)),false)] [] [] λp j i c k l n=>cC F i a b c [] (.tuple #[i6 0,i6 0]) ?_;exact K j i.sat ω
def bkU(Z:aW)(alt:List (Nat×List Hint))(F:aB P W (DX I) Q)(Nd:P.follows .mixedOrders=true)(hB:HB B I)(hk:b.kind=.normal){f g:Nat}{d:iy}{c:aN}(q:Nat)(V:List Hint)(Y:iK)(C E2:Env)(cY:iK)(eK:List (Int×Nat))(A:List (Nat×Nat))(x:List Hint)(ed:List aH->List aH)(dx:Nat)(vx:ay){ds:wN}(hd:a.defers=ds)(ht:mP (pc P f g d c)=true)(r:((aL (pc P f g d c))[q]?).map (λo=>o.guard.isNone&&o.dst.isNone)=some true)(m:((aL (pc P f g d c))[q+1]?).map (λo=>o.guard.isNone&&!lN o&&o.op.operands.all (kn []))=some true)(j:((aL (pc P f g d c))[q+1]?).map (λo=>(o.dst,cV P (execOp (ev []) o)))=some (some dx,some (.value vx)))(h:J6 P Z alt (aL (pc P f g d c)) q E M 0 0 (C.map Prod.fst) (E2.map Prod.fst) [] (ET P B N E M 0 V Y (aL (pc P f g d c)) q)=some (⟨C.map (λp=>some p.2),E2.map (λp=>some p.2),M,0,cY,eK,A,true⟩,[],true))(hq:K5 Prod.fst (ET P B N E M 0 V Y (aL (pc P f g d c)) q)=K5 Prod.snd (ET P B N E M 0 V Y (aL (pc P f g d c)) q))(halt:tT P (aL (pc P f g d c)) Z alt true (ET P B N E M 0 V Y (aL (pc P f g d c)) q)=tT P (aL (pc P f g d c)) Z alt false (ET P B N E M 0 V Y (aL (pc P f g d c)) q))(i:(MF P B C (((aL (pc P f g d c))[q]?).getD default) ⟨[],⟨x,M,0,[],[]⟩,[],[],[]⟩).map (λp=>(p.1,p.2.m.M,p.2.m.c,p.2.m.cW,p.2.cY,p.2.eK))=some (.tuple #[],ed M,0,[],[],[]))(n:(MF P B C (((aL (pc P f g d c))[q]?).getD default) ⟨[],⟨x,M,0,[],[]⟩,[],[],[]⟩).map (λp=>p.2.m.eqs.map Prod.fst)=(MF P B C (((aL (pc P f g d c))[q]?).getD default) ⟨[],⟨x,M,0,[],[]⟩,[],[],[]⟩).map (λp=>p.2.m.eqs.map Prod.snd))(UU:.inRegion (aL (pc P f g d c)) (bP (q+2) ((aL (pc P f g d c)).size-(q+2)))::behind (pc P f g d c)=pc P f (g+1) d (c++[q+2]))(KN:∀p∈cY,p.1=p.2)(Vo:∀p∈eK,0<=p.1/\p.1<(p.2:Int))(Fj:∀p∈A,p.1<p.2)(hZ:∀w,Sat I w (ed M)->Sat I w Z)(S:St I B N E M 0 a w)(K:∀a' D,St I B N ((dx,vx)::E2) (ed M) 0 a' D->a'.defers=ds->D.heap.size=B->Q (G (b.at a' (pc P f (g+1) d (c++[q+2]))) X) D):Q (G (b.at a (pc P f g d c)) X) w:=by
 have Nh:b.kind≠.early:=ξ
 have L:∃id,pc P f g d c=.code (.region id (aL (pc P f g d c)) true)::behind (pc P f g d c):=by
  unfold mP at ht;split at ht
  .rename_i e;rw[e];exact⟨_,rfl⟩
  .cases ht
 let⟨id,L⟩:=L;rw[L];generalize UY:aL (pc P f g d c)=J at*;generalize QX:behind (pc P f g d c)=k at*;cases ho:J[q]? with
 |none=>rw[ho]at r;cases r
 |some o=>
 cases R:J[q+1]? with
 |none=>rw[R]at m;cases m
 |some ox=>
 rw[ho]at r i n;rw[R]at m j;simp only[cQ]at i n;simp only[fI,Option.some.injEq,bZ,Option.isNone_iff_eq_none,mA,Prod.mk.injEq]at r m j;let⟨hg,Nl⟩:=r;let⟨⟨Uw,Qb⟩,UM⟩:=m;let⟨j,Uu⟩:=j;cases O:ET P B N E M 0 V Y J q with
 |none=>rw[O]at h;cases h
 |some rr=>
  let⟨gL,al,y⟩:=rr;rw[O]at h hq halt;simp only[J6,Option.some.injEq,Prod.mk.injEq,PX.mk.injEq,bZ]at h;let⟨⟨h1,h2,h3,h4,h5,h6,h7,h8,h9⟩,KW,KV⟩:=h;have hM:oE y:=⟨fB _ hq,ξ,ξ,χ⟩;cases hv:MF P B C o ⟨[],⟨x,M,0,[],[]⟩,[],[],[]⟩with
  |none=>rw[hv]at i;cases i
  |some vy=>
   let⟨v,y2⟩:=vy;rw[hv]at i n;simp only[fI,Option.some.injEq,Prod.mk.injEq]at i n;obtain⟨rfl,ZV,s3,s4,s5,s6⟩:=i;have hm:oE y2:=⟨fB _ n,ξ,ξ,ξ⟩;refine XT (Post:=λv U=>v=.tuple #[]/\Sat I U y2.m.M/\U.heap.size=B) (ox:=ox) (Ex:=λ_=>[]) (vx:=λ_=>vx) F Nd hB Nh (az 1) ho O hM h8 h9 halt S (λv U hp=>⟨hZ _ ξ,ω⟩) (λ_=>⟨R,KV,Uw⟩) (λv U Ze _ a hA w=>?_) (λv U _ _ e u t=>by cases t) (λa1 w1 rest z1 H z3 z4=>?_) (λM5 v U l a' w3 z1 H z3 z4 z5=>?_)
   .have T:execOp a.eval ox=execOp (ev []) ox:=execOp_congr Qb λy hy=>hA.eval (yJ.1 UM y hy);have Na:=fV _ _ Uu;exact⟨by rw[T,<-fH (es:=#[]),Na],by unfold raw Sem.events;simp_all⟩
   .have S1:St I B N C M 0 a1 w1:=⟨⟨z1.sz,λe u t=>z1.val e u (fy C _ h1 e u t)⟩,by rw[<-h3];exact H.fg _,by rw[z3,h4]⟩
    refine Fe F hB Nh ho (by simp[Region.wanted,hg]) hv hm S1.env ⟨S1.sat,S1.sz⟩ λD hI _ _=>z4 _ _ ⟨rfl,hI.sat,by have:=hI.sz;omega⟩
   .rw[UU];refine K a' w3 ⟨⟨H.sz,λe u t=>?_⟩,by rw[<-ZV];exact z1.2.1.keep z4,ω⟩ (H.DL.trans hd) ω;simp only[look]at t;cases he:(dx==e)with
    |true=>rw[he]at t;simp at he t;subst he;subst t;exact H.ext rfl (z3 (q+1) ω) _ j
    |false=>
     rw[he]at t;have:=fy E2 _ h2 e u t;rcases lM _ _ _ _ this with ⟨s,s1,s2,s3⟩|z
     .rw[<-s3];exact H.val s s1 (z3 s.i χ) e s2
     .exact H.old e u z
abbrev sK(e:eP)(ev:Nat->OZ)(el:Nat):aH:=fR (e.getD ⟨0,0,none⟩) 5 (λj=>yt (ev j)) el false
abbrev ouR(o:eP)(J:Nat->Se)(oh:yX)(n:Nat):aH:=fR (o.getD ⟨0,0,none⟩) 4 (λj=>yL (J j,oh j)) n false
abbrev Ru:aH:=oR 0 0 [.iface 233 (.agg #[.pointer (some ⟨1,136,none⟩)])] false
abbrev Yt(sa:eP)(m:Nat)(g:Nat->Cl):aH:=fR (sa.getD ⟨0,0,none⟩) 2 (λj=>[i6 (g j).st,.slice (g j).ta (g j).nt (g j).tc]) m false
abbrev Kd(g:Nat->Cl)(j:Nat):aH:=fR ((g j).ta.getD ⟨0,0,none⟩) 3 (λi=>[i6 ((g j).T i 0),i6 ((g j).T i 1),i6 ((g j).T i 2)]) (g j).nt false
def cM(sa:eP)(m:Nat)(g:Nat->Cl):List aH:=Ru::Yt sa m g::(List.range m).map (Kd g)
abbrev El(O:eP)(n:Nat)(L:oF):aH:=fR (O.getD ⟨0,0,none⟩) 6 (oG L) n false
def pY:∀r∈cM sa m g,r.wr=false:=λr a=>by
 simp only[cM,ak,gV]at a;grind
def GP:Flat (cM sa m g):=by
 rw[bO];intro r a;simp only[cM,ak,gV]at a;grind
def Yn(h:r∈C)(a:r.wr=false):Has C r:=mq.2 ⟨a,h⟩
def lD(h:∀r∈M,xE I w r/\r.wr=false):Sat I w M:=by
 refine sat_iff.2 ⟨λr a=>(h r a).1,?_⟩;refine WE λr a a a a=>?_;simp_all
def nU(a:r.wr=false)(a:r.row=none)(a:∀j,r.has j->w.cell? (r.ad j)=some (r.get j))(b:∀j,r.has j->I (r.ad j) false):xE I w r:=
 ⟨a,λj a=>⟨b j a,λz=>ξ⟩,λz=>ξ,λg e n z=>ξ⟩
def vD(h:nF w O n L)(k:∀p:Addr,O=some p->∀a:Addr,a.block=p.block->I a false):xE I w (El O n L):=by
 refine nU rfl rfl (λj c=>?_) (λj c=>?_)
 .let⟨i,f⟩:=j;let⟨g,e⟩:=c;obtain⟨b,o,rfl,d⟩:=h i g;simp only at g e;have:=d f e;simp only[cQ,ey];rw[show o+i*6+f=o+i*6+f from rfl,this];rcases f with _|_|_|_|_|_|f
  .rfl
  .rfl
  .rfl
  .rfl
  .rfl
  .rfl
  .omega
 .let⟨i,f⟩:=j;obtain⟨b,o,rfl,d⟩:=h i c.1;exact k _ rfl _ (by simp only[cQ,ey])
def zv(h:sG w sa m g)(u:w.cell? ⟨0,0,none⟩=some (.iface 233 (.agg #[.pointer (some ⟨1,136,none⟩)])))(t:TO I sa m g)(q:I ⟨0,0,none⟩ false):Sat I w (cM sa m g):=by
 refine lD λr p=>?_;refine⟨?_,pY r p⟩;simp only[cM,ak,gV]at p;rcases p with rfl|rfl|⟨j,a,rfl⟩
 .refine nU rfl rfl (λj a=>?_) (λj a=>?_)
  .let⟨i,f⟩:=j;let⟨c,d⟩:=a;simp only[gB,iT]at c d;have s:f=0:=ω
   subst s;exact u
  .let⟨i,f⟩:=j;let⟨c,d⟩:=a;simp only[gB,iT]at c d;have s:f=0:=ω
   subst s;exact q
 .refine nU rfl rfl (λj a=>?_) (λj a=>?_)
  .let⟨i,f⟩:=j;let⟨c,d⟩:=a;obtain⟨b,o,rfl,n,l,_⟩:=h i c;simp only at c d;simp only[cQ,ey];rcases f with _|_|f
   .exact n
   .exact l
   .omega
  .let⟨i,f⟩:=j;obtain⟨b,o,rfl,n,l,_⟩:=h i a.1;exact t.1 _ rfl _ (by simp only[cQ,ey])
 .have l:j<m:=aZ.1 a;let⟨_,a,_,_,_,m⟩:=h j l;refine nU rfl rfl (λk a=>?_) (λk a=>?_)
  .let⟨i,f⟩:=k;let⟨c,d⟩:=a;let⟨b,o,e,h⟩:=m i c;simp only at c d;have:=h f d;show w.cell? ((((g j).ta.getD ⟨0,0,none⟩).add (i*3)).add f)=some (List.getD [i6 ((g j).T i 0),i6 ((g j).T i 1),i6 ((g j).T i 2)] f undef);rw[e];simp only[cQ,ey];grind
  .let⟨i,f⟩:=k;let⟨b,o,e,h⟩:=m i a.1;have b:=a.1;show I ((((g j).ta.getD ⟨0,0,none⟩).add (i*3)).add f) false;rw[e];exact t.2 j l χ _ e _ (by simp only[cQ,ey])
def Sat.ZL{s:PS}(h:Sat I w (pM s++C)):Sat I w (sK s.ea s.l.ev s.l.el::ouR (some ⟨s.k.O,0,none⟩) s.l.ou s.oh s.k.V.nc::C):=by
 have c:Sat I w ([vR s.ea 5 (λj=>yt (s.l.ev j)) s.l.el s.ec 73,fR ⟨s.k.O,0,none⟩ 4 (λj=>yL (s.l.ou j,s.oh j)) s.k.V.nc true]++C):=h.sub (D7 (by
  show List.Sublist [_,_] [_,_,_,_,_,_,_];exact .cons _ (.cons _ (.cons _ (.cons_cons _ (.cons _ (.cons _ (.cons_cons _ .slnil))))))) C)
 have b:=c.G7 0 rfl (sK s.ea s.l.ev s.l.el) (λj a=>⟨a,rfl,rfl⟩) (λz=>by cases z) rfl;exact b.G7 1 rfl (ouR (some ⟨s.k.O,0,none⟩) s.l.ou s.oh s.k.V.nc) (λj a=>⟨a,rfl,rfl⟩) (λz=>by cases z) rfl
def Sat.Wp{b:Nat}(h:Sat I w M)(l:∀j,j<vs.length->w.cell? ⟨b,j,none⟩=some (vs.getD j undef))(k:∀j wr,I ⟨b,j,none⟩ wr)(m:∀j,j<vs.length->w.frozen? ⟨b,j,none⟩=false)(o:∀r∈M,∀j,r.has j->∀i,i<vs.length->r.ad j≠⟨b,i,none⟩):Sat I w (bR b vs::M):=by
 refine sat_iff.2 ⟨λr d=>?_,iG.2 ⟨λr d i j f a c e=>?_,(sat_iff.1 h).2⟩⟩
 .rcases ak.1 d with rfl|d
  .refine⟨λj a=>?_,λj a=>⟨k _ _,λ_=>⟨k _ _,m _ a.2⟩⟩,λ_ j f a c e=>?_,λg e n z=>(by cases z)⟩
   .rw[show(bR b vs).ad j=⟨b,j.2,none⟩from rfl,l j.2 a.2];congr 1;have b:j.2<vs.length:=a.2;unfold aH.get;grind
   .have b:j.1<1:=a.1;have b:f.1<1:=c.1;grind
  .exact(sat_iff.1 h).1 r d
 .exact o r d f c j.2 a.2 e.symm
def Sat.abg{b:Nat}(h:Sat I w M)(a:∀j,j<vs.length->w.cell? ⟨b,j,none⟩=some (vs.getD j undef))(c:∀j wr,I ⟨b,j,none⟩ wr)(d:∀j,j<vs.length->w.frozen? ⟨b,j,none⟩=false):∃C,Sat I w (bR b vs::C)/\∀r,Has M r->(∀j,r.has j->∀i,i<vs.length->r.ad j≠⟨b,i,none⟩)->Has C r:=by
 classical
 refine⟨M.filter λr=>decide (∀j,r.has j->∀i,i<vs.length->r.ad j≠⟨b,i,none⟩),(h.sub List.filter_sublist).Wp a c d λr a=>?_,λr a b=>?_⟩
 .simp_all
 .let⟨c,b⟩:=mq.1 a;exact mq.2 ⟨c,mK.2 ⟨b,ξ⟩⟩
def Ba:∀{E:Env}{n:Nat}{v:ay},look E n=some v->(n,v)∈E
 |[],n,v,h=>by cases h
 |(d,u)::E,n,v,h=>by
  simp only[look]at h;by_cases e:d=n
  .simp_all
  .have a:(d==n)=false:=ξ
   rw[a]at h;exact aP _ (Ba h)
def aR.sub{b:Env}(h:aR E N a)(c:∀p∈b,look E p.1=some p.2):aR b N a:=⟨h.sz,λn v a=>h.val n v (c (n,v) (Ba a))⟩
def Iw(w:aj):Old w w:=⟨rfl,rfl,rfl,az _,λ_ _=>rfl⟩
def Fg{a b c:aj}(h:Old a b)(k:Old b c):Old a c:=⟨k.1.trans h.1,k.2.1.trans h.2.1,k.2.2.1.trans h.2.2.1,aT h.2.2.2.1 k.2.2.2.1,λi a=>(k.2.2.2.2 i (ga a h.2.2.2.1)).trans (h.2.2.2.2 i a)⟩
theorem zw{V:Ev0}{L:LS}(R:wM V)(T:yI V L)(Q:Fin V Z m none L)(m:0<ng)(L:∀x∈l,x<w.heap.size){dL:p9}{nj:bU}(F:Sj V sa dL nj M)(u:0<V.nl->∃c,sL=some c/\Has M (fR c 6 (λi=>EV (V.ly i)) V.nl false))(S:Sat (cP wI.heap.size l []) w M)(q:O3 (cP w.heap.size l []) (nM prog Post (Old w) (jq l) ng) w.heap.size M 14 #[.slice sL V.nl cA,.slice sa V.nc cap] (.tuple #[i6 0,i6 0]))(K:∀(c:LS),Z c->∀(b A:Nat)(o:Nat)(i:eP)(x:Nat)(v:yX)(C:aW)(D:aj),0<b->w.heap.size<=A->A<D.heap.size->(0<V.nc->w.heap.size<=o)->Old w D->Old wI D->((0<c.el->∃a,i=some a)/\c.el<=x)->Sat (cP wI.heap.size (A::l) []) D (sK i c.ev c.el::ouR (some ⟨o,0,none⟩) c.ou v V.nc::C)->(∀r,Has M r->Has C r)->(∀j,j<V.nc->fu C (v j) (c.ou j).b.ch)->
 nM prog Post (Old wI) (jq (A::l)) b (G (Y.finish (.tuple #[.agg #[.slice (some ⟨o,0,none⟩) V.nc V.nc,.slice i c.el x],i6 0,i6 0])) X) D):
 nM prog Post (Old wI) (jq l) ng (G (Frame.enter prog 15 #[.slice sL V.nl cA,.slice sa V.nc cap] .normal) (Y::X)) w:=by
 refine At.assume gN λt=>At.keep (K':=Old w) (λd=>Iw w) ?_;have p:wI.heap.size<=w.heap.size:=t.2.2.2.1;refine Pm R T Q m L F u (S.OB (λr e j E h=>⟨h.1,λz=>by cases z⟩) (λr e n=>by rw[F.ro r e]at n;cases n)) q λb A s C D P O N J I f B y H k=>?_;subst I;refine At.keep (λd=>Fg t f) ?_;have U:Sat (cP wI.heap.size (A::l) []) D (pM s++C):=B.OB (λr e j E h=>⟨h.1,λz=>by cases z⟩) (λr e n j E h=>⟨h.1,λz=>⟨aT p (h.2 z).1,(h.2 z).2⟩⟩);exact K s.l J b A s.k.O s.ea s.ec s.oh C D P O N (λz=>(((B.ok 6 (fR ⟨s.k.O,0,none⟩ 4 (λj=>yL (s.l.ou j,s.oh j)) s.k.V.nc true) rfl (0,0) ⟨z,(by decide:0<4)⟩).2 rfl).1.2 rfl).1) f (Fg t f) ⟨(λz=>by
  rcases y.jr.row with ⟨_,a,_⟩|⟨g,a,_⟩
  .omega
  simp_all),y.jr.le⟩ U.ZL H k
def iX(c:∀A∈l,A<N)(c:N0<=N){a:Addr}(c:N<=a.block)(wr:Bool):cP N0 l [] a wr:=
 ⟨fun⟨A,a,z⟩=>χ,λ_=>⟨ω,fun⟨p,b,z⟩=>by cases b⟩⟩
def RP(h:jG n L m g≠(0,0)):(jG n L m g).1≠0:=by
 unfold jG at h ⊢;grind
structure Ds(wI:aj)(O:eP)(n:Nat)(L:oF)(sa:eP)(m:Nat)(g:Nat->Cl):Prop where
 hL:nF wI O n L
 bL:∀p:Addr,O=some p->p.block<wI.heap.size
 hC:sG wI sa m g
 bC:∀p:Addr,sa=some p->p.block<wI.heap.size
 bT:∀i,i<m->0<(g i).nt->∀p:Addr,(g i).ta=some p->p.block<wI.heap.size
 i0:0<wI.heap.size
 hg:wI.cell? ⟨0,0,none⟩=some (.iface 233 (.agg #[.pointer (some ⟨1,136,none⟩)]))
def I4(h:sG w sa m g)(a:Old w D):sG D sa m g:=λi c=>by
 let⟨b,o,e,g,d,f⟩:=h i c;exact⟨b,o,e,a.cell _ _ g,a.cell _ _ d,λj c=>by
  let⟨b,o,e,d⟩:=f j c;exact⟨b,o,e,λk b=>a.cell _ _ (d k b)⟩⟩
def IJ(h:nF w sa n L)(c:Old w D):nF D sa n L:=λi a=>by
 let⟨b,o,e,d⟩:=h i a;exact⟨b,o,e,λk a=>c.cell _ _ (d k a)⟩
def jN{a:Addr}(h:a.block∉l):cP N0 l [] a false:=
 ⟨fun⟨A,a,z⟩=>h χ,λz=>by cases z⟩
theorem Ds.rd(h:Ds wI O n L sa m g)(b:∀B∈l,wI.heap.size<=B):TO (cP N0 l []) sa m g:=⟨λp b a d=>jN λz=>by have:=h.bC p b;grind,λi c e p b a d=>jN λz=>by have:=h.bT i c e p b;grind⟩
def Q3(_ j:Nat):Int:=match j with|0=>1|1=>7|_=>3
abbrev CN(t:Nat)(_:Nat):Cl:=⟨5,some ⟨t,0,none⟩,1,1,Q3⟩
def Xy(t:Nat):jG 0 (λ_ _=>0) 1 (CN t)=(0,0):=ρ
def Oe(V:Ev0):yI V (ko V):=⟨rfl,rfl,λ_ _=>⟨rfl,rfl,rfl,rfl⟩,λ_=>rfl,λ_=>rfl,rfl,λ_=>rfl,rfl,rfl,λ_ _=>⟨rfl,rfl,rfl,rfl,rfl⟩⟩
theorem F5(U8:0<ng)(P:∀x∈l,0<x/\x<wI.heap.size)(hg:wI.cell? ⟨0,0,none⟩=some (.iface 233 (.agg #[.pointer (some ⟨1,136,none⟩)])))(i0:0<wI.heap.size)(hO:Old wI w)(K:∀l' J D,0<J->(∀x∈l',(x∈l\/wI.heap.size<=x)/\x<D.heap.size)->Old wI D->nM prog Post (Old wI) (jq l') J (G (Y.finish (.bool true)) X) D):nM prog Post (Old wI) (jq l) ng (G (Frame.enter prog 23 #[] .normal) (Y::X)) w:=by
 have F:=nA (P:=prog) (Post:=Post) (wI:=wI) (l:=l) ng;have m:wI.heap.size<=w.heap.size:=hO.2.2.2.1;have C:∀(a:Addr)(wr:Bool),w.heap.size<=a.block->cP wI.heap.size l [] a wr:=λa wr z=>iX (λx f=>by have:=P x f;omega) m z wr;have hS:Sat (cP wI.heap.size l []) w []:=lD λr v=>by cases v
 have s:w.heap.size<=w.heap.size:=az _;generalize hB0:w.heap.size=B at C s m;rw[<-hB0]at s;replace s:B<=w.heap.size:=ω
 refine cJ func23 hS 59 λU a0 b hn q qh tN S0 P9=>aq (λM=>bR (b+1) [i6 5,.slice (some ⟨b,0,none⟩) 1 1]::(bR (b) [i6 1,i6 7,i6 3]::(M))) 2 F C q tN S0 10 [] 1 [] [(9,.slice (some ⟨b+1,0,none⟩) 1 1)] 10 1 [] λa1 W S1 Nt zS Dx o9=>?_;have Q:sG W (some ⟨b+1,0,none⟩) 1 (CN b):=λi hi=>by
  have e:i=0:=ω
  subst e;refine⟨b+1,0,rfl,S1.sat.val 0 _ rfl (0,0) ⟨aD,(by decide:0<2)⟩,S1.sat.val 0 _ rfl (0,1) ⟨aD,(by decide:1<2)⟩,λj A=>?_⟩;have e:j=0:=ξ
  subst e;refine⟨b,0,rfl,λk hk=>?_⟩;have:=S1.sat.val 1 _ rfl (0,k) ⟨aD,hk⟩;rw[show(⟨b,0+0*3+k,none⟩:Addr)=⟨b,k,none⟩ by simp];refine this.trans (cT some ?_);have Nh:k=0\/k=1\/k=2:=ω
  rcases Nh with rfl|rfl|rfl<;>rfl
 have O:∀N:Nat,TO (cP N l []) (some ⟨b+1,0,none⟩) 1 (CN b):=λN=>⟨λp y a ha=>jN λz=>by have:=P _ z;cases y;dsimp only at ha;omega,λi hi h0 p y a ha=>jN λz=>by have:=P _ z;cases y;dsimp only at ha;omega⟩
 refine Af F q 10 15 #[.slice none 0 0,.slice (some ⟨b+1,0,none⟩) 1 1] ρ ρ δ S1 λcR R=>At.assume gN λhO3=>?_;have VR:Sat (cP wI.heap.size l []) W (cM (some ⟨b+1,0,none⟩) 1 (CN b)):=zv Q (hO3.cell _ _ hg) (O _) (jN λz=>by have:=(P _ z).1;exact absurd this (Ap 0));have d:∀r∈cM (some ⟨b+1,0,none⟩) 1 (CN b),Has (cM (some ⟨b+1,0,none⟩) 1 (CN b)) r:=λr v=>Yn v (pY r v);have n:∀x∈l,x<W.heap.size:=λx f=>by have:=P x f;omega
 refine zw (V:=nC 0 (λ_ _=>0) 1 (CN b)) (M:=cM (some ⟨b+1,0,none⟩) 1 (CN b)) (dL:=λ_=>some ⟨b,0,none⟩) (nj:=λ_=>1) (sL:=none) (cA:=0) (sa:=some ⟨b+1,0,none⟩) (cap:=1) (zl (Xy b)) (Oe _) Xs U8 n ⟨λr v=>pY r v,GP,λ_=>⟨_,rfl,d _ (aP _ (bI ..))⟩,λc hc _=>⟨_,rfl,?_⟩,d _ (bI ..)⟩ (λz=>absurd z (Ap 0)) VR (λBL yR D M' S VO LM KK=>?_) λX1 hX1 I V Z ea1 T H C1 g k1 k2' k3 k3o k4 k5 k6 k7 k8 k9=>R _ _ _ λa4 t o=>?_
 .have e:c=0:=by have:c<1:=hc;omega
  subst e;exact d (Kd (CN b) 0) (aP _ (aP _ (gV.2 ⟨0,aZ.2 δ,rfl⟩)))
 .exact r8 (n:=0) (m:=1) (L:=λ_ _=>0) (g:=CN b) (nA ng) (λa wr z=>iX (N:=W.heap.size) n (az _) z wr) (λz=>ω) (λ_=>⟨_,rfl,S _ (d _ (aP _ (bI ..)))⟩) (λj A _=>⟨_,rfl,S _ (by
   have e:j=0:=ω
   subst e;exact d (Kd (CN b) 0) (aP _ (aP _ (gV.2 ⟨0,aZ.2 δ,rfl⟩))))⟩) VO LM (by rw[Xy];exact KK)
 clear F;have F:=nA (P:=prog) (Post:=Post) (wI:=wI) (l:=V::l) I;let⟨f1,f2,f3⟩:=end_1 hX1;replace o:=o.trans Nt;obtain⟨ea,rfl⟩:=k6.1 ω;obtain⟨u,E,hoh⟩:∃u E,H 0=.slice u 0 E:=by
  have:=k9 0 aD;rw[f1]at this;rcases this with ⟨z,_⟩|⟨ca,cap,i,z,_⟩
  .simp_all
  simp_all
 rw[f2]at t k7;have h7:=(k7.sub (M':=[_,_]) (.cons_cons _ (.cons_cons _ (List.nil_sublist _)))).G7 0 rfl (fR ea 5 (λj=>if j=1 then[i6 8,i6 0,i6 (-1),i6 2,i6 0]else yt (X1.ev j)) 2 false) (λj A=>⟨A,rfl,by
  show(if j.1=1 then[i6 8,i6 0,i6 (-1),i6 2,i6 0]else yt (X1.ev j.1)).getD j.2 undef=(yt (X1.ev j.1)).getD j.2 undef;split
  .rename_i e;rw[e,f3];rfl
  .rfl⟩) (λz=>by cases z) rfl
 have h8:=h7.G7 1 rfl (fR ⟨Z,0,none⟩ 4 (λ_=>[i6 8,i6 1,i6 7,.slice u 0 E]) 1 false) (λj A=>⟨A,rfl,by
  have e:j.1=0:=by have:j.1<1:=A.1;omega
  show List.getD [i6 8,i6 1,i6 7,.slice u 0 E] j.2 undef=(yL (X1.ou j.1,H j.1)).getD j.2 undef;rw[e,hoh,f1];rfl⟩) (λz=>by cases z) rfl
 have S4:St (cP wI.heap.size (V::l) []) g.heap.size 59 [(10,.tuple #[.agg #[.slice (some ⟨Z,0,none⟩) 1 1,.slice (some ea) 2 T],i6 0,i6 0])] [fR ea 5 (λj=>if j=1 then[i6 8,i6 0,i6 (-1),i6 2,i6 0]else yt (X1.ev j)) 2 false,fR ⟨Z,0,none⟩ 4 (λ_=>[i6 8,i6 1,i6 7,.slice u 0 E]) 1 false] 0 a4 g:=⟨t.sub (by intro p y;simp only[ak,bH,or_false]at y;subst y;rfl),h8,rfl⟩;have L:wI.heap.size<=g.heap.size:=k5.2.2.2.1;clear C;have h:∀x∈V::l,(x∈l\/wI.heap.size<=x)/\x<g.heap.size:=λx f=>by
  rcases ak.1 f with rfl|f
  .exact⟨.inr ω,ω⟩
  .exact⟨.inl f,by have:=n x f;omega⟩
 have C:∀(a:Addr)(wr:Bool),g.heap.size<=a.block->cP wI.heap.size (V::l) [] a wr:=λa wr z=>iX (N:=g.heap.size) (λx f=>(h x f).2) L z wr;have Bj:g.heap.size=g.heap.size:=rfl;clear t k7 k8 k9 R h7 h8;generalize hB4:g.heap.size=B4 at S4 Bj C h;refine oH (λM=>bR (B4+1) [i6 8,i6 1,i6 7,.slice u 0 E]::(bR (B4) [.slice (some ⟨Z,0,none⟩) 1 1,.slice (some ea) 2 T]::(M))) 2 F C q qh o S4 69 [0,0,0,2,0,0,0,2,0,0,0,1,2,0,0,4,0,0,0,4,0,0,0,4,1,0,1,1,2,1,0,5] 35958428274349397 [] 0 (.bool true) 80 2 [] [] [] [(1,2),(0,1)] [] λw5 S5 Y5 Dw=>At.assume gN λXh=>K (V::l) I w5 k1 (λx f=>⟨(h x f).1,by have:=(h x f).2;omega⟩) Xh
theorem Ds.sat(H:Ds wI O n L sa m g)(d:∀x∈l,wI.heap.size<=x)(c:Old wI w):Sat (cP N0 l []) w (El O n L::cM sa m g):=lD λr b=>by
 rcases ak.1 b with rfl|b
 .exact⟨vD (IJ H.hL c) λp e a a=>jN λz=>by have:=H.bL p e;grind,rfl⟩
 .exact⟨(zv (I4 H.hC c) (c.cell _ _ H.hg) (H.rd d) (jN λz=>by have h:wI.heap.size<=0:=d _ z;have:=H.i0;omega)).mem b,pY r b⟩
theorem Ds.lt(H:Ds wI O n L sa m g)(b:r∈El O n L::cM sa m g){j:Nat×Nat}(c:r.has j):(r.ad j).block<wI.heap.size:=
 au (((H.sat (N0:=0) (l:=[]) (λx a=>by cases a) (Iw wI)).mem b).val j c)
def Ds.ro(a:r∈El O n L::cM sa m g):r.wr=false:=by
 rcases ak.1 a with rfl|a
 .rfl
 .exact pY r a
theorem Ds.q1(H:Ds wI O n L sa m g):0<n->∃a,O=some a/\Has (El O n L::cM sa m g) (fR a 6 (oG L) n false):=λz=>by
 obtain⟨b,o,rfl,_⟩:=H.hL 0 z;exact⟨_,rfl,Yn (bI ..) rfl⟩
theorem Ds.q2(H:Ds wI O n L sa m g):0<m->∃a,sa=some a/\Has (El O n L::cM sa m g) (fR a 2 (λj=>[i6 (g j).st,.slice (g j).ta (g j).nt (g j).tc]) m false):=λz=>by
 obtain⟨b,o,rfl,_⟩:=H.hC 0 z;exact⟨_,rfl,Yn (aP _ (aP _ (bI ..))) rfl⟩
theorem Ds.q3(H:Ds wI O n L sa m g):∀j,j<m->0<(g j).nt->∃a,(g j).ta=some a/\Has (El O n L::cM sa m g) (fR a 3 (λi=>[i6 ((g j).T i 0),i6 ((g j).T i 1),i6 ((g j).T i 2)]) (g j).nt false):=λj a z=>by
 let⟨_,_,_,_,_,c⟩:=H.hC j a;let⟨b,o,e,_⟩:=c 0 z;refine⟨_,e,?_⟩;have:=Yn (C:=El O n L::cM sa m g) (r:=Kd g j) (aP _ (aP _ (aP _ (gV.2 ⟨j,aZ.2 a,rfl⟩)))) rfl;grind
def Yx(a:jG n L m g≠(0,0)):(1<=(jG n L m g).1/\(jG n L m g).1<=4)/\0<=(jG n L m g).2/\(jG n L m g).2<=8:=by
 unfold jG at a ⊢;grind
def HP(F:aB prog true (DX I) Q)(n:HB B I)(b:U.kind=.normal)(l:U.fn=8){m:Act}{g:aj}{f d:Nat}(j:m.defers=[])(o:B<=d){c i:Int}(o:1<=c/\c<=4)(o:0<=i/\i<=8)(e:St I d 70 [(12,i6 i),(11,i6 c),(10,ptr d),(9,i6 i),(8,i6 c),(7,.bool true),(4,ptr f)] (bR d [.slice none 0 0,.slice none 0 0]::bR f [.slice none 0 0,.slice none 0 0]::M) 1 m g)(K:∀D,g.heap.size<=D.heap.size->Q (G (Y.finish (.tuple #[.agg #[.slice none 0 0,.slice none 0 0],.bool false,.bool true])) X) D):Q (G (U.at m (pc prog 8 44 [true] [])) (Y::X)) g:=by
 replace e:=St.mk (c:=0) (B:=d+1) e.env e.sat e.sz;have g:i=0\/i=1\/i=2\/i=3\/i=4\/i=5\/i=6\/i=7\/i=8:=ω
 have k:c=1\/c=2\/c=3\/c=4:=ω
 have c:=e.sz;rcases g with rfl|rfl|rfl|rfl|rfl|rfl|rfl|rfl|rfl<;>rcases k with rfl|rfl|rfl|rfl
 all_goals
  refine bkU [oR d 0 [.slice none 0 0,.slice none 0 0] false] [(19,[]),(20,[(0,(0,1),true)]),(21,[]),(22,[]),(23,[])] F aK (λa wr z=>n a wr ω) b 24 (Hq [0,0,0,2,0,0,0,2]) [(true,true),(true,true),(true,true),(true,true),(true,true),(true,true),(true,true),(true,true),(true,true),(true,true),(true,true),(true,true),(true,true),(true,true)] [(30,.agg #[.slice none 0 0,.slice none 0 0]),(4,ptr f)] [(53,.bool true),(4,ptr f)] [] [] [] (Hq [1,0,0,2]) (λM=>bh 1 (0,1) (.slice none 0 0) (bh 1 (0,0) (.slice none 0 0) (M))) 5 (.bool false) j ρ ρ ρ ρ ρ ρ ρ ρ ρ ρ eU eU eU (λw h=>(h.sub (M':=[bR d [.slice none 0 0,.slice none 0 0]]) (.cons_cons _ (List.nil_sublist _))).fix) e λa a d a c=>Rb F n b a d 2 [] 1 [] [(6,.bool true),(5,.bool false),(4,ptr f)] 47 3 [26] λa c f a d d d=>cC F f b l a [1,0,0,2] (.tuple #[.agg #[.slice none 0 0,.slice none 0 0],.bool false,.bool true]) ?_;exact K c ω
theorem ES{w0:aj}(H:Ds w0 O n L sa m g)(hO0:Old w0 wI)(U8:0<ng)(hl:∀x∈l,w0.heap.size<=x/\x<wI.heap.size)(hZ:jG n L m g=(0,0)->Fin (nC n L m g) Z 80001 none (ko (nC n L m g)))(K0:jG n L m g≠(0,0)->∀l' Q D,0<Q->(∀x∈l',(x∈l\/wI.heap.size<=x)/\x<D.heap.size)->Old wI D->nM prog Post (Old wI) (jq l') Q (G (Y.finish (.tuple #[.agg #[.slice none 0 0,.slice none 0 0],.bool false,.bool true])) X) D)(K1:jG n L m g=(0,0)->∀v,Z v->∀l' Q (o:Nat) V ec oh C D,0<Q->(∀x∈l',(x∈l\/wI.heap.size<=x)/\x<D.heap.size)->Old wI D->((0<v.el->∃a,V=some a)/\v.el<=ec)->Sat (cP wI.heap.size l' []) D C->Has C (sK V v.ev v.el)->Has C (ouR (some ⟨o,0,none⟩) v.ou oh m)->(∀j,j<m->fu C (oh j) (v.ou j).b.ch)->(∀r∈El O n L::cM sa m g,Has C r)->nM prog Post (Old wI) (jq l') Q (G (Y.finish (.tuple #[.agg #[.slice (some ⟨o,0,none⟩) m m,.slice V v.el ec],.bool true,.bool true])) X) D):
 nM prog Post (Old wI) (jq l) ng (G (Frame.enter prog 8 #[.slice O n R,.slice sa m cap] .normal) (Y::X)) wI:=by
 have F:=nA (P:=prog) (Post:=Post) (wI:=wI) (l:=l) ng;have hs0:w0.heap.size<=wI.heap.size:=hO0.2.2.2.1;have G:=H.i0;have y:∀(a:Addr)(wr:Bool),wI.heap.size<=a.block->cP wI.heap.size l [] a wr:=λa wr z=>iX (λx b=>(hl x b).2) (az _) z wr;have hS:Sat (cP wI.heap.size l []) wI []:=lD λr w=>by cases w
 refine cJ func8 hS 70 λU G k G t qh G Z Q=>aq (λM=>bR (k) [.slice none 0 0,.slice none 0 0]::(M)) 1 F y t G Z 8 [] 1 [] [(4,ptr k),(0,.slice O n R),(1,.slice sa m cap)] 8 1 [] λG G S1 Z Q Q Q=>Af F t 14 23 #[] ρ ρ δ S1 λcR T=>At.assume gN λQ=>At.keep (K':=Old G) (λd=>Iw G) ?_;refine F5 (wI:=G) U8 (λx b=>by have:=hl x b;omega) ((Fg hO0 Q).cell _ _ H.hg) ω (Iw G) λE ng1 P aaK u K=>?_;have hl1:∀x∈E,w0.heap.size<=x/\x<P.heap.size:=λx b=>⟨by
  rcases(u x b).1 with z|z
  .exact(hl x z).1
  .omega,(u x b).2⟩
 have hlB:∀x∈E,x≠k:=λx b=>by
  rcases(u x b).1 with z|z
  .have:=hl x z;omega
  .omega
 have hO2:=Fg Q K;refine At.keep (K':=Old wI) (λd=>hO2) ?_;refine T _ _ _ λa2 OR DF=>?_;replace DF:=DF.trans Z;clear F T;have F:=nA (P:=prog) (Post:=Post) (wI:=wI) (l:=E) ng1;have d:G.heap.size<=P.heap.size:=K.2.2.2.1;clear y;have y:∀(a:Addr)(wr:Bool),P.heap.size<=a.block->cP wI.heap.size E [] a wr:=λa wr z=>iX (N:=P.heap.size) (λx b=>(hl1 x b).2) ω z wr;have hsB:∀l:List Nat,(∀x∈l,x≠k)->∀j wr,cP wI.heap.size l [] ⟨k,j,none⟩ wr:=λl hl j wr=>⟨(jN (N0:=0) (l:=l) (a:=⟨k,j,none⟩) λz=>hl _ z rfl).1,λ_=>⟨by show wI.heap.size<=k;omega,fun⟨p,hp,z⟩=>by cases hp⟩⟩
 have d:∀j,j<2->P.cell? ⟨k,j,none⟩=some ([Value.slice none 0 0,.slice none 0 0].getD j undef):=λj h=>by
  refine K.cell _ _ ?_;refine(S1.sat.val 0 _ rfl (0,j) ⟨aD,h⟩).trans (cT some ?_);rfl
 have l:∀j,j<2->P.frozen? ⟨k,j,none⟩=false:=λj h=>(World.frozen?_of_block (K.2.2.2.2 k ω)).trans ((S1.sat.ok 0 _ rfl (0,j) ⟨aD,h⟩).2 rfl).2;have h2:Sat (cP wI.heap.size E []) P (bR k [.slice none 0 0,.slice none 0 0]::El O n L::cM sa m g):=(H.sat (λx b=>(hl1 x b).1) (Fg hO0 hO2)).Wp d (hsB E hlB) l λr w j h i hi e=>by
  have:=H.lt w h;rw[e]at this;have:k<w0.heap.size:=this;omega
 have S2:St (cP wI.heap.size E []) P.heap.size 70 [(14,.bool true),(0,.slice O n R),(1,.slice sa m cap),(4,ptr k)] (bR k [.slice none 0 0,.slice none 0 0]::El O n L::cM sa m g) 0 a2 P:=⟨OR.sub (by intro p hp;simp only[ak,bH,or_false]at hp;rcases hp with rfl|rfl|rfl|rfl<;>rfl),h2,rfl⟩;have tM:P.heap.size=P.heap.size:=rfl;have q1:=H.q1;have q2:=H.q2;have q3:=H.q3;have M6:∀r∈El O n L::cM sa m g,r.wr=false:=λr w=>Ds.ro w;have d:∀r∈El O n L::cM sa m g,∀j,r.has j->(r.ad j).block<wI.heap.size:=λr w j h=>ga (H.lt w h) hs0;generalize hM:El O n L::cM sa m g=M at*;generalize hB2:P.heap.size=d at S2 tM y;refine Rb F y t DF S2 6 [] 1 [] [(17,.slice sa m cap),(16,.slice O n R),(7,.bool true),(0,.slice O n R),(1,.slice sa m cap),(4,ptr k)] 15 1 [] λd d l d G G G=>ah F t d l 18 14 #[.slice O n R,.slice sa m cap] λd d=>r8 F y (λz=>by let⟨a,J,B⟩:=q1 z;exact⟨a,J,B.cons⟩) (λz=>by let⟨a,J,B⟩:=q2 z;exact⟨a,J,B.cons⟩) (λj h z=>by let⟨a,J,B⟩:=q3 j h z;exact⟨a,J,B.cons⟩) l.sat ω λl G l=>d _ _ _ G λd d S4 Vx d=>?_;by_cases I:jG n L m g=(0,0)
 .rw[I]at S4;refine Rb F y t Vx S4 10 [] 1 [] [(23,.slice sa m cap),(22,.slice O n R),(9,i6 0),(8,i6 0),(7,.bool true),(1,.slice sa m cap),(4,ptr k)] 26 1 [] λa5 w5 S5 Yv Y5 Dw qO=>Af F t 24 15 #[.slice O n R,.slice sa m cap] ρ ρ δ S5 λcR T=>At.assume gN λd=>?_;have Xi:Sj (nC n L m g) sa (λj=>(g j).ta) (λj=>(g j).tc) M:=⟨M6,by
   subst hM;rw[bO];intro r w;rcases ak.1 w with rfl|w
   .rfl
   .exact(bO.1 GP) r w,q2,q3,by
   subst hM;exact Yn (aP _ (bI ..)) rfl⟩
  have d:∀x∈E,x<w5.heap.size:=λx b=>χ
  refine zw (V:=nC n L m g) (zl I) (Oe _) (hZ I) aaK d (sL:=O) (sa:=sa) (cA:=R) (cap:=cap) Xi q1 S5.sat.tail (λBL yR D M' W VO LM KK=>?_) λv hLf W9 A o V ec oh C N k1 l l k3o k4 l k6 k7 k8 k9=>T _ _ _ λa6 TF S=>?_
  .exact r8 (n:=n) (m:=m) (L:=L) (g:=g) (nA ng1) (λa wr z=>iX (N:=w5.heap.size) d (az _) z wr) (λz=>χ) (λz=>χ) (λj h z=>by let⟨a,J,B⟩:=q3 j h z;grind) VO LM χ
  replace S:=S.trans Yv;clear F T;have F:=nA (P:=prog) (Post:=Post) (wI:=wI) (l:=A::E) W9;have d:w5.heap.size<=N.heap.size:=k4.2.2.2.1;have hl6:∀x∈A::E,w0.heap.size<=x/\x<N.heap.size:=λx b=>by
   rcases ak.1 b with rfl|b
   .omega
   grind
  clear y;have y:∀(a:Addr)(wr:Bool),N.heap.size<=a.block->cP wI.heap.size (A::E) [] a wr:=λa wr z=>iX (N:=N.heap.size) (λx b=>(hl6 x b).2) ω z wr;have hv6:∀j,j<2->N.cell? ⟨k,j,none⟩=some ([Value.slice none 0 0,.slice none 0 0].getD j undef):=λj h=>by
   refine k4.cell _ _ ?_;refine(S5.sat.val 0 _ rfl (0,j) ⟨aD,h⟩).trans (cT some ?_);rfl
  have hf6:∀j,j<2->N.frozen? ⟨k,j,none⟩=false:=λj h=>(World.frozen?_of_block (k4.2.2.2.2 k ω)).trans ((S5.sat.ok 0 _ rfl (0,j) ⟨aD,h⟩).2 rfl).2;have sl:∀i,i<2->∃s p q,N.cell? ⟨k,i,none⟩=some (Value.slice s p q):=λi hi=>by
   rw[hv6 i hi];have KG:i=0\/i=1:=ω
   rcases KG with rfl|rfl<;>exact⟨_,_,_,rfl⟩
  let⟨C',h6,hC'⟩:=Sat.abg (b:=k) (vs:=[.slice none 0 0,.slice none 0 0]) k7 hv6 (hsB (A::E) λx b=>by
   rcases ak.1 b with rfl|b
   .omega
   .exact hlB x b) hf6
  have c1:Has C' (sK V v.ev v.el):=hC' _ (Yn (bI ..) rfl) λj h i hi e=>by
   have hv:=(k7.mem (bI ..)).val j h;let⟨s,p,q,z⟩:=sl i hi;rw[e,z]at hv;let⟨j,f⟩:=j;have hf:f<5:=h.2;have Wm:f=0\/f=1\/f=2\/f=3\/f=4:=ω
   rcases Wm with rfl|rfl|rfl|rfl|rfl<;>cases hv
  have c2:Has C' (ouR (some ⟨o,0,none⟩) v.ou oh m):=hC' _ (Yn (aP _ (bI ..)) rfl) λj h i hi e=>by
   have d:=k3o (by have:j.1<m:=h.1;show 0<m;omega);have hb:(((⟨o,0,none⟩:Addr).add (j.1*4)).add j.2).block=k:=cT Addr.block e;rw[add_add]at hb;grind
  have c3:∀j,j<m->fu C' (oh j) (v.ou j).b.ch:=λj h=>by
   rcases k9 j h with z|⟨ca,cp,i,J,B⟩
   .exact .inl z
   .have d:Has C (gQ ca (v.ou j).b.ch):=⟨rfl,i,B⟩
    let⟨_,i',KG⟩:=hC' _ d.cons.cons λj h i hi e=>by
     have hv:=(k7.mem (aP _ (aP _ (gO B)))).val j h;let⟨s,p,q,z⟩:=sl i hi;rw[e,z]at hv;let⟨j,f⟩:=j;have hf:f<3:=h.2;have Wm:f=0\/f=1\/f=2:=ω
     rcases Wm with rfl|rfl|rfl<;>cases hv
    exact .inr ⟨ca,cp,i',J,KG⟩
  have c4:∀r∈M,Has C' r:=λr w=>hC' _ (k8 r (Yn w (M6 r w))).cons.cons λj h i hi e=>by
   grind
  have t1:((m:Int)==(m:Int))=true:=ψ
  have S6:St (cP wI.heap.size (A::E) []) N.heap.size 70 [(24,.tuple #[.agg #[.slice (some ⟨o,0,none⟩) m m,.slice V v.el ec],i6 0,i6 0]),(8,i6 0),(7,.bool true),(1,.slice sa m cap),(4,ptr k)] (bR k [.slice none 0 0,.slice none 0 0]::C') 0 a6 N:=⟨TF.sub (by intro p hp;simp only[ak,bH,or_false]at hp;rcases hp with rfl|rfl|rfl|rfl|rfl<;>rfl),h6,rfl⟩;have YG:N.heap.size=N.heap.size:=rfl;generalize hB6:N.heap.size=B6 at S6 YG y;generalize Ty:v.el=el at S6;refine aq (λM=>bR (B6) [.slice (some ⟨o,0,none⟩) m m,.slice V el ec]::(bh 0 (0,1) (.slice V el ec) (bh 0 (0,0) (.slice (some ⟨o,0,none⟩) m m) (M)))) 1 F y t S S6 43 [0,0,0,2,0,0,0,1,0,0,0,2,1,0,0,2] 131069 [] [(6,.bool ((↑m:Int)==(↑m:Int))),(5,.bool ((↑m:Int)==(↑m:Int))),(4,ptr k)] 70 2 [] λa7 w7 S7 CI OD YQ DJ=>cC F S7 t qh CI [1,0,0,2] (.tuple #[.agg #[.slice (some ⟨o,0,none⟩) m m,.slice V el ec],.bool ((↑m:Int)==(↑m:Int)),.bool ((↑m:Int)==(↑m:Int))]) ?_;subst Ty;rw[t1];exact At.assume gN λXh=>K1 I v hLf (A::E) W9 o V ec oh C' w7 k1 (λx b=>⟨by
   rcases ak.1 b with rfl|b
   .exact .inr ω
   .exact(u x b).1.imp_right λz=>ω,by have:=hl6 x b;omega⟩) Xh k6 S7.sat.tail.tail c1 c2 c3 c4
 .have hc0:=RP I;have aaL:((jG n L m g).1 !=0)=true:=χ
  have t1:((jG n L m g).1==(jG n L m g).1)=true:=ψ
  have t2:((jG n L m g).2==(jG n L m g).2)=true:=ψ
  generalize w:jG n L m g=r at hc0 aaL t1 t2 S4;let⟨c,i⟩:=r;dsimp only at hc0 aaL t1 t2 S4;refine Rb F y t Vx S4 10 [] 1 [] [(23,.slice sa m cap),(22,.slice O n R),(9,i6 i),(8,i6 c),(7,.bool true),(1,.slice sa m cap),(4,ptr k)] 26 1 [] λa5 w5 S5 Yv Y5 Dw qO=>ah F t Yv S5 24 15 #[.slice O n R,.slice sa m cap] λd d=>Ui (i:=i) F y hc0 S5.sat ω (λBL yR D M' W VO LM KK=>?_) λN h6 e=>d _ _ _ h6 λa6 B6 S6 S YG=>?_
  .exact r8 F y (λz=>by let⟨a,J,B⟩:=q1 z;exact⟨a,J,W _ B.cons⟩) (λz=>by let⟨a,J,B⟩:=q2 z;exact⟨a,J,W _ B.cons⟩) (λj h z=>by let⟨a,J,B⟩:=q3 j h z;exact⟨a,J,W _ B.cons⟩) VO LM χ
  refine aX (λM=>bR (B6) [.slice none 0 0,.slice none 0 0]::(M)) 1 F y t S S6 17 [0,0,0,2] 6 [] [(12,i6 i),(11,i6 c),(10,ptr B6),(9,i6 i),(8,i6 c),(7,.bool true),(4,ptr k)] 44 3 [] [] [(c !=0,true)] [] [] λa7 w7 S7 CI OD YQ DJ=>?_;let⟨r1,r2⟩:=Yx I;rw[w]at r1 r2;exact HP F y t qh CI ω r1 r2 (S7.dB _ rfl) λa c=>At.assume gN λXh=>K0 I E ng1 a aaK (λx b=>⟨(u x b).1.imp_right λz=>ω,by have:=hl1 x b;omega⟩) Xh
def Rm:Qc Tryz.prog 22 26 6 48=true:=ρ
theorem Ds.old(H:Ds wI O n L sa m g)(c:Old wI w):Ds w O n L sa m g:=
 have b:wI.heap.size<=w.heap.size:=c.2.2.2.1
 ⟨IJ H.hL c,λp a=>ga (H.bL p a) b,I4 H.hC c,λp a=>ga (H.bC p a) b,λi d e p a=>ga (H.bT i d e p a) b,ga H.i0 b,c.cell _ _ H.hg⟩
abbrev SY(o:Nat)(J:Nat->Se)(os:p9)(oc:bU)(m:Nat):aH:=fR ⟨o,0,none⟩ 4 (λj=>[i6 (J j).a,i6 (J j).b.k,i6 (J j).b.n,.slice (os j) (J j).b.ch.length (oc j)]) m false
def Zt{f:yX}(h:Sat I w C)(n:Has C (ouR (some ⟨o,0,none⟩) J f m))(l:∀j,j<m->fu C (f j) (J j).b.ch):
 ∃os k,Sat I w (SY o J os k m::C)/\∀j,j<m->0<(J j).b.ch.length->∃a,os j=some a/\Has C (gQ a (J j).b.ch):=by
 have c:∀j,∃p:Option Addr×Nat,j<m->f j=.slice p.1 (J j).b.ch.length p.2/\(0<(J j).b.ch.length->∃a,p.1=some a/\Has C (gQ a (J j).b.ch)):=λj=>by
  by_cases b:j<m
  .rcases l j b with ⟨g,d⟩|⟨a,cap,i,g,d⟩
   .exact⟨(none,0),λ_=>⟨by rw[g,d];rfl,λz=>by rw[d]at z;cases z⟩⟩
   .exact⟨(some a,cap),λ_=>⟨g,λ_=>⟨a,rfl,rfl,i,d⟩⟩⟩
  .exact⟨(none,0),λz=>absurd z b⟩
 refine⟨λj=>(c j).choose.1,λj=>(c j).choose.2,?_,λj b=>((c j).choose_spec b).2⟩;refine(h.get n).G7 0 rfl (SY o J _ _ m) (λj b=>⟨b,rfl,?_⟩) (λz=>by cases z) rfl;have e:=((c j.1).choose_spec b.1).1;show List.getD [i6 (J j.1).a,i6 (J j.1).b.k,i6 (J j.1).b.n,.slice (c j.1).choose.1 (J j.1).b.ch.length (c j.1).choose.2] j.2 undef=(yL (J j.1,f j.1)).getD j.2 undef;rw[<-e];rfl
def kOf(k:Int):Prop:=k=1\/k=2\/k=6
instance (k:Int):Decidable (kOf k):=by unfold kOf;infer_instance
def oa(L:oF):Nat->Nat
 |0=>0
 |i+1=>if kOf (L i 0)then oa L i+1 else oa L i
def Fi(L:oF):Nat->Nat->Nat->Int
 |0=>λ_ _=>0
 |i+1=>if kOf (L i 0)then upd (Fi L i) (oa L i) (L i)else Fi L i
def Vm(L:oF):∀i,oa L i<=i
 |0=>az _
 |i+1=>by have:=Vm L i;unfold oa;split<;>omega
def aaq(L:oF):∀i j,j<oa L i->kOf (Fi L i j 0)
 |0,j,h=>by cases h
 |i+1,j,h=>by
  have b:=aaq L i j;unfold oa at h;unfold Fi;by_cases a:kOf (L i 0)
  .rw[sJ a]at h ⊢;by_cases e:j=oa L i
   .subst e;simp only[upd,if_true];exact a
   .simp only[upd,af e];exact b ω
  .rw[af a]at h ⊢;exact b h
def aaj(L:oF)(i:Nat):∀u∈oG L i,u.oneCell'=true:=by intro u a;simp at a;rcases a with rfl|rfl|rfl|rfl|rfl|rfl<;>rfl
def aav(F:aB prog W (DX I) Q)(H:HB B I)(q:U.kind=.normal){c:eP}(s:n<2932031007403)(s:i<n)(E:kOf (L i 0)){vs:eX}{x:Act}{t:aj}{l:Nat}(T:Vc I c (oa L i) cap)(w:x.defers=[])(s:B<=l)(P:St I l 44 [(41,.slice (some ⟨l,0,none⟩) 1 1),(36,.slice c (oa L i) cap),(10,i6 i),(0,.slice O n R),(1,i6 1),(2,i6 2),(3,i6 6)] (bR l (oG L i)::vR c 6 (oG (Fi L i)) (oa L i) cap 26::sR c 6 vs (oa L i) cap::fR (O.getD ⟨0,0,none⟩) 6 (oG L) n false::(C++M)) 1 x t)(K:∀C c cap vs y D s,Vc I c (oa L (i+1)) cap->y.defers=[]->B<=s->t.heap.size<=s->D.heap.size=s->St I s 44 [(10,i6 (↑(i+1):Int)),(9,.slice c (oa L (i+1)) cap),(0,.slice O n R),(1,i6 1),(2,i6 2),(3,i6 6)] (vR c 6 (oG (Fi L (i+1))) (oa L (i+1)) cap 26::sR c 6 vs (oa L (i+1)) cap::fR (O.getD ⟨0,0,none⟩) 6 (oG L) n false::(C++M)) 0 y D->Q (G (U.at y (pc prog 10 15 [] [])) X) D):Q (G (U.at x (pc prog 10 60 [true,true] [])) X) t:=by
 have S:IntKind.wrap .i64 ((i:Int)+1)=((i+1:Nat):Int):=by rw[aA ω ω];rfl
 have p:oa L (i+1)=oa L i+1:=sJ E;have c:Fi L (i+1)=upd (Fi L i) (oa L i) (L i):=sJ E;have s:=Vm L i;have s:=P.sz;refine apS F (λa wr z=>H a wr ω) q 36 41 42 22 26 6 48 1 2 0 Rm ρ ρ δ rfl rfl rfl rfl δ rfl T (λ_ _=>rfl) rfl (aaj L i) (az _) (by simp only[maxLen];omega) ω P λk b m d Z h A r g=>?_;rw[show jB (pc prog 10 60 [true,true] [])=pc prog 10 61 [true,true] [] by kernel_rfl];have Y:Sat I h (bR l (oG L i)::vR (some ⟨k,0,none⟩) 6 (oG (Fi L (i+1))) (oa L (i+1)) b 26::sR (some ⟨k,0,none⟩) 6 d (oa L (i+1)) b::fR (O.getD ⟨0,0,none⟩) 6 (oG L) n false::(C++M)):=by
  rw[p,c];refine A.sat.re 1 rfl rfl (oG (upd (Fi L i) (oa L i) (L i))) λj c f a=>?_;have a:j<oa L i+1:=c;by_cases e:j=oa L i
  .subst e;show(oG (upd (Fi L i) (oa L i) (L i)) (oa L i)).getD f undef=(m (oa L i)).getD f undef;rw[A.new];simp[upd,oG]
  .show(oG (upd (Fi L i) (oa L i) (L i)) j).getD f undef=(m j).getD f undef;rw[A.old j ω];simp[upd,oG,e]
 have v:=A.size;have o:=A.vc;rw[<-p]at o r;have N:St I h.heap.size 44 _ _ 0 Z h:=⟨r,Sat.back (A:=[vR (some ⟨k,0,none⟩) 6 (oG (Fi L (i+1))) (oa L (i+1)) b 26,sR (some ⟨k,0,none⟩) 6 d (oa L (i+1)) b,fR (O.getD ⟨0,0,none⟩) 6 (oG L) n false]) Y,rfl⟩;have u:h.heap.size=h.heap.size:=rfl;replace g:=g.trans w;generalize V:h.heap.size=B3 at N u v;refine Rb F H q g N 9 [] 1 [] [(10,i6 (IntKind.wrap .i64 ((↑i:Int)+1))),(9,.slice (some ⟨k,0,none⟩) (oa L (i+1)) b),(0,.slice O n R),(1,i6 1),(2,i6 2),(3,i6 6)] 70 7 [] λf c J a e e e=>?_;rw[S]at J;rw[show pc prog 10 70 (Bo 7) []=pc prog 10 15 [] [] by kernel_rfl];exact K (bR l (oG L i)::C) (some ⟨k,0,none⟩) b d f c B3 o a ω ω ω (J.dB _ rfl)
def aaH(F:aB prog W (DX I) Q)(q:HB B I){U:aC}(d:U.kind=.normal){X:cO}{M:aW}{O:eP}{n R:Nat}{L:oF}(P:n<2932031007403)(f:0<n->∃a,O=some a):
 ∀(m i:Nat)(C:aW)(b:eP)(cap:Nat)(vs:eX)(J:Act)(w:aj)(l:Nat),i+m=n->Vc I b (oa L i) cap->J.defers=[]->B<=l->w.heap.size=l->St I l 44 [(10,i6 i),(9,.slice b (oa L i) cap),(0,.slice O n R),(1,i6 1),(2,i6 2),(3,i6 6)] (vR b 6 (oG (Fi L i)) (oa L i) cap 26::sR b 6 vs (oa L i) cap::fR (O.getD ⟨0,0,none⟩) 6 (oG L) n false::(C++M)) 0 J w->
   (∀C b cap vs s D,Vc I b (oa L n) cap->s.defers=[]->w.heap.size<=D.heap.size->aR [(8,.slice b (oa L n) cap)] 44 s->Sat I D (vR b 6 (oG (Fi L n)) (oa L n) cap 26::sR b 6 vs (oa L n) cap::fR (O.getD ⟨0,0,none⟩) 6 (oG L) n false::(C++M))->Q (G (U.at s (pc prog 10 30 [false] [])) X) D)->Q (G (U.at J (pc prog 10 15 [] [])) X) w
 |0,i,C,b,cap,vs,J,w,l,t,x,j,h,g,H,K=>by
  have a:decide ((i:Int)<(n:Int))=false:=θ
  refine TP F q d j H 15 [] 4 [] [(8,.slice b (oa L i) cap)] 30 2 [] [] [(decide ((↑i:Int)<(↑n:Int)),false)] [] [] λE A k c o p r=>?_;have e:i=n:=ω
  subst e;exact K C b cap vs E A x c ω (k.dB _ rfl).env k.sat
 |m+1,i,C,b,cap,vs,J,w,l,t,x,j,h,g,H,K=>by
  obtain⟨u,rfl⟩:=f ω;have S:IntKind.wrap .i64 ((i:Int)+1)=((i+1:Nat):Int):=by rw[aA ω ω];rfl
  have KK:∀C b cap vs s D a,Vc I b (oa L (i+1)) cap->s.defers=[]->B<=a->w.heap.size<=a->D.heap.size=a->St I a 44 [(10,i6 (↑(i+1):Int)),(9,.slice b (oa L (i+1)) cap),(0,.slice (some u) n R),(1,i6 1),(2,i6 2),(3,i6 6)] (vR b 6 (oG (Fi L (i+1))) (oa L (i+1)) cap 26::sR b 6 vs (oa L (i+1)) cap::fR u 6 (oG L) n false::(C++M)) 0 s D->Q (G (U.at s (pc prog 10 15 [] [])) X) D:=λC b cap vs s D a v t h e g e=>aaH F q d P f m (i+1) C b cap vs s D a ω v t h g e λw g a f h e m v y t N=>K w g a f h e m v ω t N;by_cases m:L i 0=1
  .have B:(L i 0==1)=true:=by simpa using m
   refine aX (λM=>bR (l) [i6 (L i 0),i6 (L i 1),i6 (L i 2),i6 (L i 3),i6 (L i 4),i6 (L i 5)]::(M)) 1 F q d j H 45 [2,i,0,101,2,i,0,106] 1834986 [] [(41,.slice (some ⟨l,0,none⟩) 1 1),(36,.slice b (oa L i) cap),(34,.tuple #[]),(33,.tuple #[]),(32,.tuple #[]),(29,.tuple #[]),(28,.tuple #[]),(27,.tuple #[]),(10,i6 i),(0,.slice (some u) n R),(1,i6 1),(2,i6 2),(3,i6 6)] 60 7 [] [] [(L i 0==1,true),(decide ((↑i:Int)<(↑n:Int)),true)] [((↑i:Int),n),((↑i:Int),n)] [(7,(i,n))] λE A k c o p r=>aav F q d P ω (.inl m) x c ω (k.dB _ rfl) λw g a f h e m v y t N G B=>KK w g a f h e m v y t ω G B
  .by_cases K:L i 0=2
   .have T:(L i 0==2)=true:=by simpa using K
    refine aX (λM=>bR (l) [i6 (L i 0),i6 (L i 1),i6 (L i 2),i6 (L i 3),i6 (L i 4),i6 (L i 5)]::(M)) 1 F q d j H 45 [2,i,0,101,2,i,0,106] 1833290 [] [(41,.slice (some ⟨l,0,none⟩) 1 1),(36,.slice b (oa L i) cap),(34,.tuple #[]),(33,.tuple #[]),(32,.tuple #[]),(29,.bool (L i 0==2)),(28,i6 2),(27,i6 (L i 0)),(10,i6 i),(0,.slice (some u) n R),(1,i6 1),(2,i6 2),(3,i6 6)] 60 7 [] [] [(L i 0==2,true),(L i 0==1,false),(decide ((↑i:Int)<(↑n:Int)),true)] [((↑i:Int),n),((↑i:Int),n)] [(7,(i,n))] λE A k c o p r=>aav F q d P ω (.inr (.inl K)) x c ω (k.dB _ rfl) λw g a f h e m v y t N G B=>KK w g a f h e m v y t ω G B
   .by_cases K:L i 0=6
    .have T:(L i 0==6)=true:=by simpa using K
     refine aX (λM=>bR (l) [i6 (L i 0),i6 (L i 1),i6 (L i 2),i6 (L i 3),i6 (L i 4),i6 (L i 5)]::(M)) 1 F q d j H 45 [2,i,0,101,2,i,0,106] 1724746 [] [(41,.slice (some ⟨l,0,none⟩) 1 1),(36,.slice b (oa L i) cap),(34,.bool (L i 0==6)),(33,i6 6),(32,i6 (L i 0)),(29,.bool (L i 0==2)),(28,i6 2),(27,i6 (L i 0)),(10,i6 i),(0,.slice (some u) n R),(1,i6 1),(2,i6 2),(3,i6 6)] 60 7 [] [] [(L i 0==6,true),(L i 0==2,false),(L i 0==1,false),(decide ((↑i:Int)<(↑n:Int)),true)] [((↑i:Int),n),((↑i:Int),n)] [(7,(i,n))] λE A k c o p r=>aav F q d P ω (.inr (.inr K)) x c ω (k.dB _ rfl) λw g a f h e m v y t N G B=>KK w g a f h e m v y t ω G B
    .have f:¬kOf (L i 0):=λz=>by rcases z with z|z|z<;>contradiction
     have a:oa L (i+1)=oa L i:=af f;have e:Fi L (i+1)=Fi L i:=af f;refine TP F q d j H 46 [2,i,0,101] 282954 [] [(10,i6 (IntKind.wrap .i64 ((↑i:Int)+1))),(34,.bool (L i 0==6)),(33,i6 6),(32,i6 (L i 0)),(29,.bool (L i 0==2)),(28,i6 2),(27,i6 (L i 0)),(9,.slice b (oa L i) cap),(0,.slice (some u) n R),(1,i6 1),(2,i6 2),(3,i6 6)] 61 5 [] [] [(L i 0==6,false),(L i 0==2,false),(L i 0==1,false),(decide ((↑i:Int)<(↑n:Int)),true)] [((↑i:Int),n)] [(1,(i,n))] λE A k c o p r=>?_;rw[S]at k;rw[<-a]at x k;rw[<-e]at k;exact KK C b cap vs E A l x c ω ω ω (k.dB _ rfl)
def aaR(F:aB prog W (DX I) Q)(u:HB B I)(m:n<2932031007403)(k:0<n->∃a,O=some a)(q:Sat I w (fR (O.getD ⟨0,0,none⟩) 6 (oG L) n false::M))(A:B<=w.heap.size)(K:∀d cap D,w.heap.size<=D.heap.size->nF D d (oa L n) (Fi L n)->(∀p:Addr,d=some p->p.block<D.heap.size)->Q (G (Y.finish (.slice d (oa L n) cap)) X) D):Q (G (Frame.enter prog 10 #[.slice O n R,i6 1,i6 2,i6 6] .normal) (Y::X)) w:=by
 refine cJ func10 q 44 λU q q q b r q A w=>Rb F u b q A 15 [] 1 [] [(10,i6 0),(9,.slice none 0 0),(0,.slice O n R),(1,i6 1),(2,i6 2),(3,i6 6)] 15 1 [] λA q z o w w w=>aaH F u b m k n 0 [] none 0 (λ_=>[]) A q q.heap.size (bK _) ⟨.inl ⟨rfl,rfl,rfl⟩,az _,gl _,λa h=>by cases h⟩ o ω rfl ⟨(z.dB _ rfl).env,Sat.qj (Sat.qj z.sat rfl rfl) rfl rfl,rfl⟩ λC d cap vs m c k a h h x=>?_;have o:St I c.heap.size 44 [(8,.slice d (oa L n) cap)] [] 0 m c:=⟨h,x.sub (List.nil_sublist _),rfl⟩;refine cC F o b r a [] (.slice d (oa L n) cap) ?_;rcases k.row with ⟨s,y,_⟩|⟨g,s,y⟩
 .subst s;refine K none cap c ω (λi f=>ω) (λp l=>by cases l)
 .subst s;have t:∀i,i<oa L n->∀j,j<6->c.cell? ⟨g,0+i*6+j,none⟩=some (i6 (Fi L n i j)):=λi f j a=>by
   have b:=x.val 0 _ rfl (i,j) ⟨f,a⟩;have e:((⟨g,0,none⟩:Addr).add (i*6)).add j=⟨g,0+i*6+j,none⟩:=by rw[add_add,bK]
   have v:c.cell? (((⟨g,0,none⟩:Addr).add (i*6)).add j)=_:=b;rw[e]at v;refine v.trans (cT some ?_);match j,a with
   |0,_=>rfl
   |1,_=>rfl
   |2,_=>rfl
   |3,_=>rfl
   |4,_=>rfl
   |5,_=>rfl
  exact K _ cap c ω (λi f=>⟨g,0,rfl,t i f⟩) (λp l=>by cases l;exact au (t 0 y 0 δ))
def KF(F:aB prog W (DX I) Q)(l:HB B I){U:aC}(a:U.kind=.normal)(h:U.fn=11){Y:aC}{X:cO}{M:aW}{o n:Addr}{c b:Nat}{L:List iN}(g:L.length<1000000){p:Nat}(t:B<=p):
 ∀(m i:Nat)(j:Act)(w:aj),i+m=L.length->j.defers=[]->w.heap.size=p->St I p 26 [(5,i6 i),(0,.slice (some o) L.length c),(1,.slice (some n) L.length b)] (gQ o L::gQ n L::M) 0 j w->
   (∀D,Sat I D M->w.heap.size<=D.heap.size->Q (G (Y.finish (.bool true)) X) D)->Q (G (U.at j (pc prog 11 22 [false] [])) (Y::X)) w
 |0,i,j,w,y,e,r,v,K=>by
  have u:decide ((i:Int)<(L.length:Int))=false:=θ
  refine ZI F l a h e v 14 [] 4 [] 4 (.bool true) 36 4 [] [] [(decide ((↑i:Int)<(↑(List.length L):Int)),false)] [] [] λq k f s=>K q k.sat.tail.tail ω
 |m+1,i,j,w,y,e,r,v,K=>by
  have u:decide ((i:Int)<(L.length:Int))=true:=θ
  refine TP F l a e v 14 [0,i,0,103,1,i,0,103] 106 [8] [(24,.agg #[i6 (List.getD L i (iN.mk 0 0 0)).k,i6 (List.getD L i (iN.mk 0 0 0)).l,i6 (List.getD L i (iN.mk 0 0 0)).n]),(20,.agg #[i6 (List.getD L i (iN.mk 0 0 0)).k,i6 (List.getD L i (iN.mk 0 0 0)).l,i6 (List.getD L i (iN.mk 0 0 0)).n]),(5,i6 i),(0,.slice (some o) (List.length L) c),(1,.slice (some n) (List.length L) b)] 36 6 [8] [] [(decide ((↑i:Int)<(↑(List.length L):Int)),true)] [((↑i:Int),List.length L),((↑i:Int),List.length L)] [(6,(i,List.length L))] λe q k e f s r=>neS F a 20 24 25 40 [(L.getD i ⟨0,0,0⟩).k,(L.getD i ⟨0,0,0⟩).l,(L.getD i ⟨0,0,0⟩).n] ρ ρ ρ δ rfl rfl k λs r d=>?_;rw[show jB (pc prog 11 36 (Bo 6) [8])=pc prog 11 37 [false,true] [8] by kernel_rfl];have v:St I p 26 _ _ 0 s q:=⟨r,k.sat,k.sz⟩;have k:=f;replace d:=d.trans e;have f:IntKind.wrap .i64 ((i:Int)+1)=((i+1:Nat):Int):=by rw[aA ω ω];rfl
  refine Rb F l a d v 10 [] 5 [] [(5,i6 (IntKind.wrap .i64 ((↑i:Int)+1))),(0,.slice (some o) (List.length L) c),(1,.slice (some n) (List.length L) b)] 47 10 [8] λk c x b e e e=>?_;rw[f]at x;rw[show pc prog 11 47 (Bo 10) [8]=pc prog 11 22 [false] [] by kernel_rfl];exact KF F l a h g t m (i+1) k c ω b ω x λD u a=>K D u ω
def aah(F:aB prog W (DX I) Q)(i:HB B I){h g:Addr}{b a:Nat}{L:List iN}(c:L.length<1000000)(d:Sat I w (gQ h L::gQ g L::M))(e:B<=w.heap.size)(K:∀D,Sat I D M->w.heap.size<=D.heap.size->Q (G (Y.finish (.bool true)) X) D):Q (G (Frame.enter prog 11 #[.slice (some h) L.length b,.slice (some g) L.length a] .normal) (Y::X)) w:=by
 have e:((L.length:Int) !=(L.length:Int))=false:=ψ
 refine cJ func11 d 26 λU d d d d f e k j=>TP F i d e k 22 [] 4 [] [(5,i6 0),(0,.slice (some h) (List.length L) b),(1,.slice (some g) (List.length L) a)] 22 2 [] [] [((↑(List.length L):Int) !=(↑(List.length L):Int),false)] [] [] λg b h a e e e=>KF F i d f c ω L.length 0 g b (bK _) a ω h λD a b=>K D a ω
def aag(F:aB prog W (DX I) Q)(f:HB B I){h g:eP}{b a:Nat}(c:Sat I w M)(d:B<=w.heap.size)(K:∀D,Sat I D M->w.heap.size<=D.heap.size->Q (G (Y.finish (.bool true)) X) D):Q (G (Frame.enter prog 11 #[.slice h 0 b,.slice g 0 a] .normal) (Y::X)) w:=by
 refine cJ func11 c 26 λU c c c c e d j i=>Rb F f c d j 22 [] 5 [] [(5,i6 0),(0,.slice h 0 b),(1,.slice g 0 a)] 22 2 [] λa a d a b b b=>UF F f c e a d 14 [] 5 [] 4 (.bool true) 36 4 [] λa c b b=>K a c.sat ω
def aap(o:Oper)(x l h d t:Nat):Bool:=(match o.dst with|some d'=>d'==d|none=>false)&&(match o.op with
 |.slice t' (.tmp x') (some (.tmp l')) (some (.tmp h')) none=>t'==t&&x'==x&&l'==l&&h'==h
 |_=>false)
def slS(F:aB prog W (DX I) Q)(V:b.kind=.normal){B' c:Nat}{t:eC}(x l h d:Nat){p:Addr}{len:Nat}(z:kI t=true)(Z:V0 E t=true)(e:aap (aQ t) x l h d 23=true)(A:d<N)(O:look E x=some (.slice (some p) len cap))(U:look E l=some (i6 i))(Y:look E h=some (i6 (i+1:Nat)))(hc:i+1<=cap)(S:St I B' N E M c a w)(K:∀B,aR ((d,.slice (some (p.add (i*2))) 1 (cap-i))::E) N B->B.defers=a.defers->Q (G (b.at B (jB t)) X) w):Q (G (b.at a t) X) w:=by
 let⟨J,j,r,kk,C,u,T⟩:=dH z;have P:=Zh Z S.env C;unfold aap at e;simp only[bZ]at e;let⟨k,o⟩:=e;have k:(aQ t).dst=some d:=by
  split at k
  .rename_i D A;rw[A];simp at k;rw[k]
  .cases k
 have g:∀q v,look E q=some v->a.eval (.tmp q)=v:=λq v n=>by rw[S.env.eval (by simp[kn,n])];simp[ev,n]
 have R:prog.underlying 23=some (.slice 38):=ρ
 have s:cV prog (sizeOf 38)=some 2:=ρ
 have n:cV prog (execOp a.eval (aQ t))=some (.value (.slice (some (p.add (i*2))) 1 (cap-i))):=by
  split at o
  .rename_i t' H L h' z;simp only[bZ,beq_iff_eq]at o;obtain⟨⟨⟨rfl,rfl⟩,rfl⟩,rfl⟩:=o;unfold execOp;rw[z];have h5:∀f:Nat->Next,cV prog (f<$>sizeOf 38)=(cV prog (sizeOf 38)).map f:=λf=>by
    show cV prog (sizeOf 38>>=λy=>pure (f y))=_;rw[cr,s];rfl
   have h4:¬cap=i:=ω
   simp[cr,Instr.sliceAt,Instr.slice,Instr.sliceBounds,Instr.sliceBound,asInt,g H _ O,g L _ U,g h' _ Y,asIntOf,gJ,fJ,nk 23 _ R,s];rw[sJ ω];simp only[gJ,fJ];rw[sJ ω];simp only[gJ,fJ,h5,s];simp[h4]
  .cases o
 have m:=fV _ _ n;rw[C];refine F.AZ u P (by rw[V];decide) (λD=>?_) λD K' hK=>?_
 .unfold Sem.events;rw[m]
 .rw[<-fH (es:=#[]),m];refine hK _ ?_;rw[<-T,k];exact K _ (S.env.put A) (put_defers _ _ _)
def aai(F:aB prog W (DX I) Q)(h:HB B I){f d:eP}{j i:Nat}{L:List iN}(a:L.length<1000000)(l:0<L.length->∃c,f=some c/\Has M (gQ c L))(k:0<L.length->∃c,d=some c/\Has M (gQ c L))(g:Sat I w M)(b:B<=w.heap.size)(K:∀D,Sat I D M->w.heap.size<=D.heap.size->Q (G (Y.finish (.bool true)) X) D):Q (G (Frame.enter prog 11 #[.slice f L.length j,.slice d L.length i] .normal) (Y::X)) w:=by
 by_cases e:L.length=0
 .have:L=[]:=LI.1 e;subst this;exact aag F h g b K
 .obtain⟨c,rfl,n⟩:=l ω;obtain⟨c,rfl,m⟩:=k ω;exact aah F h a ((g.get m).get n.cons) b λD b a=>K D b a
def aae{a:aN}{R:aW}(h:Sat (cP N l []) w R)(i:∀r∈R,r.wr=false/\r.row=none)(m:Old w D)(k:∀x∈a,x∈l\/w.heap.size<=x):Sat (cP N' a []) D R:=lD λr a=>by
 have d:=h.mem a;let⟨c,f⟩:=i r a;refine⟨⟨λj b=>m.cell _ _ (d.val j b),λj b=>⟨⟨fun⟨A,o,z⟩=>?_,λz=>(by cases z)⟩,λz=>(by rw[c]at z;cases z)⟩,λz=>(by rw[c]at z;cases z),λg e n z=>(by rw[f]at z;cases z)⟩,c⟩;rcases k A o with y|y
 .exact(d.ok j b).1.1 ⟨A,y,z⟩
 .have:=au (d.val j b);have e:(r.ad j).block=A:=by rcases z with z|z<;>(injection z with z;rw[z])
  omega
def aas(h:jG n L m g=(0,0))(e:i<m):jG n L 1 (λj=>g (i+j))=(0,0):=by
 unfold jG at h ⊢;split at h
 .cases h
 rename_i b;rw[af b];split at h
 .cases h
 rename_i a;rw[af a,af ω];split at h
 .cases h
 split at h
 .cases h
 rename_i f;have d:fY g m 0=0+m:=by have:=BP g m 0;omega
 have c:=uT g m 0 d i ω ω;rw[af];unfold fY;rw[af (by rw[jI,c];simp)];unfold fY;omega
def zo{fn:Func}{c:eC}{v:ay}(e:b.kind=.normal)(f:P.inits.idxOf? b.fn=none)(i:a.defers=[])(g:P.funcs[b.fn]? =some fn)(d:(results fn a.tmps).run P w=.ok v w)(h:(results fn a.tmps).events P w #[]=#[]):
 stepG P true (G {b.at a c with mode:=.returning} []) w=.ended (.done v) w #[]:=by
 simp[G,stepG,unwind,doReturn,Frame.at,e,i,g,d,h,f,seen,GStep.after]
def aak:prog.inits.idxOf? 5=none:=ρ
theorem aaD(F:aB prog true (DX (cP wI.heap.size l [])) (nM prog Post (Old wI) (jq l) ng))(f:U.kind=.normal)(c:U.fn=5){k:eC}(h:a.defers=[])(j:aR [(4,.bool true)] N a)(i:∀D,Old wI D->Post (.bool true) D):nM prog Post (Old wI) (jq l) ng (G (U.at a (.code .ret::k)) []) w:=by
 have b:∀t:List Item,nM prog Post (Old wI) (jq l) ng (G {U.at a t with mode:=.returning} []) w:=λt=>by
  have g:a.tmps.getD 4 undef=.bool true:=by rw[oK,j.val 4 (.bool true) rfl];rfl
  have e:=resultsC_tmp (P:=prog) (fn:=f5) (t:=4) φ a.tmps;rw[g]at e;refine At.Rv (v:=.bool true) (es:=#[]) rfl (λd=>?_) ψ (λd a=>i _ a) gN;exact zo f (by rw[c];exact aak) h (by rw[c];exact func5) (e _).1 (e _).2
 exact F.ctl (λ_=>stepG_ret') (b _)
def JN(J:Nat->Se)(os:p9)(m:Nat):List aH:=(List.range m).map λj=>gQ ((os j).getD ⟨0,0,none⟩) (J j).b.ch
def Dl:∀r∈JN J os m,r.wr=false/\r.row=none:=λr a=>by
 obtain⟨j,_,rfl⟩:=gV.1 a;exact⟨rfl,rfl⟩
def aaf{A:aW}(e:Sat I w A)(d:Sat I w C)(b:∀r∈A,r.wr=false)(a:∀r∈C,r.wr=false):Sat I w (A++C):=lD λr c=>by
 rcases dJ.1 c with z|z
 .exact⟨e.mem z,b r z⟩
 .exact⟨d.mem z,a r z⟩
def Tm{s:bU}(h:Sat (cP N l []) w (SY o J os s m::C))(f:∀j,j<m->0<(J j).b.ch.length->∃p,os j=some p/\Has C (gQ p (J j).b.ch)):Sat (cP N' l []) w (SY o J os s m::JN J os m):=by
 have t:∀r,xE (cP N l []) w r->r.wr=false->r.row=none->xE (cP N' l []) w r:=λr a b c=>⟨a.val,λj k=>⟨⟨(a.ok j k).1.1,λz=>(by cases z)⟩,λz=>(by rw[b]at z;cases z)⟩,λz=>(by rw[b]at z;cases z),λg e n z=>(by rw[c]at z;cases z)⟩
 refine lD λr d=>?_;rcases ak.1 d with rfl|d
 .exact⟨t _ (h.mem (bI ..)) rfl rfl,rfl⟩
 .obtain⟨j,k,rfl⟩:=gV.1 d;refine⟨?_,rfl⟩;by_cases e:(J j).b.ch.length=0
  .have a:∀q,¬(gQ ((os j).getD ⟨0,0,none⟩) (J j).b.ch).has q:=λq z=>by have:q.1<(J j).b.ch.length:=z.1;omega
   exact⟨λq z=>absurd z (a q),λq z=>absurd z (a q),λz=>(by cases z),λg e n z=>(by cases z)⟩
  .let⟨p,b,_,i,a⟩:=f j (aZ.1 k) ω;rw[b];exact t _ (h.mem (aP _ (gO a))) rfl rfl
theorem Ds.one(H:Ds wI O n L sa m g)(d:i<m):∃p,sa=some p/\Ds wI O n L (some (p.add (i*2))) 1 (λj=>g (i+j)):=by
 obtain⟨b,o,rfl,e⟩:=H.hC i d;refine⟨_,rfl,H.hL,H.bL,λj c=>?_,λp a=>by cases a;rw[ey];exact H.bC ⟨b,o,none⟩ rfl,λj c c p a=>H.bT (i+j) ω c p a,H.i0,H.hg⟩;obtain rfl:j=0:=ω
 refine⟨b,o+i*2,by rw[ey],?_⟩;simpa using e
theorem aaP{i:aj}(H:Ds i O n L sa m g)(K:jG n L m g=(0,0))(hK:∀k,k<n->kOf (L k 0)){cap cl q o:Nat}(VC:m<=cap){v:ay}{J:Nat->Se}{os:p9}{oc:bU}(hos:∀j,j<m->0<(J j).b.ch.length->∃E,os j=some E)(hD:∀c,c<m->∃u,DV (nC n L m g) c ⟨some ((J c).b,(J c).a),u⟩){U:aC}(s:U.kind=.normal)(qh:U.fn=5)(hP:∀D,Old i D->Post (.bool true) D):
 ∀(r c:Nat)(l:aN)(ng:Nat)(a0:Act)(w:aj),c+r=m->0<ng->(∀x∈l,i.heap.size<=x/\x<w.heap.size)->a0.defers=[]->aR [(9,i6 c),(5,.slice O n cl),(6,ptr q),(1,.slice sa m cap)] 92 a0->Sat (cP i.heap.size l []) w (oR q 0 [.slice (some ⟨o,0,none⟩) m m,v] false::SY o J os oc m::JN J os m)->
   nM prog Post (Old i) (jq l) ng (G (U.at a0 (pc prog 5 43 [false] [])) []) w
 |0,c,l,ng,a0,w,hi,U8,hl,Z,S,hS0=>by
  have F:=nA (P:=prog) (Post:=Post) (wI:=i) (l:=l) ng;refine At.assume gN λhO=>?_;have hs:i.heap.size<=w.heap.size:=hO.2.2.2.1;have N:∀(a:Addr)(wr:Bool),w.heap.size<=a.block->cP i.heap.size l [] a wr:=λa wr z=>iX (N:=w.heap.size) (λx I=>(hl x I).2) hs z wr;have S0:St (cP i.heap.size l []) w.heap.size 92 _ _ 0 a0 w:=⟨S,hS0,rfl⟩;have V:w.heap.size=w.heap.size:=rfl;generalize hB0:w.heap.size=B at S0 V N;have k:decide ((c:Int)<(m:Int))=false:=θ
  refine TP F N s Z S0 14 [] 4 [] [(4,.bool true)] 57 4 [] [] [(decide ((↑c:Int)<(↑m:Int)),false)] [] [] λa1 w1 S1 Y zS Dx o9=>aaD F s qh Y (S1.dB _ rfl).env hP
 |r+1,c,l,ng,a0,w,hi,U8,hl,Z,S,hS0=>by
  have F:=nA (P:=prog) (Post:=Post) (wI:=i) (l:=l) ng;refine At.assume gN λhO=>?_;have hs:i.heap.size<=w.heap.size:=hO.2.2.2.1;have N:∀(a:Addr)(wr:Bool),w.heap.size<=a.block->cP i.heap.size l [] a wr:=λa wr z=>iX (N:=w.heap.size) (λx I=>(hl x I).2) hs z wr;let⟨p,esa,H1⟩:=H.one (i:=c) ω;rw[esa]at S;have S0:St (cP i.heap.size l []) w.heap.size 92 _ _ 0 a0 w:=⟨S,hS0,rfl⟩;have V:w.heap.size=w.heap.size:=rfl;generalize hB0:w.heap.size=B at S0 V N;have k:=(zl K).nc;have k:m<=9:=k;have hwc:IntKind.wrap .i64 ((c:Int)+1)=((c+1:Nat):Int):=by rw[aA ω ω];rfl
  refine TP F N s Z S0 19 [] 6 [] [(43,i6 (IntKind.wrap .i64 ((↑c:Int)+1))),(41,i6 c),(40,.slice (some p) m cap),(39,.slice O n cl),(9,i6 c),(5,.slice O n cl),(6,ptr q),(1,.slice (some p) m cap)] 62 6 [] [] [(decide ((↑c:Int)<(↑m:Int)),true)] [] [] λa1 w1 S1 Y zS Dx o9=>?_;rw[hwc]at S1;refine slS F s 40 41 43 44 ρ ρ ρ δ rfl rfl rfl ω S1 λk k X=>?_;rw[show jB (pc prog 5 62 (Bo 6) [])=pc prog 5 63 [false,true] [] by kernel_rfl];have l:=St.mk k S1.sat S1.sz;replace X:=X.trans Y;refine Af F s 45 8 #[.slice O n cl,.slice (some (p.add (c*2))) 1 (cap-c)] ρ ρ δ l λk hcR=>At.assume gN λhO1=>At.keep (K':=Old w1) (λd=>Iw w1) ?_;have k:=zl (aas K (i:=c) ω);refine ES (wI:=w1) (w0:=i) H1 hO1 U8 (λx I=>by have:=hl x I;omega) (Z:=λy=>JA (nC n L 1 λj=>g (c+j)) none y/\(nC n L 1 λj=>g (c+j)).nc<=y.tl/\(∀t,t<y.tl->(y.tk t).e=true)/\y.el<1000000/\∀w,w<y.wl->(y.wt w).x=false->(y.wt w).e=true) (λh=>Rr k (aar k hK) (aaJ k)) (λh=>absurd (aas K ω) h) λ_ y hLf l2 W9 o' ea ec h C Q aa0 R hO3 _ hC _ hou mQ _=>At.keep (K':=Old i) (λd=>Fg hO1 hO3) ?_;refine hcR _ _ _ λa3 hA3 W=>?_;replace W:=W.trans X;have hR:=aae (N':=i.heap.size) S1.sat (λr f=>by
   rcases ak.1 f with rfl|f
   .exact⟨rfl,rfl⟩
   rcases ak.1 f with rfl|f
   .exact⟨rfl,rfl⟩
   exact Dl r f) hO3 λx I=>(R x I).1
  let⟨b,A,h3,T⟩:=Zt hC hou mQ;let⟨d,D1⟩:=hD c ω;let⟨_,d⟩:=VE hLf.1 hLf.2.1 hLf.2.2.1 0 Nat.one_pos;let⟨eb,ea'⟩:=aaN (V:=nC n L m g) (V':=nC n L 1 λj=>g (c+j)) (c:=c) (c':=0) rfl rfl rfl rfl D1 d;have d:=aaA D1;have d:(nC n L m g).nl<=6:=(zl K).nl;have h4:=(Tm (N':=i.heap.size) h3 T).G7 0 rfl (fR ⟨o',0,none⟩ 4 (λ_=>[i6 (J c).a,i6 (J c).b.k,i6 (J c).b.n,.slice (b 0) (J c).b.ch.length (A 0)]) 1 false) (λj d=>⟨d,rfl,by
   have e:j.1=0:=by have:j.1<1:=d.1;omega
   show List.getD [i6 (J c).a,i6 (J c).b.k,i6 (J c).b.n,.slice (b 0) (J c).b.ch.length (A 0)] j.2 undef=List.getD [i6 (y.ou j.1).a,i6 (y.ou j.1).b.k,i6 (y.ou j.1).b.n,.slice (b j.1) (y.ou j.1).b.ch.length (A j.1)] j.2 undef;rw[e,eb,ea']⟩) (λz=>by cases z) rfl
  have h5:=aaf hR h4 (λr f=>by
   rcases ak.1 f with rfl|f
   .rfl
   rcases ak.1 f with rfl|f
   .rfl
   exact(Dl r f).1) (λr f=>by
   rcases ak.1 f with rfl|f
   .rfl
   exact(Dl r f).1)
  have h6:=h5.perm (M':=oR q 0 [.slice (some ⟨o,0,none⟩) m m,v] false::SY o J os oc m::fR ⟨o',0,none⟩ 4 (λ_=>[i6 (J c).a,i6 (J c).b.k,i6 (J c).b.n,.slice (b 0) (J c).b.ch.length (A 0)]) 1 false::(JN J os m++JN y.ou b 1)) ((eY (l₁:=JN J os m)).cons _|>.cons _);have q1:0<(J c).b.ch.length->∃E,os c=some E/\Has (JN J os m++JN y.ou b 1) (gQ E (J c).b.ch):=λz=>by
   let⟨E,e⟩:=hos c ω z;refine⟨E,e,Yn (gU _ ?_) rfl⟩;exact gV.2 ⟨c,aZ.2 ω,by rw[e];rfl⟩
  have q2:0<(J c).b.ch.length->∃E,b 0=some E/\Has (JN J os m++JN y.ou b 1) (gQ E (J c).b.ch):=λz=>by
   let⟨E,e,_⟩:=T 0 Nat.one_pos (by rw[eb];exact z);refine⟨E,e,Yn (gF _ ?_) rfl⟩;exact gV.2 ⟨0,aZ.2 Nat.one_pos,by rw[e,eb];rfl⟩
  have q3:∀r∈JN J os m,Has (JN J os m++JN y.ou b 1) r:=λr f=>Yn (gU _ f) (Dl r f).1;clear F N hcR;have F:=nA (P:=prog) (Post:=Post) (wI:=i) (l:=l2) W9;have d:w1.heap.size<=Q.heap.size:=hO3.2.2.2.1;have d:i.heap.size<=w1.heap.size:=hO1.2.2.2.1;have N:∀(a:Addr)(wr:Bool),Q.heap.size<=a.block->cP i.heap.size l2 [] a wr:=λa wr z=>iX (N:=Q.heap.size) (λx I=>(R x I).2) ω z wr;have hl3:∀x∈l2,i.heap.size<=x/\x<Q.heap.size:=λx I=>⟨by
   rcases(R x I).1 with z|z
   .exact(hl x z).1
   .omega,(R x I).2⟩
  generalize JN J os m++JN y.ou b 1=a at h6 q1 q2 q3;generalize Ty:y.el=el at hA3;have S3:St (cP i.heap.size l2 []) Q.heap.size 92 [(45,.tuple #[.agg #[.slice (some ⟨o',0,none⟩) 1 1,.slice ea el ec],.bool true,.bool true]),(9,i6 c),(5,.slice O n cl),(6,ptr q),(1,.slice (some p) m cap)] _ 0 a3 Q:=⟨hA3.sub (by intro p hp;simp only[ak,bH,or_false]at hp;rcases hp with rfl|rfl|rfl|rfl|rfl<;>rfl),h6,rfl⟩;have YF:Q.heap.size=Q.heap.size:=rfl;generalize hB3:Q.heap.size=P at S3 YF N hl3;refine aX (λM=>bR (P+2) [i6 (J c).a,i6 (J c).b.k,i6 (J c).b.n,.slice (b 0) (List.length (J c).b.ch) (A 0)]::(bR (P+1) [i6 (J c).a,i6 (J c).b.k,i6 (J c).b.n,.slice (os c) (List.length (J c).b.ch) (oc c)]::(bR (P) [.slice (some ⟨o',0,none⟩) 1 1,.slice ea el ec]::(M)))) 3 F N s W S3 46 [0,0,0,2,1,0,0,1,2,c,0,104,0,0,0,4,1,0,0,1,4,0,0,4,0,0,0,4,1,0,3,1,0,0,3,1] 1685 [] [(67,.slice (b 0) (List.length (J c).b.ch) (A 0)),(65,.slice (os c) (List.length (J c).b.ch) (oc c)),(14,ptr (P+2)),(13,ptr (P+1)),(53,.bool false),(52,.bool true),(9,i6 c),(5,.slice O n cl),(6,ptr q),(1,.slice (some p) m cap)] 110 10 [] [] [] [(0,1),((↑c:Int),m)] [(4,(c,m))] λa a d a e e e=>ah F s a d 68 11 #[.slice (os c) (List.length (J c).b.ch) (oc c),.slice (b 0) (List.length (J c).b.ch) (A 0)] λa a=>aai F N (L:=(J c).b.ch) ω ?_ ?_ d.sat ω λb b d=>a _ _ _ b λa a e a b=>?_
  .exact λz=>by let⟨E,d,b⟩:=q1 z;exact⟨E,d,b.cons.cons.cons.cons.cons.cons⟩
  .exact λz=>by let⟨E,d,b⟩:=q2 z;exact⟨E,d,b.cons.cons.cons.cons.cons.cons⟩
  have b:((J c).a !=(J c).a)=false:=ψ
  have b:((J c).b.k !=(J c).b.k)=false:=ψ
  have b:((J c).b.n !=(J c).b.n)=false:=ψ
  refine TP F N s a e 37 [1,0,0,1,0,0,0,1,1,0,1,1,0,0,1,1,1,0,2,1,0,0,2,1] 4651831637 [] [(9,i6 (IntKind.wrap .i64 ((↑c:Int)+1))),(90,.bool ((J c).b.n !=(J c).b.n)),(89,i6 (J c).b.n),(88,.pointer (some (Addr.mk (P+2) 2 none))),(87,i6 (J c).b.n),(86,.pointer (some (Addr.mk (P+1) 2 none))),(83,.bool ((J c).b.k !=(J c).b.k)),(82,i6 (J c).b.k),(81,.pointer (some (Addr.mk (P+2) 1 none))),(80,i6 (J c).b.k),(79,.pointer (some (Addr.mk (P+1) 1 none))),(76,.bool ((J c).a !=(J c).a)),(75,i6 (J c).a),(74,ptr (P+2)),(73,i6 (J c).a),(72,ptr (P+1)),(53,.bool false),(52,.bool true),(5,.slice O n cl),(6,ptr q),(1,.slice (some p) m cap)] 148 18 [] [] [((J c).b.n !=(J c).b.n,false),((J c).b.k !=(J c).b.k,false),((J c).a !=(J c).a,false)] [] [] λe b S6 a d d d=>?_;rw[hwc]at S6;rw[show pc prog 5 148 (Bo 18) []=pc prog 5 43 [false] [] by kernel_rfl];refine aaP (o:=o) (oc:=oc) (v:=v) H K hK VC hos hD s qh hP r (c+1) l2 W9 e b ω aa0 (λx I=>by have:=hl3 x I;omega) a (by rw[esa];exact(S6.dB _ rfl).env) (S6.sat.ED λr f=>?_);rcases ak.1 f with rfl|f
  .exact⟨rfl,3,rfl⟩
  rcases ak.1 f with rfl|f
  .exact⟨rfl,4,rfl⟩
  exact(q3 r f).cons.cons.cons.cons.cons.cons
theorem aan(H:Ds wI O n L sa m g)(hK:∀k,k<n->kOf (L k 0))(q:U.kind=.normal)(qh:U.fn=5)(VC:m<=cap){a0:Act}(tN:a0.defers=[])(hA:aR [(17,.slice O n R),(1,.slice sa m cap)] 92 a0)(hP:∀D,Old wI D->Post (.bool true) D):nM prog Post (Old wI) (jq []) 1 (G (U.at a0 (pc prog 5 8 [] [])) []) wI:=by
 have F:=nA (P:=prog) (Post:=Post) (wI:=wI) (l:=[]) 1;have A:∀(a:Addr)(wr:Bool),wI.heap.size<=a.block->cP wI.heap.size [] [] a wr:=λa wr z=>iX (λx s=>by cases s) (az _) z wr;have hS:Sat (cP wI.heap.size [] []) wI []:=lD λr T=>by cases T
 have G:St (cP wI.heap.size [] []) wI.heap.size 92 _ [] 0 a0 wI:=⟨hA,hS,rfl⟩;have k:wI.heap.size=wI.heap.size:=rfl;refine Rb F A q tN G 6 [] 1 [] [(20,.slice sa m cap),(19,.slice O n R),(5,.slice O n R),(1,.slice sa m cap)] 14 1 [] λk f G Z k k k=>Af F q 21 8 #[.slice O n R,.slice sa m cap] ρ ρ δ G λk hcR=>At.assume gN λP=>At.keep (K':=Old f) (λd=>Iw f) ?_;have H1:=H.old P;refine ES (wI:=f) (w0:=f) H1 (Iw f) Nat.one_pos (λx s=>by cases s) (Z:=λl=>JA (nC n L m g) none l/\(nC n L m g).nc<=l.tl/\(∀t,t<l.tl->(l.tk t).e=true)/\l.el<1000000/\∀w,w<l.wl->(l.wt w).x=false->(l.wt w).e=true) (λh=>Rr (zl h) (aar (zl h) hK) (aaJ (zl h))) (λ_ v y b B u N=>?_) λhck l Q v y o ea ec d C b B u N _ hC _ hou mQ _=>?_
 .refine hcR _ _ _ λa2 S i=>?_;clear F A;have F:=nA (P:=prog) (Post:=Post) (wI:=f) (l:=v) y;have J:f.heap.size<=b.heap.size:=N.2.2.2.1;have A:∀(a:Addr)(wr:Bool),b.heap.size<=a.block->cP f.heap.size v [] a wr:=λa wr z=>iX (N:=b.heap.size) (λx s=>(u x s).2) J z wr;have T0:Sat (cP f.heap.size v []) b []:=lD λr T=>by cases T
  have V:St (cP f.heap.size v []) b.heap.size 92 [(21,.tuple #[.agg #[.slice none 0 0,.slice none 0 0],.bool false,.bool true])] [] 0 a2 b:=⟨S.sub (by intro p W;simp only[ak,bH,or_false]at W;subst W;rfl),T0,rfl⟩;have E:b.heap.size=b.heap.size:=rfl;replace i:=i.trans Z;generalize hB2:b.heap.size=B2 at V E A;refine aq (λM=>bR (B2) [.slice none 0 0,.slice none 0 0]::(M)) 1 F A q i V 25 [0,0,0,2] 127 [] [(4,.bool true)] 40 3 [] λa3 w3 S3 K YF yO mH=>aaD F q qh K (S3.dB _ rfl).env λD I=>hP D (Fg P I)
 .refine hcR _ _ _ λa2 S i=>?_;clear F A;have F:=nA (P:=prog) (Post:=Post) (wI:=f) (l:=v) y;have J:f.heap.size<=b.heap.size:=N.2.2.2.1;have A:∀(a:Addr)(wr:Bool),b.heap.size<=a.block->cP f.heap.size v [] a wr:=λa wr z=>iX (N:=b.heap.size) (λx s=>(u x s).2) J z wr;let⟨os,oc,a,X⟩:=Zt hC hou mQ;have h3:=Tm (N':=f.heap.size) a X;have Y:∀x∈v,f.heap.size<=x/\x<b.heap.size:=λx s=>⟨by
   rcases(u x s).1 with z|z
   .cases z
   .exact z,(u x s).2⟩
  have a:∀r∈JN l.ou os m,Has (JN l.ou os m) r:=λr T=>Yn T (Dl r T).1;have V:St (cP f.heap.size v []) b.heap.size 92 [(21,.tuple #[.agg #[.slice (some ⟨o,0,none⟩) m m,.slice ea l.el ec],.bool true,.bool true]),(5,.slice O n R),(1,.slice sa m cap)] (SY o l.ou os oc m::JN l.ou os m) 0 a2 b:=⟨S.sub (by intro p W;simp only[ak,bH,or_false]at W;rcases W with rfl|rfl|rfl<;>rfl),h3,rfl⟩;have E:b.heap.size=b.heap.size:=rfl;replace i:=i.trans Z;generalize hB2:b.heap.size=B2 at V E A Y;generalize Ty:l.el=el at V;refine aq (λM=>bR (B2) [.slice (some ⟨o,0,none⟩) m m,.slice ea el ec]::(M)) 1 F A q i V 28 [0,0,0,2] 85 [] [(9,i6 0),(6,ptr B2),(5,.slice O n R),(1,.slice sa m cap)] 43 2 [] λa3 w3 S3 K YF yO mH=>aaP (o:=o) (oc:=oc) (v:=.slice ea el ec) H1 hck hK VC (λj a z=>by let⟨b,e,_⟩:=X j a z;exact⟨b,e⟩) (λc a=>VE Q.1 Q.2.1 Q.2.2.1 c a) q qh (λD I=>hP D (Fg P I)) m 0 v y a3 w3 (bK _) B (λx s=>by have:=Y x s;omega) K (S3.dB _ rfl).env S3.sat.fix
theorem aac(H:Ds wI O n L sa m g)(i:n<=2932031007317)(c:m<=cap)(q:∀D,Old wI D->Post (.bool true) D):nM prog Post (Old wI) (jq []) 1 (G (Frame.enter prog 5 #[.slice O n R,.slice sa m cap] .normal) []) wI:=by
 have F:=nA (P:=prog) (Post:=Post) (wI:=wI) (l:=[]) 1;have l:∀(a:Addr)(wr:Bool),wI.heap.size<=a.block->cP wI.heap.size [] [] a wr:=λa wr z=>iX (λx b=>by cases b) (az _) z wr;have j:Sat (cP wI.heap.size [] []) wI (El O n L::cM sa m g):=H.sat (λx b=>by cases b) (Iw wI);have b:wI.heap.size<=wI.heap.size:=az _;refine cJ func5 j 92 λU b b b b j g r i=>Rb F l b g r 7 [] 1 [] [(16,.slice O n R),(1,.slice sa m cap)] 7 1 [] λg g m g i i i=>Af F b 17 10 #[.slice O n R,i6 1,i6 2,i6 6] ρ ρ δ m λi i=>aaR F l ω (λz=>by let⟨a,e,_⟩:=H.q1 z;exact⟨a,e⟩) m.sat ω λa a a e m l=>i _ _ _ λe i e=>At.assume gN λf=>At.keep (K':=Old a) (λd=>Iw a) ?_;have a:=H.old f;exact aan ⟨m,l,a.hC,a.bC,a.bT,a.i0,a.hg⟩ (λk a=>aaq L n k a) b j c (e.trans g) (i.sub (by intro p o;simp only[ak,bH,or_false]at o;rcases o with rfl|rfl<;>rfl)) λD h=>q D (Fg f h)
end Go.Proofs.YtobagnjnbmgidabGreatDoor
