import Derived.Test.YtobagnjnbmgidabGreatDoorB2
import Derived.Test.YtobagnjnbmgidabGreatDoorA6
set_option linter.all false
set_option maxHeartbeats 0
set_option maxRecDepth 100000
namespace Go.Proofs.YtobagnjnbmgidabGreatDoor
open Go.Conc Go.RowKit Tryz
variable{a:Act}{E:Env}{Z:LS->Prop}{N N0 b cap cA:Nat}{r:aH}{C M:aW}{D:aj}{U:aC}{R:cO}{sL:eP}{vs:iO}
variable{Q:Bool}{B W n m:Nat}{I:dh}{O:gi}{P:aG}{w wI:aj}{Post:qz}{l:aN}{J sa:eP}{L:oF}{g:Nat->Cl}
abbrev oG(L:oF)(i:Nat):List Value:=[i6 (L i 0),i6 (L i 1),i6 (L i 2),i6 (L i 3),i6 (L i 4),i6 (L i 5)]
def iI(F:aB prog Q (DX I) O)(o:HB B I)(n lo d:Int)(m:Sat I w M)(a:B<=w.heap.size)(K:∀D,Sat I D M->w.heap.size<=D.heap.size->O (G (U.finish (.bool (eB lo n d))) R) D):O (G (Frame.enter prog 58 #[i6 lo,i6 n,i6 d] .normal) (U::R)) w:=by
 by_cases p:lo<=n
 .have j:decide (lo<=n)=true:=ξ
  refine cJ func58 m 15 λr s t q b c a l h=>ZI F o b c a l 16 [] 126 [] 6 (.bool (decide (n<=d))) 16 1 [] [] [(decide (lo<=n),true)] [] [] λf k g i=>?_;have e:eB lo n d=decide (n<=d):=by unfold eB;simp[p]
  rw[e]at K;exact K f k.sat ω
 .have j:decide (lo<=n)=false:=ξ
  refine cJ func58 m 15 λr s t q b c a l h=>ZI F o b c a l 16 [] 84 [] 6 (.bool false) 16 1 [] [] [(decide (lo<=n),false)] [] [] λf k g i=>?_;have e:eB lo n d=false:=by unfold eB;simp[p]
  rw[e]at K;exact K f k.sat ω
def F8(F:aB prog Q (DX I) O)(h:HB B I)(k a b c d e:Int)(hS:Sat I w M)(yQ:B<=w.heap.size)(K:∀D,Sat I D M->w.heap.size<=D.heap.size->O (G (U.finish (.bool (aF k a b c d e))) R) D):O (G (Frame.enter prog 43 #[.agg #[i6 k,i6 a,i6 b,i6 c,i6 d,i6 e]] .normal) (U::R)) w:=by
 by_cases k1:k=1
 .subst k1;refine cJ func43 hS 79 λbb a0 p hn f g l S N=>aq (λM=>bR (p) [i6 1,i6 a,i6 b,i6 c,i6 d,i6 e]::(M)) 1 F h f l S 22 [0,0,0,2] 7 [] [(8,i6 a),(1,ptr p)] 22 3 [] λa1 w1 t s L P o9=>ah F f s t 9 58 #[i6 1,i6 a,i6 9] λyS i=>iI F h a 1 9 t.sat ω λw2 h2 yP=>i _ _ _ h2 λa2 B2 y j Z=>?_;cases m:eB 1 a 9<;>rw[m]at y
  .refine UF F h f g j y 17 [] 349525 [] 2 (.bool false) 40 3 [] λJ q u v=>?_;rw[show aF 1 a b c d e=false by simp[aF,m]]at K;exact K J q.sat.tail ω
  refine Rb F h f j y 3 [0,0,2,1] 31 [] [(12,i6 b),(10,.bool true),(1,ptr p)] 26 3 [] λa3 J q C u v mH=>ah F f C q 13 58 #[i6 0,i6 b,i6 1000] λIb o=>iI F h b 0 1000 q.sat ω λw4 h4 FO=>o _ _ _ h4 λa4 B4 E n Bj=>?_;cases r:eB 0 b 1000<;>rw[r]at E
  .refine UF F h f g n E 13 [] 5461 [] 2 (.bool false) 40 3 [] λH x z A=>?_;rw[show aF 1 a b c d e=false by simp[aF,m,r]]at K;exact K H x.sat.tail ω
  refine Rb F h f n E 4 [0,0,3,1] 31 [] [(17,i6 c),(15,.bool true),(1,ptr p)] 31 3 [] λa5 H x Yv z A qO=>ah F f Yv x 18 58 #[i6 1,i6 c,i6 9] λLO X=>iI F h c 1 9 x.sat ω λw6 h6 Hf=>X _ _ _ h6 λa6 B6 S6 V YG=>?_;cases Y:eB 1 c 9<;>rw[Y]at S6
  .refine UF F h f g V S6 8 [] 85 [] 2 (.bool false) 40 3 [] λw7 S7 OD YQ=>?_;rw[show aF 1 a b c d e=false by simp[aF,m,r,Y]]at K;exact K w7 S7.sat.tail ω
  refine Rb F h f V S6 4 [0,0,4,1] 31 [] [(22,i6 d),(20,.bool true)] 36 3 [] λa7 w7 S7 CI OD YQ DJ=>ah F f CI S7 23 58 #[i6 0,i6 d,i6 10000] λRU W=>iI F h d 0 10000 S7.sat ω λw8 h8 IV=>W _ _ _ h8 λa8 B8 S8 T FN=>?_;cases q4:eB 0 d 10000<;>rw[q4]at S8
  .refine UF F h f g T S8 3 [] 1 [] 2 (.bool false) 40 3 [] λw9 S9 Tl He=>?_;rw[show aF 1 a b c d e=false by simp[aF,m,r,Y,q4]]at K;exact K w9 S9.sat.tail ω
  refine UF F h f g T S8 3 [] 1 [] 2 (.bool true) 40 3 [] λw9 S9 Tl He=>?_;rw[show aF 1 a b c d e=true by simp[aF,m,r,Y,q4]]at K;exact K w9 S9.sat.tail ω
 have w:(k==1)=false:=ξ
 by_cases k2:k=2
 .subst k2;refine cJ func43 hS 79 λbb a0 p hn f g l S N=>bB (λM=>bR (p) [i6 2,i6 a,i6 b,i6 c,i6 d,i6 e]::(M)) 1 F h f g l S 28 [0,0,0,1] 29 [] 2 (.bool true) 28 6 [] λw1 t L P=>K w1 t.sat.tail ω
 have w:(k==2)=false:=ξ
 by_cases k3:k=3
 .subst k3;refine cJ func43 hS 79 λbb a0 p hn f g l S N=>aq (λM=>bR (p) [i6 3,i6 a,i6 b,i6 c,i6 d,i6 e]::(M)) 1 F h f l S 34 [0,0,0,2] 117 [] [(30,i6 a),(1,ptr p)] 34 12 [] λa1 w1 t s L P o9=>ah F f s t 31 58 #[i6 1,i6 a,i6 1000] λyS i=>iI F h a 1 1000 t.sat ω λw2 h2 yP=>i _ _ _ h2 λa2 B2 y j Z=>?_;cases m:eB 1 a 1000<;>rw[m]at y
  .refine UF F h f g j y 7 [] 85 [] 2 (.bool false) 42 12 [] λJ q u v=>?_;rw[show aF 3 a b c d e=false by simp[aF,m]]at K;exact K J q.sat.tail ω
  refine Rb F h f j y 3 [0,0,2,1] 31 [] [(34,i6 b),(32,.bool true)] 38 12 [] λa3 J q C u v mH=>ah F f C q 35 58 #[i6 1,i6 b,i6 20] λIb o=>iI F h b 1 20 q.sat ω λw4 h4 FO=>o _ _ _ h4 λa4 B4 E n Bj=>?_;cases r:eB 1 b 20<;>rw[r]at E
  .refine UF F h f g n E 3 [] 1 [] 2 (.bool false) 42 12 [] λH x z A=>?_;rw[show aF 3 a b c d e=false by simp[aF,m,r]]at K;exact K H x.sat.tail ω
  refine UF F h f g n E 3 [] 1 [] 2 (.bool true) 42 12 [] λH x z A=>?_;rw[show aF 3 a b c d e=true by simp[aF,m,r]]at K;exact K H x.sat.tail ω
 have w:(k==3)=false:=ξ
 by_cases k4:k=4
 .subst k4;refine cJ func43 hS 79 λbb a0 p hn f g l S N=>aq (λM=>bR (p) [i6 4,i6 a,i6 b,i6 c,i6 d,i6 e]::(M)) 1 F h f l S 40 [0,0,0,2] 469 [] [(40,i6 a),(1,ptr p)] 40 24 [] λa1 w1 t s L P o9=>ah F f s t 41 58 #[i6 1,i6 a,i6 20] λyS i=>iI F h a 1 20 t.sat ω λw2 h2 yP=>i _ _ _ h2 λa2 B2 y j Z=>?_;cases m:eB 1 a 20<;>rw[m]at y
  .refine UF F h f g j y 24 [] 357913941 [] 2 (.bool false) 65 24 [] λJ q u v=>?_;rw[show aF 4 a b c d e=false by simp[aF,m]]at K;exact K J q.sat.tail ω
  refine Rb F h f j y 5 [0,0,2,1,0,0,1,1] 511 [] [(46,i6 a),(42,.bool true),(44,i6 b),(1,ptr p)] 46 24 [] λa3 J q C u v mH=>ah F f C q 47 58 #[i6 1,i6 b,i6 a] λIb o=>iI F h b 1 a q.sat ω λw4 h4 FO=>o _ _ _ h4 λa4 B4 E n Bj=>?_;cases r:eB 1 b a<;>rw[r]at E
  .refine UF F h f g n E 18 [] 349525 [] 2 (.bool false) 65 24 [] λH x z A=>?_;rw[show aF 4 a b c d e=false by simp[aF,m,r]]at K;exact K H x.sat.tail ω
  refine Rb F h f n E 4 [0,0,3,1] 31 [] [(51,i6 c),(49,.bool true),(1,ptr p)] 51 24 [] λa5 H x Yv z A qO=>ah F f Yv x 52 58 #[i6 1,i6 c,i6 100] λLO X=>iI F h c 1 100 x.sat ω λw6 h6 Hf=>X _ _ _ h6 λa6 B6 S6 V YG=>?_;cases Y:eB 1 c 100<;>rw[Y]at S6
  .refine UF F h f g V S6 13 [] 5461 [] 2 (.bool false) 65 24 [] λw7 S7 OD YQ=>?_;rw[show aF 4 a b c d e=false by simp[aF,m,r,Y]]at K;exact K w7 S7.sat.tail ω
  refine Rb F h f V S6 4 [0,0,4,1] 31 [] [(56,i6 d),(54,.bool true),(1,ptr p)] 56 24 [] λa7 w7 S7 CI OD YQ DJ=>ah F f CI S7 57 58 #[i6 0,i6 d,i6 1000] λRU W=>iI F h d 0 1000 S7.sat ω λw8 h8 IV=>W _ _ _ h8 λa8 B8 S8 T FN=>?_;cases q4:eB 0 d 1000<;>rw[q4]at S8
  .refine UF F h f g T S8 8 [] 85 [] 2 (.bool false) 65 24 [] λw9 S9 Tl He=>?_;rw[show aF 4 a b c d e=false by simp[aF,m,r,Y,q4]]at K;exact K w9 S9.sat.tail ω
  refine Rb F h f T S8 4 [0,0,5,1] 31 [] [(61,i6 e),(59,.bool true)] 61 24 [] λw w9 S9 w Tl He B=>ah F f w S9 62 58 #[i6 1,i6 e,i6 9] λw w=>iI F h e 1 9 S9.sat ω λB B G=>w _ _ _ B λw w yU Zl w=>?_;cases q5:eB 1 e 9<;>rw[q5]at yU
  .refine UF F h f g Zl yU 3 [] 1 [] 2 (.bool false) 65 24 [] λw B G T=>?_;rw[show aF 4 a b c d e=false by simp[aF,m,r,Y,q4,q5]]at K;exact K w B.sat.tail ω
  refine UF F h f g Zl yU 3 [] 1 [] 2 (.bool true) 65 24 [] λw B G T=>?_;rw[show aF 4 a b c d e=true by simp[aF,m,r,Y,q4,q5]]at K;exact K w B.sat.tail ω
 have w:(k==4)=false:=ξ
 by_cases k5:k=5
 .subst k5;refine cJ func43 hS 79 λbb a0 p hn f g l S N=>aq (λM=>bR (p) [i6 5,i6 a,i6 b,i6 c,i6 d,i6 e]::(M)) 1 F h f l S 46 [0,0,0,2] 1877 [] [(67,i6 a),(1,ptr p)] 46 48 [] λa1 w1 t s L P o9=>ah F f s t 68 58 #[i6 1,i6 a,i6 9] λyS i=>iI F h a 1 9 t.sat ω λw2 h2 yP=>i _ _ _ h2 λa2 B2 y j Z=>?_;cases m:eB 1 a 9<;>rw[m]at y
  .refine UF F h f g j y 7 [] 85 [] 2 (.bool false) 54 48 [] λJ q u v=>?_;rw[show aF 5 a b c d e=false by simp[aF,m]]at K;exact K J q.sat.tail ω
  refine Rb F h f j y 3 [0,0,2,1] 31 [] [(71,i6 b),(69,.bool true)] 50 48 [] λa3 J q C u v mH=>ah F f C q 72 58 #[i6 0,i6 b,i6 1000] λIb o=>iI F h b 0 1000 q.sat ω λw4 h4 FO=>o _ _ _ h4 λa4 B4 E n Bj=>?_;cases r:eB 0 b 1000<;>rw[r]at E
  .refine UF F h f g n E 3 [] 1 [] 2 (.bool false) 54 48 [] λH x z A=>?_;rw[show aF 5 a b c d e=false by simp[aF,m,r]]at K;exact K H x.sat.tail ω
  refine UF F h f g n E 3 [] 1 [] 2 (.bool true) 54 48 [] λH x z A=>?_;rw[show aF 5 a b c d e=true by simp[aF,m,r]]at K;exact K H x.sat.tail ω
 have n:(k==5)=false:=ξ
 by_cases hk:k=6
 .subst hk;refine cJ func43 hS 79 λbb a0 p hn f g l S N=>aq (λM=>bR (p) [i6 6,i6 a,i6 b,i6 c,i6 d,i6 e]::(M)) 1 F h f l S 52 [0,0,0,2] 7509 [] [(77,i6 a)] 52 96 [] λa1 w1 t s L P o9=>ah F f s t 78 58 #[i6 1,i6 a,i6 1000] λyS i=>iI F h a 1 1000 t.sat ω λw2 h2 yP=>i _ _ _ h2 λa2 B2 y j Z=>UF F h f g j y 2 [] 1 [] 2 (.bool (eB 1 a 1000)) 55 96 [] λJ q u v=>?_;rw[show aF 6 a b c d e=eB 1 a 1000 by simp[aF]]at K;exact K J q.sat.tail ω
 have i:(k==6)=false:=ξ
 refine cJ func43 hS 79 λbb a0 p hn f g l S N=>oH (λM=>bR (p) [i6 k,i6 a,i6 b,i6 c,i6 d,i6 e]::(M)) 1 F h f g l S 54 [0,0,0,1] 4096 [] 2 (.bool false) 54 64 [] [] [(k==6,false),(k==5,false),(k==4,false),(k==3,false),(k==2,false),(k==1,false)] [] [] λw1 t L P=>?_;have e:aF k a b c d e=false:=by simp only[aF,af k1,af k2,af k3,af k4,af k5,af hk]
 rw[e]at K;exact K w1 t.sat.tail ω
def IG(F:aB prog Q (DX I) O)(d:HB B I){A:aC}(b:A.kind=.normal)(c:A.fn=44){U:aC}{R:cO}{M:aW}{s:eP}{n k:Nat}{T:oF}(P:n<=12)(l:0<n->∃a,s=some a){B1:Nat}(y:B<=B1):
 ∀(m i:Nat)(q:Act)(w:aj)(f:Nat),i+m=n->q.defers=[]->B1<=f->w.heap.size=f->St I f 33 [(18,i6 i),(17,i6 n),(16,.slice s n k)] (fR (s.getD ⟨0,0,none⟩) 3 (λj=>[i6 (T j 0),i6 (T j 1),i6 (T j 2)]) n false::M) 0 q w->
   (∀D,Sat I D M->w.heap.size<=D.heap.size->O (G (U.finish (.bool (lQ T m i))) R) D)->O (G (A.at q (pc prog 44 31 [false] [])) (U::R)) w
 |0,i,q,w,f,S,h,z,v,H,K=>by
  have a:decide ((i:Int)<(n:Int))=false:=θ
  refine ZI F d b c h H 11 [] 4 [] 2 (.bool true) 42 4 [] [] [(decide ((↑i:Int)<(↑n:Int)),false)] [] [] λJ r t x=>K J r.sat.tail ω
 |m+1,i,q,w,f,S,h,z,v,H,K=>by
  obtain⟨u,rfl⟩:=l ω;have e:lQ T (m+1) i=(eB 1 (T i 0) 4&&eB 0 (T i 2) 1000&&lQ T m (i+1)):=rfl;rw[e]at K;refine aX (λM=>bR (f) [i6 (T i 0),i6 (T i 1),i6 (T i 2)]::(M)) 1 F d b h H 20 [0,i,0,103,0,0,0,3,0,0,0,1] 26 [] [(23,i6 (T i 0)),(4,ptr f),(18,i6 i),(17,i6 n),(16,.slice (some u) n k)] 51 6 [] [] [(decide ((↑i:Int)<(↑n:Int)),true)] [((↑i:Int),n)] [(3,(i,n))] λa J r a t x e=>ah F b a r 24 58 #[i6 1,i6 (T i 0),i6 4] λa a=>iI F d (T i 0) 1 4 r.sat ω λe h e=>a _ _ _ h λa a E p a=>?_;cases N:eB 1 (T i 0) 4<;>rw[N]at E K
  .refine UF F d b c p E 13 [] 2047 [] 2 (.bool false) 65 14 [] λj e a h=>K j e.sat.tail.tail ω
  refine Rb F d b p E 4 [0,0,2,1] 21 [] [(28,i6 (T i 2)),(26,.bool false),(27,.pointer (some (Addr.mk f 2 none))),(18,i6 i),(17,i6 n),(16,.slice (some u) n k)] 56 6 [] λp j e j a h a=>ah F b j e 29 58 #[i6 0,i6 (T i 2),i6 1000] λa a=>iI F d (T i 2) 0 1000 e.sat ω λe h e=>a _ _ _ h λa V C o a=>?_;cases L:eB 0 (T i 2) 1000<;>rw[L]at C K
  .refine UF F d b c o C 8 [] 29 [] 2 (.bool false) 65 14 [] λa g e h=>K a g.sat.tail.tail ω
  have j:wp i=((i+1:Nat):Int):=j6;refine Rb F d b o C 11 [] 21 [] [(18,i6 (wp i)),(30,.bool false),(29,.bool true),(28,i6 (T i 2)),(27,.pointer (some (Addr.mk f 2 none))),(17,i6 n),(16,.slice (some u) n k)] 68 10 [] λo a g f e h e=>?_;rw[j]at g;replace g:=g.dB [(18,i6 ((i+1:Nat):Int)),(17,i6 n),(16,.slice (some u) n k)] rfl;rw[show pc prog 44 68 (Bo 10) []=pc prog 44 31 [false] [] by kernel_rfl];exact IG F d b c P l y m (i+1) o a V ω f ω ω ⟨g.env,g.sat.tail,g.sz⟩ λD a b=>K D a ω
def NJ(F:aB prog Q (DX I) O)(g:HB B I){st:Int}{f:eP}{k:Nat}{T:oF}(h:0<n->∃a,f=some a/\Has M (fR a 3 (λj=>[i6 (T j 0),i6 (T j 1),i6 (T j 2)]) n false))(l:Sat I w M)(a:B<=w.heap.size)(K:∀D,Sat I D M->w.heap.size<=D.heap.size->O (G (U.finish (.bool (iF st n T))) R) D):O (G (Frame.enter prog 44 #[.agg #[i6 st,.slice f n k]] .normal) (U::R)) w:=by
 replace l:Sat I w (fR (f.getD ⟨0,0,none⟩) 3 (λj=>[i6 (T j 0),i6 (T j 1),i6 (T j 2)]) n false::M):=by
  by_cases z:0<n
  .obtain⟨u,rfl,i⟩:=h z;exact l.get i
  .exact l.qj ξ rfl
 refine cJ func44 l 33 λa a h a b e a j i=>aq (λM=>bR (h) [i6 st,.slice f n k]::(M)) 1 F g b a j 10 [0,0,0,1] 1 [] [(6,i6 st),(1,ptr h)] 10 1 [] λa a h a i i i=>ah F b a h 7 58 #[i6 0,i6 st,i6 1000] λa a=>iI F g st 0 1000 h.sat ω λh i h=>a _ _ _ i λa o m d a=>?_;unfold iF at K;cases q:eB 0 st 1000<;>rw[q]at m K
 .refine UF F g b e d m 13 [] 2047 [] 2 (.bool false) 24 3 [] λa c h i=>K a c.sat.tail.tail ω
 by_cases p:n<=12
 .have j:decide ((n:Int)>12)=false:=θ
  rw[show decide (12<n)=false by simp;omega]at K;refine TP F g b d m 20 [0,0,1,1,0,0,1,1] 1109 [] [(18,i6 0),(17,i6 n),(16,.slice f n k)] 31 2 [] [] [(decide ((↑n:Int)>12),false)] [] [] λs a c j h i r=>?_;replace c:=c.dB [(18,i6 ((0:Nat):Int)),(17,i6 n),(16,.slice f n k)] rfl;exact IG F g b e p (λz=>χ) (B1:=o) ω n 0 s a o (bK _) j (az _) ω ⟨c.env,c.sat.tail,c.sz⟩ λD f j=>K D f ω
 .rw[show decide (12<n)=true by simp;omega]at K;refine ZI F g b e d m 13 [0,0,1,1] 1621 [] 2 (.bool false) 24 3 [] [] [(decide ((↑n:Int)>12),true)] [] [] λa c h i=>K a c.sat.tail.tail ω
def KZ(F:aB prog Q (DX I) O)(h:HB B I){y:aC}(b:y.kind=.normal)(f:y.fn=26){U:aC}{R:cO}{M:aW}{sa:eP}{n cap:Nat}{g:Nat->Cl}(N:n<=9)(l:0<n->∃a,sa=some a)(J:∀j,j<n->0<(g j).nt->∃a,(g j).ta=some a/\Has M (fR a 3 (λi=>[i6 ((g j).T i 0),i6 ((g j).T i 1),i6 ((g j).T i 2)]) (g j).nt false)):
 ∀(m i:Nat)(p:Act)(w:aj)(k:Nat),i+m=n->p.defers=[]->B<=k->w.heap.size=k->St I k 19 [(7,i6 i),(6,i6 n),(5,.slice sa n cap),(0,.slice sa n cap)] (fR (sa.getD ⟨0,0,none⟩) 2 (λj=>[i6 (g j).st,.slice (g j).ta (g j).nt (g j).tc]) n false::M) 0 p w->
   (∀D,Sat I D M->w.heap.size<=D.heap.size->O (G (U.finish (i6 (fY g m i))) R) D)->O (G (y.at p (pc prog 26 13 [] [])) (U::R)) w
 |0,i,p,w,k,P,d,x,t,C,K=>by
  have j:decide ((i:Int)<(n:Int))=false:=θ
  have e:fY g 0 i=n:=by show i=n;omega
  rw[e]at K;refine ZI F h b f d C 13 [] 4 [] 2 (i6 n) 26 2 [] [] [(decide ((↑i:Int)<(↑n:Int)),false)] [] [] λH q s v=>K H q.sat.tail ω
 |m+1,i,p,w,k,P,d,x,t,C,K=>by
  obtain⟨u,rfl⟩:=l ω;refine aX (λM=>bR (k) [i6 (g i).st,.slice (g i).ta (g i).nt (g i).tc]::(M)) 1 F h b d C 21 [0,i,0,102,0,0,0,2,0,0,0,2] 26 [] [(12,.agg #[i6 (g i).st,.slice (g i).ta (g i).nt (g i).tc]),(3,i6 i),(7,i6 i),(6,i6 n),(5,.slice (some u) n cap),(0,.slice (some u) n cap)] 34 3 [] [] [(decide ((↑i:Int)<(↑n:Int)),true)] [((↑i:Int),n)] [(2,(i,n))] λd H q d s v j=>ah F b d q 13 44 #[.agg #[i6 (g i).st,.slice (g i).ta (g i).nt (g i).tc]] λd d=>?_;have j:=J i ω;refine NJ F h (λz=>by let⟨a,r,E⟩:=j z;exact⟨a,r,E.cons.cons⟩) q.sat ω λa j a=>d _ _ _ j λa S A o a=>?_;have e:fY g (m+1) i=if iF (g i).st (g i).nt (g i).T=false then i else fY g m (i+1):=rfl;rw[e]at K;cases L:iF (g i).st (g i).nt (g i).T<;>rw[L]at A K
  .refine UF F h b f o A 8 [] 7 [] 2 (i6 i) 43 7 [] λa c d e=>K a c.sat.tail.tail ω
  have j:IntKind.wrap .i64 ((i:Int)+1)=((i+1:Nat):Int):=by rw[aA ω ω];rfl
  refine Rb F h b o A 10 [] 5 [] [(7,i6 (IntKind.wrap .i64 ((↑i:Int)+1))),(6,i6 n),(5,.slice (some u) n cap),(0,.slice (some u) n cap)] 45 5 [] λk a c g d e d=>?_;rw[j]at c;replace c:=c.dB [(7,i6 ((i+1:Nat):Int)),(6,i6 n),(5,.slice (some u) n cap),(0,.slice (some u) n cap)] rfl;rw[show pc prog 26 45 (Bo 5) []=pc prog 26 13 [] [] by kernel_rfl];exact KZ F h b f N l J m (i+1) k a S ω g ω ω ⟨c.env,c.sat.tail,c.sz⟩ λD r E=>K D r ω
def Ge(F:aB prog Q (DX I) O)(f:HB B I){bb:aC}(b:bb.kind=.normal)(d:bb.fn=25){U:aC}{R:cO}{M:aW}{sL:eP}{n cap:Nat}{L:oF}(hn:n<=6)(v:0<n->∃a,sL=some a):
 ∀(m i:Nat)(r:Int)(J:Act)(w:aj)(l:Nat),i+m=n->0<=r->r<=2->J.defers=[]->B<=l->w.heap.size=l->St I l 29 [(8,i6 i),(7,i6 n),(6,.slice sL n cap),(3,i6 r),(0,.slice sL n cap)] (fR (sL.getD ⟨0,0,none⟩) 6 (oG L) n false::M) 0 J w->
   (∀D,Sat I D M->w.heap.size<=D.heap.size->O (G (U.finish (i6 (cZ L m i r))) R) D)->O (G (bb.at J (pc prog 25 17 [] [])) (U::R)) w
 |0,i,r,J,w,l,hi,Z,hr,h,Rg,T,N,K=>by
  have g1:decide ((i:Int)<(n:Int))=false:=θ
  have e:cZ L 0 i r=n:=by show i=n;omega
  rw[e]at K;refine ZI F f b d h N 13 [] 4 [] 2 (i6 n) 30 2 [] [] [(decide ((↑i:Int)<(↑n:Int)),false)] [] [] λC k q t=>K C k.sat.tail ω
 |m+1,i,r,J,w,l,hi,Z,hr,h,Rg,T,N,K=>by
  have g1:decide ((i:Int)<(n:Int))=true:=θ
  obtain⟨u,rfl⟩:=v ω;have e:cZ L (m+1) i r=if 2<(if L i 0=1 then r+1 else r)\/aF (L i 0) (L i 1) (L i 2) (L i 3) (L i 4) (L i 5)=false then i else cZ L m (i+1) (if L i 0=1 then r+1 else r):=rfl;rw[e]at K;have hw:IntKind.wrap .i64 ((i:Int)+1)=((i+1:Nat):Int):=by rw[aA ω ω];rfl
  have W:IntKind.wrap .i64 (r+1)=r+1:=aA ω ω;by_cases H:L i 0=1
  .have E:(L i 0==1)=true:=ξ
   rw[sJ H]at K;by_cases Y:r=2
   .subst Y;rw[sJ (.inl δ)]at K;refine oH (λM=>bR (l) [i6 (L i 0),i6 (L i 1),i6 (L i 2),i6 (L i 3),i6 (L i 4),i6 (L i 5)]::(M)) 1 F f b d h N 47 [0,i,0,106,0,0,0,6,0,0,0,1] 32746 [] 2 (i6 i) 64 15 [] [] [(L i 0==1,true),(decide ((↑i:Int)<(↑n:Int)),true)] [((↑i:Int),n)] [(6,(i,n))] λC k q t=>K C k.sat.tail.tail ω
   have a:decide (r+1>2)=false:=θ
   have X:decide (IntKind.wrap .i64 (r+1)>2)=false:=ξ
   refine aX (λM=>bR (l) [i6 (L i 0),i6 (L i 1),i6 (L i 2),i6 (L i 3),i6 (L i 4),i6 (L i 5)]::(M)) 1 F f b h N 37 [0,i,0,106,0,0,0,6,0,0,0,1,0,0,0,6] 298 [] [(21,.agg #[i6 (L i 0),i6 (L i 1),i6 (L i 2),i6 (L i 3),i6 (L i 4),i6 (L i 5)]),(20,.bool false),(3,i6 (IntKind.wrap .i64 (r+1))),(4,i6 i),(8,i6 i),(7,i6 n),(6,.slice (some u) n cap),(0,.slice (some u) n cap)] 54 7 [] [] [(decide (IntKind.wrap .i64 (r+1)>2),false),(L i 0==1,true),(decide ((↑i:Int)<(↑n:Int)),true)] [((↑i:Int),n)] [(6,(i,n))] λa1 C k y q t o9=>ah F b y k 22 43 #[.agg #[i6 (L i 0),i6 (L i 1),i6 (L i 2),i6 (L i 3),i6 (L i 4),i6 (L i 5)]] λyS j=>F8 F f (L i 0) (L i 1) (L i 2) (L i 3) (L i 4) (L i 5) k.sat ω λw2 z V=>j _ _ _ z λa2 B3 A g S=>?_;cases hq:aF (L i 0) (L i 1) (L i 2) (L i 3) (L i 4) (L i 5)<;>rw[hq]at A K
   .rw[sJ (.inr rfl)]at K;refine UF F f b d g A 9 [] 29 [] 2 (i6 i) 64 15 [] λo c p s=>K o c.sat.tail.tail ω
   rw[af ξ]at K;refine Rb F f b g A 11 [] 21 [] [(8,i6 (IntKind.wrap .i64 ((↑i:Int)+1))),(23,.bool false),(22,.bool true),(21,.agg #[i6 (L i 0),i6 (L i 1),i6 (L i 2),i6 (L i 3),i6 (L i 4),i6 (L i 5)]),(3,i6 (IntKind.wrap .i64 (r+1))),(7,i6 n),(6,.slice (some u) n cap),(0,.slice (some u) n cap)] 66 11 [] λa3 o c x p s mH=>?_;rw[hw,W]at c;replace c:=c.dB [(8,i6 ((i+1:Nat):Int)),(7,i6 n),(6,.slice (some u) n cap),(3,i6 (r+1)),(0,.slice (some u) n cap)] rfl;rw[show pc prog 25 66 (Bo 11) []=pc prog 25 17 [] [] by kernel_rfl];exact Ge F f b d hn v m (i+1) (r+1) a3 o B3 ω ω ω x ω ω ⟨c.env,c.sat.tail,c.sz⟩ λD P z2=>K D P ω
  .have E:(L i 0==1)=false:=ξ
   rw[af H]at K;have X:decide (r>2)=false:=θ
   refine aX (λM=>bR (l) [i6 (L i 0),i6 (L i 1),i6 (L i 2),i6 (L i 3),i6 (L i 4),i6 (L i 5)]::(M)) 1 F f b h N 33 [0,i,0,106,0,0,0,6,0,0,0,1,0,0,0,6] 266 [] [(21,.agg #[i6 (L i 0),i6 (L i 1),i6 (L i 2),i6 (L i 3),i6 (L i 4),i6 (L i 5)]),(20,.bool false),(4,i6 i),(8,i6 i),(7,i6 n),(6,.slice (some u) n cap),(3,i6 r),(0,.slice (some u) n cap)] 50 5 [] [] [(decide (r>2),false),(L i 0==1,false),(decide ((↑i:Int)<(↑n:Int)),true)] [((↑i:Int),n)] [(6,(i,n))] λa1 C k y q t o9=>ah F b y k 22 43 #[.agg #[i6 (L i 0),i6 (L i 1),i6 (L i 2),i6 (L i 3),i6 (L i 4),i6 (L i 5)]] λyS j=>F8 F f (L i 0) (L i 1) (L i 2) (L i 3) (L i 4) (L i 5) k.sat ω λw2 z V=>j _ _ _ z λa2 B3 A g S=>?_;cases hq:aF (L i 0) (L i 1) (L i 2) (L i 3) (L i 4) (L i 5)<;>rw[hq]at A K
   .rw[sJ (.inr rfl)]at K;refine UF F f b d g A 9 [] 29 [] 2 (i6 i) 60 13 [] λo c p s=>K o c.sat.tail.tail ω
   rw[af ξ]at K;refine Rb F f b g A 11 [] 21 [] [(8,i6 (IntKind.wrap .i64 ((↑i:Int)+1))),(23,.bool false),(22,.bool true),(21,.agg #[i6 (L i 0),i6 (L i 1),i6 (L i 2),i6 (L i 3),i6 (L i 4),i6 (L i 5)]),(7,i6 n),(6,.slice (some u) n cap),(3,i6 r),(0,.slice (some u) n cap)] 62 9 [] λa3 o c x p s mH=>?_;rw[hw]at c;replace c:=c.dB [(8,i6 ((i+1:Nat):Int)),(7,i6 n),(6,.slice (some u) n cap),(3,i6 r),(0,.slice (some u) n cap)] rfl;rw[show pc prog 25 62 (Bo 9) []=pc prog 25 17 [] [] by kernel_rfl];exact Ge F f b d hn v m (i+1) r a3 o B3 ω ω ω x ω ω ⟨c.env,c.sat.tail,c.sz⟩ λD P z2=>K D P ω
def Rj(F:aB prog Q (DX I) O)(f:HB B I)(i:n<=6)(c:0<n->∃a,sL=some a/\Has M (fR a 6 (oG L) n false))(b:Sat I w M)(a:B<=w.heap.size)(K:∀D,Sat I D M->w.heap.size<=D.heap.size->O (G (U.finish (i6 (cZ L n 0 0))) R) D):O (G (Frame.enter prog 25 #[.slice sL n cap] .normal) (U::R)) w:=by
 replace b:Sat I w (fR (sL.getD ⟨0,0,none⟩) 6 (oG L) n false::M):=by
  by_cases z:0<n
  .obtain⟨u,rfl,d⟩:=c z;exact b.get d
  .exact b.qj ξ rfl
 refine cJ func25 b 29 λa a k a a d c h g=>Rb F f a c h 17 [] 1 [] [(8,i6 0),(7,i6 n),(6,.slice sL n cap),(3,i6 0),(0,.slice sL n cap)] 17 1 [] λj g e c h h h=>?_;replace e:=e.dB [(8,i6 ((0:Nat):Int)),(7,i6 n),(6,.slice sL n cap),(3,i6 0),(0,.slice sL n cap)] rfl;exact Ge F f a d i (λz=>χ) n 0 0 j g k (bK _) ω ω c ω ω e λD a c=>K D a ω
def Rk(F:aB prog Q (DX I) O)(f:HB B I)(l:n<=9)(d:0<n->∃a,sa=some a/\Has M (fR a 2 (λj=>[i6 (g j).st,.slice (g j).ta (g j).nt (g j).tc]) n false))(k:∀j,j<n->0<(g j).nt->∃a,(g j).ta=some a/\Has M (fR a 3 (λi=>[i6 ((g j).T i 0),i6 ((g j).T i 1),i6 ((g j).T i 2)]) (g j).nt false))(b:Sat I w M)(a:B<=w.heap.size)(K:∀D,Sat I D M->w.heap.size<=D.heap.size->O (G (U.finish (i6 (fY g n 0))) R) D):O (G (Frame.enter prog 26 #[.slice sa n cap] .normal) (U::R)) w:=by
 replace b:Sat I w (fR (sa.getD ⟨0,0,none⟩) 2 (λj=>[i6 (g j).st,.slice (g j).ta (g j).nt (g j).tc]) n false::M):=by
  by_cases z:0<n
  .obtain⟨u,rfl,c⟩:=d z;exact b.get c
  .exact b.qj ξ rfl
 refine cJ func26 b 19 λa a j a a d c h g=>Rb F f a c h 13 [] 1 [] [(7,i6 0),(6,i6 n),(5,.slice sa n cap),(0,.slice sa n cap)] 13 1 [] λi g e c h h h=>?_;replace e:=e.dB [(7,i6 ((0:Nat):Int)),(6,i6 n),(5,.slice sa n cap),(0,.slice sa n cap)] rfl;exact KZ F f a d l (λz=>χ) k n 0 i g j (bK _) c ω ω e λD a c=>K D a ω
def r8(F:aB prog Q (DX I) O)(d:HB B I)(s:0<n->∃a,sL=some a/\Has M (fR a 6 (oG L) n false))(u:0<m->∃a,sa=some a/\Has M (fR a 2 (λj=>[i6 (g j).st,.slice (g j).ta (g j).nt (g j).tc]) m false))(t:∀j,j<m->0<(g j).nt->∃a,(g j).ta=some a/\Has M (fR a 3 (λi=>[i6 ((g j).T i 0),i6 ((g j).T i 1),i6 ((g j).T i 2)]) (g j).nt false))(p:Sat I w M)(a:B<=w.heap.size)(K:∀D,Sat I D M->w.heap.size<=D.heap.size->O (G (U.finish (.tuple #[i6 (jG n L m g).1,i6 (jG n L m g).2])) R) D):O (G (Frame.enter prog 14 #[.slice sL n cA,.slice sa m cap] .normal) (U::R)) w:=by
 unfold jG at K;by_cases q:6<n
 .have a:decide ((n:Int)>6)=true:=θ
  rw[sJ q]at K;refine cJ func14 p 28 λv x y r a b e l i=>TP F d a e l 18 [] 6 [] [(5,i6 0),(4,i6 1)] 18 3 [] [] [(decide ((↑n:Int)>6),true)] [] [] λw o f c h j k=>cC F f a b c [] (.tuple #[i6 1,i6 0]) ?_;exact K o f.sat ω
 rw[af q]at K;refine cJ func14 p 28 λv x y r a b e l i=>TP F d a e l 18 [] 4 [] [(11,.slice sL n cA),(0,.slice sL n cA),(1,.slice sa m cap)] 18 2 [] [] [(decide ((↑n:Int)>6),false)] [] [] λw o f c h j k=>ah F a c f 12 25 #[.slice sL n cA] λc c=>Rj F d ω s f.sat ω λe f e=>c _ _ _ f λc c o f c=>?_;by_cases p:cZ L n 0 0<n
 .have l:decide (((cZ L n 0 0:Nat):Int)<(n:Int))=true:=ξ
  rw[sJ p]at K;refine TP F d a f o 16 [] 6 [] [(5,i6 (↑(cZ L n 0 0):Int)),(4,i6 2)] 35 6 [] [] [(decide ((↑(cZ L n 0 0):Int)<(↑n:Int)),true)] [] [] λq k e c h i j=>cC F e a b c [] (.tuple #[i6 2,i6 (↑(cZ L n 0 0):Int)]) ?_;exact K k e.sat ω
 have l:decide (((cZ L n 0 0:Nat):Int)<(n:Int))=false:=ξ
 rw[af p]at K;by_cases l:9<m
 .have p:decide ((m:Int)>9)=true:=θ
  rw[sJ l]at K;refine TP F d a f o 24 [] 24 [] [(5,i6 0),(4,i6 3)] 43 12 [] [] [(decide ((↑m:Int)>9),true),(decide ((↑(cZ L n 0 0):Int)<(↑n:Int)),false)] [] [] λq k e c h i j=>cC F e a b c [] (.tuple #[i6 3,i6 0]) ?_;exact K k e.sat ω
 rw[af l]at K;refine TP F d a f o 24 [] 16 [] [(21,.slice sa m cap),(1,.slice sa m cap)] 43 8 [] [] [(decide ((↑m:Int)>9),false),(decide ((↑(cZ L n 0 0):Int)<(↑n:Int)),false)] [] [] λq k e c h i j=>ah F a c e 22 26 #[.slice sa m cap] λc c=>Rk F d ω u t e.sat ω λe f e=>c _ _ _ f λc c o e c=>?_;by_cases h:fY g m 0<m
 .have f:decide (((fY g m 0:Nat):Int)<(m:Int))=true:=ξ
  rw[sJ h]at K;refine TP F d a e o 16 [] 6 [] [(5,i6 (↑(fY g m 0):Int)),(4,i6 4)] 60 24 [] [] [(decide ((↑(fY g m 0):Int)<(↑m:Int)),true)] [] [] λp j i c k l n=>cC F i a b c [] (.tuple #[i6 4,i6 (↑(fY g m 0):Int)]) ?_;exact K j i.sat ω
 have f:decide (((fY g m 0:Nat):Int)<(m:Int))=false:=ξ
 rw[af h]at K;refine TP F d a e o 16 [] 4 [] [(5,i6 0),(4,i6 0)] 60 16 [] [] [(decide ((↑(fY g m 0):Int)<(↑m:Int)),false)] [] [] λp j i c k l n=>cC F i a b c [] (.tuple #[i6 0,i6 0]) ?_;exact K j i.sat ω
def bkU(Z:aW)(alt:List (Nat×List Hint))(F:aB P Q (DX I) O)(Nd:P.follows .mixedOrders=true)(hB:HB B I){b:aC}(hk:b.kind=.normal){f g:Nat}{d:iy}{c:aN}(q:Nat)(X:List Hint)(Y:iK)(C E2:Env)(cY:iK)(eK:List (Int×Nat))(A:List (Nat×Nat))(x:List Hint)(ed:List aH->List aH)(dx:Nat)(vx:ay){ds:wN}(hd:a.defers=ds)(ht:mP (pc P f g d c)=true)(r:((aL (pc P f g d c))[q]?).map (λo=>o.guard.isNone&&o.dst.isNone)=some true)(m:((aL (pc P f g d c))[q+1]?).map (λo=>o.guard.isNone&&!lN o&&o.op.operands.all (kn []))=some true)(j:((aL (pc P f g d c))[q+1]?).map (λo=>(o.dst,cV P (execOp (ev []) o)))=some (some dx,some (.value vx)))(h:J6 P Z alt (aL (pc P f g d c)) q E M 0 0 (C.map Prod.fst) (E2.map Prod.fst) [] (ET P B N E M 0 X Y (aL (pc P f g d c)) q)=some (⟨C.map (λp=>some p.2),E2.map (λp=>some p.2),M,0,cY,eK,A,true⟩,[],true))(hq:K5 Prod.fst (ET P B N E M 0 X Y (aL (pc P f g d c)) q)=K5 Prod.snd (ET P B N E M 0 X Y (aL (pc P f g d c)) q))(halt:tT P (aL (pc P f g d c)) Z alt true (ET P B N E M 0 X Y (aL (pc P f g d c)) q)=tT P (aL (pc P f g d c)) Z alt false (ET P B N E M 0 X Y (aL (pc P f g d c)) q))(i:(MF P B C (((aL (pc P f g d c))[q]?).getD default) ⟨[],⟨x,M,0,[],[]⟩,[],[],[]⟩).map (λp=>(p.1,p.2.m.M,p.2.m.c,p.2.m.cW,p.2.cY,p.2.eK))=some (.tuple #[],ed M,0,[],[],[]))(n:(MF P B C (((aL (pc P f g d c))[q]?).getD default) ⟨[],⟨x,M,0,[],[]⟩,[],[],[]⟩).map (λp=>p.2.m.eqs.map Prod.fst)=(MF P B C (((aL (pc P f g d c))[q]?).getD default) ⟨[],⟨x,M,0,[],[]⟩,[],[],[]⟩).map (λp=>p.2.m.eqs.map Prod.snd))(UU:.inRegion (aL (pc P f g d c)) (bP (q+2) ((aL (pc P f g d c)).size-(q+2)))::behind (pc P f g d c)=pc P f (g+1) d (c++[q+2]))(KN:∀p∈cY,p.1=p.2)(Vo:∀p∈eK,0<=p.1/\p.1<(p.2:Int))(Fj:∀p∈A,p.1<p.2)(hZ:∀w,Sat I w (ed M)->Sat I w Z)(S:St I B N E M 0 a w)(K:∀a' D,St I B N ((dx,vx)::E2) (ed M) 0 a' D->a'.defers=ds->D.heap.size=B->O (G (b.at a' (pc P f (g+1) d (c++[q+2]))) R) D):O (G (b.at a (pc P f g d c)) R) w:=by
 have Nh:b.kind≠.early:=ξ
 have L:∃id,pc P f g d c=.code (.region id (aL (pc P f g d c)) true)::behind (pc P f g d c):=by
  unfold mP at ht;split at ht
  .rename_i e;rw[e];exact⟨_,rfl⟩
  .cases ht
 let⟨id,L⟩:=L;rw[L];generalize UY:aL (pc P f g d c)=J at*;generalize QX:behind (pc P f g d c)=k at*;cases ho:J[q]? with
 |none=>rw[ho]at r;cases r
 |some o=>
 cases U:J[q+1]? with
 |none=>rw[U]at m;cases m
 |some ox=>
 rw[ho]at r i n;rw[U]at m j;simp only[cQ]at i n;simp only[fI,Option.some.injEq,bZ,Option.isNone_iff_eq_none,mA,Prod.mk.injEq]at r m j;let⟨hg,Nl⟩:=r;let⟨⟨Uw,Qb⟩,UM⟩:=m;let⟨j,Uu⟩:=j;cases T:ET P B N E M 0 X Y J q with
 |none=>rw[T]at h;cases h
 |some rr=>
  let⟨gL,al,y⟩:=rr;rw[T]at h hq halt;simp only[J6,Option.some.injEq,Prod.mk.injEq,PX.mk.injEq,bZ]at h;let⟨⟨h1,h2,h3,h4,h5,h6,h7,h8,h9⟩,KW,KV⟩:=h;have hM:oE y:=⟨fB _ hq,ξ,ξ,χ⟩;cases hv:MF P B C o ⟨[],⟨x,M,0,[],[]⟩,[],[],[]⟩with
  |none=>rw[hv]at i;cases i
  |some vy=>
   let⟨v,y2⟩:=vy;rw[hv]at i n;simp only[fI,Option.some.injEq,Prod.mk.injEq]at i n;obtain⟨rfl,ZV,s3,s4,s5,s6⟩:=i;have hm:oE y2:=⟨fB _ n,ξ,ξ,ξ⟩;refine XT (Post:=λv W=>v=.tuple #[]/\Sat I W y2.m.M/\W.heap.size=B) (ox:=ox) (Ex:=λ_=>[]) (vx:=λ_=>vx) F Nd hB Nh (az 1) ho T hM h8 h9 halt S (λv W hp=>⟨hZ _ ξ,ω⟩) (λ_=>⟨U,KV,Uw⟩) (λv W Ze _ a hA w=>?_) (λv W _ _ e u t=>by cases t) (λa1 w1 rest z1 H z3 z4=>?_) (λM5 v W l a' w3 z1 H z3 z4 z5=>?_)
   .have V:execOp a.eval ox=execOp (ev []) ox:=execOp_congr Qb λy hy=>hA.eval (yJ.1 UM y hy);have Na:=fV _ _ Uu;exact⟨by rw[V,<-fH (es:=#[]),Na],by unfold raw Sem.events;simp_all⟩
   .have S1:St I B N C M 0 a1 w1:=⟨⟨z1.sz,λe u t=>z1.val e u (ez C _ h1 e u t)⟩,by rw[<-h3];exact H.fg _,by rw[z3,h4]⟩
    refine Fe F hB Nh ho (by simp[Region.wanted,hg]) hv hm S1.env ⟨S1.sat,S1.sz⟩ λD hI _ _=>z4 _ _ ⟨rfl,hI.sat,by have:=hI.sz;omega⟩
   .rw[UU];refine K a' w3 ⟨⟨H.sz,λe u t=>?_⟩,by rw[<-ZV];exact z1.2.1.keep z4,ω⟩ (H.DL.trans hd) ω;simp only[look]at t;cases he:(dx==e)with
    |true=>rw[he]at t;simp at he t;subst he;subst t;exact H.ext rfl (z3 (q+1) ω) _ j
    |false=>
     rw[he]at t;have:=ez E2 _ h2 e u t;rcases lM _ _ _ _ this with ⟨s,s1,s2,s3⟩|z
     .rw[<-s3];exact H.val s s1 (z3 s.i χ) e s2
     .exact H.old e u z
abbrev sK(e:eP)(ev:Nat->OZ)(el:Nat):aH:=fR (e.getD ⟨0,0,none⟩) 5 (λj=>yt (ev j)) el false
abbrev Wx(o:eP)(ou:Nat->Se)(oh:yX)(n:Nat):aH:=fR (o.getD ⟨0,0,none⟩) 4 (λj=>yL (ou j,oh j)) n false
abbrev Ru:aH:=oR 0 0 [.iface 233 (.agg #[.pointer (some ⟨1,136,none⟩)])] false
abbrev Yt(sa:eP)(m:Nat)(g:Nat->Cl):aH:=fR (sa.getD ⟨0,0,none⟩) 2 (λj=>[i6 (g j).st,.slice (g j).ta (g j).nt (g j).tc]) m false
abbrev Kd(g:Nat->Cl)(j:Nat):aH:=fR ((g j).ta.getD ⟨0,0,none⟩) 3 (λi=>[i6 ((g j).T i 0),i6 ((g j).T i 1),i6 ((g j).T i 2)]) (g j).nt false
def cM(sa:eP)(m:Nat)(g:Nat->Cl):List aH:=Ru::Yt sa m g::(List.range m).map (Kd g)
abbrev El(J:eP)(n:Nat)(L:oF):aH:=fR (J.getD ⟨0,0,none⟩) 6 (oG L) n false
def pY:∀r∈cM sa m g,r.wr=false:=λr a=>by
 simp only[cM,ak,gV]at a;grind
def GP:Flat (cM sa m g):=by
 rw[bO];intro r a;simp only[cM,ak,gV]at a;grind
def Yn(h:r∈C)(a:r.wr=false):Has C r:=mq.2 ⟨a,h⟩
def lD(h:∀r∈M,xE I w r/\r.wr=false):Sat I w M:=by
 refine sat_iff.2 ⟨λr a=>(h r a).1,?_⟩;refine WE λr a a a a=>?_;simp_all
def nU(a:r.wr=false)(a:r.row=none)(a:∀j,r.has j->w.cell? (r.ad j)=some (r.get j))(b:∀j,r.has j->I (r.ad j) false):xE I w r:=
 ⟨a,λj a=>⟨b j a,λz=>ξ⟩,λz=>ξ,λg e n z=>ξ⟩
def vD(h:nF w J n L)(k:∀p:Addr,J=some p->∀a:Addr,a.block=p.block->I a false):xE I w (El J n L):=by
 refine nU rfl rfl (λj c=>?_) (λj c=>?_)
 .let⟨i,f⟩:=j;let⟨g,e⟩:=c;obtain⟨b,o,rfl,d⟩:=h i g;simp only at g e;have:=d f e;simp only[cQ,ey];rw[show o+i*6+f=o+i*6+f from rfl,this];rcases f with _|_|_|_|_|_|f
  .rfl
  .rfl
  .rfl
  .rfl
  .rfl
  .rfl
  .omega
 .let⟨i,f⟩:=j;obtain⟨b,o,rfl,d⟩:=h i c.1;exact k _ rfl _ (by simp only[cQ,ey])
def zv(h:sG w sa m g)(u:w.cell? ⟨0,0,none⟩=some (.iface 233 (.agg #[.pointer (some ⟨1,136,none⟩)])))(t:TO I sa m g)(q:I ⟨0,0,none⟩ false):Sat I w (cM sa m g):=by
 refine lD λr p=>?_;refine⟨?_,pY r p⟩;simp only[cM,ak,gV]at p;rcases p with rfl|rfl|⟨j,a,rfl⟩
 .refine nU rfl rfl (λj a=>?_) (λj a=>?_)
  .let⟨i,f⟩:=j;let⟨c,d⟩:=a;simp only[gB,iT]at c d;have s:f=0:=ω
   subst s;exact u
  .let⟨i,f⟩:=j;let⟨c,d⟩:=a;simp only[gB,iT]at c d;have s:f=0:=ω
   subst s;exact q
 .refine nU rfl rfl (λj a=>?_) (λj a=>?_)
  .let⟨i,f⟩:=j;let⟨c,d⟩:=a;obtain⟨b,o,rfl,n,l,_⟩:=h i c;simp only at c d;simp only[cQ,ey];rcases f with _|_|f
   .exact n
   .exact l
   .omega
  .let⟨i,f⟩:=j;obtain⟨b,o,rfl,n,l,_⟩:=h i a.1;exact t.1 _ rfl _ (by simp only[cQ,ey])
 .have l:j<m:=aZ.1 a;let⟨_,a,_,_,_,m⟩:=h j l;refine nU rfl rfl (λk a=>?_) (λk a=>?_)
  .let⟨i,f⟩:=k;let⟨c,d⟩:=a;let⟨b,o,e,h⟩:=m i c;simp only at c d;have:=h f d;show w.cell? ((((g j).ta.getD ⟨0,0,none⟩).add (i*3)).add f)=some (List.getD [i6 ((g j).T i 0),i6 ((g j).T i 1),i6 ((g j).T i 2)] f undef);rw[e];simp only[cQ,ey];grind
  .let⟨i,f⟩:=k;let⟨b,o,e,h⟩:=m i a.1;have b:=a.1;show I ((((g j).ta.getD ⟨0,0,none⟩).add (i*3)).add f) false;rw[e];exact t.2 j l χ _ e _ (by simp only[cQ,ey])
def Sat.ZL{s:PS}(h:Sat I w (pM s++C)):Sat I w (sK s.ea s.l.ev s.l.el::Wx (some ⟨s.k.O,0,none⟩) s.l.ou s.oh s.k.V.nc::C):=by
 have c:Sat I w ([vR s.ea 5 (λj=>yt (s.l.ev j)) s.l.el s.ec 73,fR ⟨s.k.O,0,none⟩ 4 (λj=>yL (s.l.ou j,s.oh j)) s.k.V.nc true]++C):=h.sub (D7 (by
  show List.Sublist [_,_] [_,_,_,_,_,_,_];exact .cons _ (.cons _ (.cons _ (.cons_cons _ (.cons _ (.cons _ (.cons_cons _ .slnil))))))) C)
 have b:=c.G7 0 rfl (sK s.ea s.l.ev s.l.el) (λj a=>⟨a,rfl,rfl⟩) (λz=>by cases z) rfl;exact b.G7 1 rfl (Wx (some ⟨s.k.O,0,none⟩) s.l.ou s.oh s.k.V.nc) (λj a=>⟨a,rfl,rfl⟩) (λz=>by cases z) rfl
def Sat.Wp(h:Sat I w M)(l:∀j,j<vs.length->w.cell? ⟨b,j,none⟩=some (vs.getD j undef))(k:∀j wr,I ⟨b,j,none⟩ wr)(m:∀j,j<vs.length->w.frozen? ⟨b,j,none⟩=false)(o:∀r∈M,∀j,r.has j->∀i,i<vs.length->r.ad j≠⟨b,i,none⟩):Sat I w (bR b vs::M):=by
 refine sat_iff.2 ⟨λr d=>?_,iG.2 ⟨λr d i j f a c e=>?_,(sat_iff.1 h).2⟩⟩
 .rcases ak.1 d with rfl|d
  .refine⟨λj a=>?_,λj a=>⟨k _ _,λ_=>⟨k _ _,m _ a.2⟩⟩,λ_ j f a c e=>?_,λg e n z=>(by cases z)⟩
   .rw[show(bR b vs).ad j=⟨b,j.2,none⟩from rfl,l j.2 a.2];congr 1;have b:j.2<vs.length:=a.2;unfold aH.get;grind
   .have b:j.1<1:=a.1;have b:f.1<1:=c.1;grind
  .exact(sat_iff.1 h).1 r d
 .exact o r d f c j.2 a.2 e.symm
def Sat.aaU(h:Sat I w M)(a:∀j,j<vs.length->w.cell? ⟨b,j,none⟩=some (vs.getD j undef))(c:∀j wr,I ⟨b,j,none⟩ wr)(d:∀j,j<vs.length->w.frozen? ⟨b,j,none⟩=false):∃C,Sat I w (bR b vs::C)/\∀r,Has M r->(∀j,r.has j->∀i,i<vs.length->r.ad j≠⟨b,i,none⟩)->Has C r:=by
 classical
 refine⟨M.filter λr=>decide (∀j,r.has j->∀i,i<vs.length->r.ad j≠⟨b,i,none⟩),(h.sub List.filter_sublist).Wp a c d λr a=>?_,λr a b=>?_⟩
 .simp_all
 .let⟨c,b⟩:=mq.1 a;exact mq.2 ⟨c,mK.2 ⟨b,ξ⟩⟩
def Ba:∀{E:Env}{n:Nat}{v:ay},look E n=some v->(n,v)∈E
 |[],n,v,h=>by cases h
 |(d,u)::E,n,v,h=>by
  simp only[look]at h;by_cases e:d=n
  .simp_all
  .have a:(d==n)=false:=ξ
   rw[a]at h;exact aP _ (Ba h)
def aR.sub{b:Env}(h:aR E N a)(c:∀p∈b,look E p.1=some p.2):aR b N a:=⟨h.sz,λn v a=>h.val n v (c (n,v) (Ba a))⟩
def Iw(w:aj):Old w w:=⟨rfl,rfl,rfl,az _,λ_ _=>rfl⟩
def Fg{a b c:aj}(h:Old a b)(k:Old b c):Old a c:=⟨k.1.trans h.1,k.2.1.trans h.2.1,k.2.2.1.trans h.2.2.1,aT h.2.2.2.1 k.2.2.2.1,λi a=>(k.2.2.2.2 i (ga a h.2.2.2.1)).trans (h.2.2.2.2 i a)⟩
theorem zw{V:Ev0}{L:LS}(S:wM V)(X:yI V L)(Q:Fin V Z m none L)(m:0<W)(L:∀x∈l,x<w.heap.size){dL:p9}{nj:bU}(F:InR V sa dL nj M)(u:0<V.nl->∃c,sL=some c/\Has M (fR c 6 (λi=>EV (V.ly i)) V.nl false))(T:Sat (cP wI.heap.size l []) w M)(q:O3 (cP w.heap.size l []) (nM prog Post (Old w) (jq l) W) w.heap.size M 14 #[.slice sL V.nl cA,.slice sa V.nc cap] (.tuple #[i6 0,i6 0]))(K:∀(c:LS),Z c->∀(b A:Nat)(o:Nat)(i:eP)(x:Nat)(v:yX)(C:aW)(D:aj),0<b->w.heap.size<=A->A<D.heap.size->(0<V.nc->w.heap.size<=o)->Old w D->Old wI D->((0<c.el->∃a,i=some a)/\c.el<=x)->Sat (cP wI.heap.size (A::l) []) D (sK i c.ev c.el::Wx (some ⟨o,0,none⟩) c.ou v V.nc::C)->(∀r,Has M r->Has C r)->(∀j,j<V.nc->fu C (v j) (c.ou j).b.ch)->
 nM prog Post (Old wI) (jq (A::l)) b (G (U.finish (.tuple #[.agg #[.slice (some ⟨o,0,none⟩) V.nc V.nc,.slice i c.el x],i6 0,i6 0])) R) D):
 nM prog Post (Old wI) (jq l) W (G (Frame.enter prog 15 #[.slice sL V.nl cA,.slice sa V.nc cap] .normal) (U::R)) w:=by
 refine At.assume gN λt=>At.keep (K':=Old w) (λd=>Iw w) ?_;have p:wI.heap.size<=w.heap.size:=t.2.2.2.1;refine Pm S X Q m L F u (T.OB (λr e j E h=>⟨h.1,λz=>by cases z⟩) (λr e n=>by rw[F.ro r e]at n;cases n)) q λb A s C D P O N J I f B y H k=>?_;subst I;refine At.keep (λd=>Fg t f) ?_;have Y:Sat (cP wI.heap.size (A::l) []) D (pM s++C):=B.OB (λr e j E h=>⟨h.1,λz=>by cases z⟩) (λr e n j E h=>⟨h.1,λz=>⟨aT p (h.2 z).1,(h.2 z).2⟩⟩);exact K s.l J b A s.k.O s.ea s.ec s.oh C D P O N (λz=>(((B.ok 6 (fR ⟨s.k.O,0,none⟩ 4 (λj=>yL (s.l.ou j,s.oh j)) s.k.V.nc true) rfl (0,0) ⟨z,(by decide:0<4)⟩).2 rfl).1.2 rfl).1) f (Fg t f) ⟨(λz=>by
  rcases y.jr.row with ⟨_,a,_⟩|⟨g,a,_⟩
  .omega
  simp_all),y.jr.le⟩ Y.ZL H k
def iX(c:∀A∈l,A<N)(c:N0<=N){a:Addr}(c:N<=a.block)(wr:Bool):cP N0 l [] a wr:=
 ⟨fun⟨A,a,z⟩=>χ,λ_=>⟨ω,fun⟨p,b,z⟩=>by cases b⟩⟩
def RP(h:jG n L m g≠(0,0)):(jG n L m g).1≠0:=by
 unfold jG at h ⊢;grind
structure Ds(wI:aj)(J:eP)(n:Nat)(L:oF)(sa:eP)(m:Nat)(g:Nat->Cl):Prop where
 hL:nF wI J n L
 bL:∀p:Addr,J=some p->p.block<wI.heap.size
 hC:sG wI sa m g
 bC:∀p:Addr,sa=some p->p.block<wI.heap.size
 bT:∀i,i<m->0<(g i).nt->∀p:Addr,(g i).ta=some p->p.block<wI.heap.size
 i0:0<wI.heap.size
 hg:wI.cell? ⟨0,0,none⟩=some (.iface 233 (.agg #[.pointer (some ⟨1,136,none⟩)]))
def I4(h:sG w sa m g)(a:Old w D):sG D sa m g:=λi c=>by
 let⟨b,o,e,g,d,f⟩:=h i c;exact⟨b,o,e,a.cell _ _ g,a.cell _ _ d,λj c=>by
  let⟨b,o,e,d⟩:=f j c;exact⟨b,o,e,λk b=>a.cell _ _ (d k b)⟩⟩
def IJ(h:nF w sa n L)(c:Old w D):nF D sa n L:=λi a=>by
 let⟨b,o,e,d⟩:=h i a;exact⟨b,o,e,λk a=>c.cell _ _ (d k a)⟩
def jN{a:Addr}(h:a.block∉l):cP N0 l [] a false:=
 ⟨fun⟨A,a,z⟩=>h χ,λz=>by cases z⟩
def T1(J sa:eP)(m:Nat)(g:Nat->Cl)(x:Nat):Prop:=0<x/\(∀p:Addr,J=some p->p.block≠x)/\(∀p:Addr,sa=some p->p.block≠x)/\∀i,i<m->0<(g i).nt->∀p:Addr,(g i).ta=some p->p.block≠x
theorem Ds.awy(h:Ds wI J n L sa m g){x:Nat}(a:wI.heap.size<=x):T1 J sa m g x:=⟨ga h.i0 a,λp a=>by have:=h.bL p a;omega,λp a=>by have:=h.bC p a;omega,λi b c p a=>by have:=h.bT i b c p a;omega⟩
theorem Ds.rd(h:Ds wI J n L sa m g)(c:∀B∈l,T1 J sa m g B):TO (cP N0 l []) sa m g:=⟨λp b a e=>jN λz=>by have:=(c _ z).2.2.1 p b;omega,λi d f p b a e=>jN λz=>by have:=(c _ z).2.2.2 i d f p b;omega⟩
def Q3(_ j:Nat):Int:=match j with|0=>1|1=>7|_=>3
abbrev CN(t:Nat)(_:Nat):Cl:=⟨5,some ⟨t,0,none⟩,1,1,Q3⟩
def Xy(t:Nat):jG 0 (λ_ _=>0) 1 (CN t)=(0,0):=ρ
def Oe(V:Ev0):yI V (ko V):=⟨rfl,rfl,λ_ _=>⟨rfl,rfl,rfl,rfl⟩,λ_=>rfl,λ_=>rfl,rfl,λ_=>rfl,rfl,rfl,λ_ _=>⟨rfl,rfl,rfl,rfl,rfl⟩⟩
theorem F5(U8:0<W)(P:∀x∈l,0<x/\x<wI.heap.size)(hg:wI.cell? ⟨0,0,none⟩=some (.iface 233 (.agg #[.pointer (some ⟨1,136,none⟩)])))(i0:0<wI.heap.size)(hO:Old wI w)(K:∀l' J D,0<J->(∀x∈l',(x∈l\/wI.heap.size<=x)/\x<D.heap.size)->Old wI D->nM prog Post (Old wI) (jq l') J (G (U.finish (.bool true)) R) D):nM prog Post (Old wI) (jq l) W (G (Frame.enter prog 23 #[] .normal) (U::R)) w:=by
 have F:=nA (P:=prog) (Post:=Post) (wI:=wI) (l:=l) W;have m:wI.heap.size<=w.heap.size:=hO.2.2.2.1;have C:∀(a:Addr)(wr:Bool),w.heap.size<=a.block->cP wI.heap.size l [] a wr:=λa wr z=>iX (λx f=>by have:=P x f;omega) m z wr;have hS:Sat (cP wI.heap.size l []) w []:=lD λr v=>by cases v
 have s:w.heap.size<=w.heap.size:=az _;generalize hB0:w.heap.size=B at C s m;rw[<-hB0]at s;replace s:B<=w.heap.size:=ω
 refine cJ func23 hS 59 λbb a0 b hn q qh tN S0 P9=>aq (λM=>bR (b+1) [i6 5,.slice (some ⟨b,0,none⟩) 1 1]::(bR (b) [i6 1,i6 7,i6 3]::(M))) 2 F C q tN S0 10 [] 1 [] [(9,.slice (some ⟨b+1,0,none⟩) 1 1)] 10 1 [] λa1 Y S1 Nt zS Dx o9=>?_;have Q:sG Y (some ⟨b+1,0,none⟩) 1 (CN b):=λi hi=>by
  have e:i=0:=ω
  subst e;refine⟨b+1,0,rfl,S1.sat.val 0 _ rfl (0,0) ⟨aD,(by decide:0<2)⟩,S1.sat.val 0 _ rfl (0,1) ⟨aD,(by decide:1<2)⟩,λj A=>?_⟩;have e:j=0:=ξ
  subst e;refine⟨b,0,rfl,λk hk=>?_⟩;have:=S1.sat.val 1 _ rfl (0,k) ⟨aD,hk⟩;rw[show(⟨b,0+0*3+k,none⟩:Addr)=⟨b,k,none⟩ by simp];refine this.trans (cT some ?_);have Nh:k=0\/k=1\/k=2:=ω
  rcases Nh with rfl|rfl|rfl<;>rfl
 have O:∀N:Nat,TO (cP N l []) (some ⟨b+1,0,none⟩) 1 (CN b):=λN=>⟨λp y a ha=>jN λz=>by have:=P _ z;cases y;dsimp only at ha;omega,λi hi h0 p y a ha=>jN λz=>by have:=P _ z;cases y;dsimp only at ha;omega⟩
 refine Af F q 10 15 #[.slice none 0 0,.slice (some ⟨b+1,0,none⟩) 1 1] ρ ρ δ S1 λcR S=>At.assume gN λhO3=>?_;have VR:Sat (cP wI.heap.size l []) Y (cM (some ⟨b+1,0,none⟩) 1 (CN b)):=zv Q (hO3.cell _ _ hg) (O _) (jN λz=>by have:=(P _ z).1;exact absurd this (Ap 0));have d:∀r∈cM (some ⟨b+1,0,none⟩) 1 (CN b),Has (cM (some ⟨b+1,0,none⟩) 1 (CN b)) r:=λr v=>Yn v (pY r v);have n:∀x∈l,x<Y.heap.size:=λx f=>by have:=P x f;omega
 refine zw (V:=nC 0 (λ_ _=>0) 1 (CN b)) (M:=cM (some ⟨b+1,0,none⟩) 1 (CN b)) (dL:=λ_=>some ⟨b,0,none⟩) (nj:=λ_=>1) (sL:=none) (cA:=0) (sa:=some ⟨b+1,0,none⟩) (cap:=1) (zl (Xy b)) (Oe _) Xs U8 n ⟨λr v=>pY r v,GP,λ_=>⟨_,rfl,d _ (aP _ (bI ..))⟩,λc hc _=>⟨_,rfl,?_⟩,d _ (bI ..)⟩ (λz=>absurd z (Ap 0)) VR (λBL yR D M' T VO LM KK=>?_) λX1 hX1 I X Z j4 V H C1 g k1 k2' k3 k3o k4 k5 k6 k7 k8 k9=>S _ _ _ λa4 t o=>?_
 .have e:c=0:=by have:c<1:=hc;omega
  subst e;exact d (Kd (CN b) 0) (aP _ (aP _ (gV.2 ⟨0,aZ.2 δ,rfl⟩)))
 .exact r8 (n:=0) (m:=1) (L:=λ_ _=>0) (g:=CN b) (nA W) (λa wr z=>iX (N:=Y.heap.size) n (az _) z wr) (λz=>ω) (λ_=>⟨_,rfl,T _ (d _ (aP _ (bI ..)))⟩) (λj A _=>⟨_,rfl,T _ (by
   have e:j=0:=ω
   subst e;exact d (Kd (CN b) 0) (aP _ (aP _ (gV.2 ⟨0,aZ.2 δ,rfl⟩))))⟩) VO LM (by rw[Xy];exact KK)
 clear F;have F:=nA (P:=prog) (Post:=Post) (wI:=wI) (l:=X::l) I;let⟨f1,f2,f3⟩:=end_1 hX1;replace o:=o.trans Nt;obtain⟨ea,rfl⟩:=k6.1 ω;obtain⟨u,E,hoh⟩:∃u E,H 0=.slice u 0 E:=by
  have:=k9 0 aD;rw[f1]at this;rcases this with ⟨z,_⟩|⟨ca,cap,i,z,_⟩
  .simp_all
  simp_all
 rw[f2]at t k7;have h7:=(k7.sub (M':=[_,_]) (.cons_cons _ (.cons_cons _ (List.nil_sublist _)))).G7 0 rfl (fR ea 5 (λj=>if j=1 then[i6 8,i6 0,i6 (-1),i6 2,i6 0]else yt (X1.ev j)) 2 false) (λj A=>⟨A,rfl,by
  show(if j.1=1 then[i6 8,i6 0,i6 (-1),i6 2,i6 0]else yt (X1.ev j.1)).getD j.2 undef=(yt (X1.ev j.1)).getD j.2 undef;split
  .rename_i e;rw[e,f3];rfl
  .rfl⟩) (λz=>by cases z) rfl
 have h8:=h7.G7 1 rfl (fR ⟨Z,0,none⟩ 4 (λ_=>[i6 8,i6 1,i6 7,.slice u 0 E]) 1 false) (λj A=>⟨A,rfl,by
  have e:j.1=0:=by have:j.1<1:=A.1;omega
  show List.getD [i6 8,i6 1,i6 7,.slice u 0 E] j.2 undef=(yL (X1.ou j.1,H j.1)).getD j.2 undef;rw[e,hoh,f1];rfl⟩) (λz=>by cases z) rfl
 have S4:St (cP wI.heap.size (X::l) []) g.heap.size 59 [(10,.tuple #[.agg #[.slice (some ⟨Z,0,none⟩) 1 1,.slice (some ea) 2 V],i6 0,i6 0])] [fR ea 5 (λj=>if j=1 then[i6 8,i6 0,i6 (-1),i6 2,i6 0]else yt (X1.ev j)) 2 false,fR ⟨Z,0,none⟩ 4 (λ_=>[i6 8,i6 1,i6 7,.slice u 0 E]) 1 false] 0 a4 g:=⟨t.sub (by intro p y;simp only[ak,bH,or_false]at y;subst y;rfl),h8,rfl⟩;have L:wI.heap.size<=g.heap.size:=k5.2.2.2.1;clear C;have h:∀x∈X::l,(x∈l\/wI.heap.size<=x)/\x<g.heap.size:=λx f=>by
  rcases ak.1 f with rfl|f
  .exact⟨.inr ω,ω⟩
  .exact⟨.inl f,by have:=n x f;omega⟩
 have C:∀(a:Addr)(wr:Bool),g.heap.size<=a.block->cP wI.heap.size (X::l) [] a wr:=λa wr z=>iX (N:=g.heap.size) (λx f=>(h x f).2) L z wr;have Bj:g.heap.size=g.heap.size:=rfl;clear t k7 k8 k9 S h7 h8;generalize hB4:g.heap.size=B4 at S4 Bj C h;refine oH (λM=>bR (B4+1) [i6 8,i6 1,i6 7,.slice u 0 E]::(bR (B4) [.slice (some ⟨Z,0,none⟩) 1 1,.slice (some ea) 2 V]::(M))) 2 F C q qh o S4 69 [0,0,0,2,0,0,0,2,0,0,0,1,2,0,0,4,0,0,0,4,0,0,0,4,1,0,1,1,2,1,0,5] 35958428274349397 [] 0 (.bool true) 80 2 [] [] [] [(1,2),(0,1)] [] λw5 S5 Y5 Dw=>At.assume gN λXh=>K (X::l) I w5 k1 (λx f=>⟨(h x f).1,by have:=(h x f).2;omega⟩) Xh
theorem Ds.sat(H:Ds wI J n L sa m g)(c:∀x∈l,T1 J sa m g x)(d:Old wI w):Sat (cP N0 l []) w (El J n L::cM sa m g):=lD λr b=>by
 rcases ak.1 b with rfl|b
 .exact⟨vD (IJ H.hL d) λp e a a=>jN λz=>by have:=(c _ z).2.1 p e;omega,rfl⟩
 .exact⟨(zv (I4 H.hC d) (d.cell _ _ H.hg) (H.rd c) (jN λz=>absurd (c _ z).1 (Ap 0))).mem b,pY r b⟩
theorem Ds.lt(H:Ds wI J n L sa m g)(b:r∈El J n L::cM sa m g){j:Nat×Nat}(c:r.has j):(r.ad j).block<wI.heap.size:=
 au (((H.sat (N0:=0) (l:=[]) (λx a=>by cases a) (Iw wI)).mem b).val j c)
def Ds.ro(a:r∈El J n L::cM sa m g):r.wr=false:=by
 rcases ak.1 a with rfl|a
 .rfl
 .exact pY r a
theorem Ds.q1(H:Ds wI J n L sa m g):0<n->∃a,J=some a/\Has (El J n L::cM sa m g) (fR a 6 (oG L) n false):=λz=>by
 obtain⟨b,o,rfl,_⟩:=H.hL 0 z;exact⟨_,rfl,Yn (bI ..) rfl⟩
theorem Ds.q2(H:Ds wI J n L sa m g):0<m->∃a,sa=some a/\Has (El J n L::cM sa m g) (fR a 2 (λj=>[i6 (g j).st,.slice (g j).ta (g j).nt (g j).tc]) m false):=λz=>by
 obtain⟨b,o,rfl,_⟩:=H.hC 0 z;exact⟨_,rfl,Yn (aP _ (aP _ (bI ..))) rfl⟩
theorem Ds.q3(H:Ds wI J n L sa m g):∀j,j<m->0<(g j).nt->∃a,(g j).ta=some a/\Has (El J n L::cM sa m g) (fR a 3 (λi=>[i6 ((g j).T i 0),i6 ((g j).T i 1),i6 ((g j).T i 2)]) (g j).nt false):=λj a z=>by
 let⟨_,_,_,_,_,c⟩:=H.hC j a;let⟨b,o,e,_⟩:=c 0 z;refine⟨_,e,?_⟩;have:=Yn (C:=El J n L::cM sa m g) (r:=Kd g j) (aP _ (aP _ (aP _ (gV.2 ⟨j,aZ.2 a,rfl⟩)))) rfl;grind
def Yx(a:jG n L m g≠(0,0)):(1<=(jG n L m g).1/\(jG n L m g).1<=4)/\0<=(jG n L m g).2/\(jG n L m g).2<=8:=by
 unfold jG at a ⊢;grind
def HP(F:aB prog true (DX I) O)(o:HB B I){m:aC}(b:m.kind=.normal)(l:m.fn=8){n:Act}{g:aj}{f d:Nat}(j:n.defers=[])(p:B<=d){c i:Int}(p:1<=c/\c<=4)(p:0<=i/\i<=8)(e:St I d 70 [(12,i6 i),(11,i6 c),(10,ptr d),(9,i6 i),(8,i6 c),(7,.bool true),(4,ptr f)] (bR d [.slice none 0 0,.slice none 0 0]::bR f [.slice none 0 0,.slice none 0 0]::M) 1 n g)(K:∀D,g.heap.size<=D.heap.size->O (G (U.finish (.tuple #[.agg #[.slice none 0 0,.slice none 0 0],.bool false,.bool true])) R) D):O (G (m.at n (pc prog 8 44 [true] [])) (U::R)) g:=by
 replace e:=St.mk (c:=0) (B:=d+1) e.env e.sat e.sz;have g:i=0\/i=1\/i=2\/i=3\/i=4\/i=5\/i=6\/i=7\/i=8:=ω
 have k:c=1\/c=2\/c=3\/c=4:=ω
 have c:=e.sz;rcases g with rfl|rfl|rfl|rfl|rfl|rfl|rfl|rfl|rfl<;>rcases k with rfl|rfl|rfl|rfl
 all_goals
  refine bkU [oR d 0 [.slice none 0 0,.slice none 0 0] false] [(19,[]),(20,[(0,(0,1),true)]),(21,[]),(22,[]),(23,[])] F aK (λa wr z=>o a wr ω) b 24 (Hq [0,0,0,2,0,0,0,2]) [(true,true),(true,true),(true,true),(true,true),(true,true),(true,true),(true,true),(true,true),(true,true),(true,true),(true,true),(true,true),(true,true),(true,true)] [(30,.agg #[.slice none 0 0,.slice none 0 0]),(4,ptr f)] [(53,.bool true),(4,ptr f)] [] [] [] (Hq [1,0,0,2]) (λM=>bh 1 (0,1) (.slice none 0 0) (bh 1 (0,0) (.slice none 0 0) (M))) 5 (.bool false) j ρ ρ ρ ρ ρ ρ ρ ρ ρ ρ eU eU eU (λw h=>(h.sub (M':=[bR d [.slice none 0 0,.slice none 0 0]]) (.cons_cons _ (List.nil_sublist _))).fix) e λa a d a c=>Rb F o b a d 2 [] 1 [] [(6,.bool true),(5,.bool false),(4,ptr f)] 47 3 [26] λa c f a d d d=>cC F f b l a [1,0,0,2] (.tuple #[.agg #[.slice none 0 0,.slice none 0 0],.bool false,.bool true]) ?_;exact K c ω
theorem ES{w0:aj}(H:Ds w0 J n L sa m g)(hO0:Old w0 wI)(U8:0<W)(hl:∀x∈l,T1 J sa m g x/\x<wI.heap.size)(hZ:jG n L m g=(0,0)->Fin (nC n L m g) Z 80001 none (ko (nC n L m g))){X:Nat}(K0:jG n L m g≠(0,0)->∀l' Q D,0<Q->(∀x∈l',(x∈l\/wI.heap.size<=x)/\x<D.heap.size)->Old wI D->nM prog Post (Old wI) (jq l') Q (G (U.finish (.tuple #[.agg #[.slice none 0 0,.slice none 0 0],.bool false,.bool true])) R) D)(K1:jG n L m g=(0,0)->∀v,Z v->∀l' Q (o:Nat) Y ec oh C D,0<Q->(∀x∈l',(x∈l\/wI.heap.size<=x)/\x<D.heap.size)->Old wI D->((0<v.el->∃a,Y=some a)/\v.el<=ec)->Sat (cP wI.heap.size l' []) D C->Has C (sK Y v.ev v.el)->Has C (Wx (some ⟨o,0,none⟩) v.ou oh m)->(∀j,j<m->fu C (oh j) (v.ou j).b.ch)->(∀r∈El J n L::cM sa m g,Has C r)->nM prog Post (Old wI) (jq l') Q (G (U.finish (.tuple #[.agg #[.slice (some ⟨o,0,none⟩) m m,.slice Y v.el ec],.bool true,.bool true])) R) D):
 nM prog Post (Old wI) (jq l) W (G (Frame.enter prog 8 #[.slice J n X,.slice sa m cap] .normal) (U::R)) wI:=by
 have F:=nA (P:=prog) (Post:=Post) (wI:=wI) (l:=l) W;have hs0:w0.heap.size<=wI.heap.size:=hO0.2.2.2.1;have G:=H.i0;have y:∀(a:Addr)(wr:Bool),wI.heap.size<=a.block->cP wI.heap.size l [] a wr:=λa wr z=>iX (λx b=>(hl x b).2) (az _) z wr;have hS:Sat (cP wI.heap.size l []) wI []:=lD λr w=>by cases w
 refine cJ func8 hS 70 λG G k G t qh G Z Q=>aq (λM=>bR (k) [.slice none 0 0,.slice none 0 0]::(M)) 1 F y t G Z 8 [] 1 [] [(4,ptr k),(0,.slice J n X),(1,.slice sa m cap)] 8 1 [] λG G S1 Z Q Q Q=>Af F t 14 23 #[] ρ ρ δ S1 λcR V=>At.assume gN λQ=>At.keep (K':=Old G) (λd=>Iw G) ?_;refine F5 (wI:=G) U8 (λx b=>⟨(hl x b).1.1,by have:=(hl x b).2;omega⟩) ((Fg hO0 Q).cell _ _ H.hg) ω (Iw G) λE ng1 P aah u N=>?_;have S:∀x∈E,T1 J sa m g x/\x<P.heap.size:=λx b=>⟨by
  rcases(u x b).1 with z|z
  .exact(hl x z).1
  .exact H.awy ω,(u x b).2⟩
 have hlB:∀x∈E,x≠k:=λx b=>by
  rcases(u x b).1 with z|z
  .have:=(hl x z).2;omega
  .omega
 have hO2:=Fg Q N;refine At.keep (K':=Old wI) (λd=>hO2) ?_;refine V _ _ _ λa2 OR DF=>?_;replace DF:=DF.trans Z;clear F V;have F:=nA (P:=prog) (Post:=Post) (wI:=wI) (l:=E) ng1;have d:G.heap.size<=P.heap.size:=N.2.2.2.1;clear y;have y:∀(a:Addr)(wr:Bool),P.heap.size<=a.block->cP wI.heap.size E [] a wr:=λa wr z=>iX (N:=P.heap.size) (λx b=>(S x b).2) ω z wr;have hsB:∀l:List Nat,(∀x∈l,x≠k)->∀j wr,cP wI.heap.size l [] ⟨k,j,none⟩ wr:=λl hl j wr=>⟨(jN (N0:=0) (l:=l) (a:=⟨k,j,none⟩) λz=>hl _ z rfl).1,λ_=>⟨by show wI.heap.size<=k;omega,fun⟨p,hp,z⟩=>by cases hp⟩⟩
 have d:∀j,j<2->P.cell? ⟨k,j,none⟩=some ([Value.slice none 0 0,.slice none 0 0].getD j undef):=λj h=>by
  refine N.cell _ _ ?_;refine(S1.sat.val 0 _ rfl (0,j) ⟨aD,h⟩).trans (cT some ?_);rfl
 have l:∀j,j<2->P.frozen? ⟨k,j,none⟩=false:=λj h=>(World.frozen?_of_block (N.2.2.2.2 k ω)).trans ((S1.sat.ok 0 _ rfl (0,j) ⟨aD,h⟩).2 rfl).2;have h2:Sat (cP wI.heap.size E []) P (bR k [.slice none 0 0,.slice none 0 0]::El J n L::cM sa m g):=(H.sat (λx b=>(S x b).1) (Fg hO0 hO2)).Wp d (hsB E hlB) l λr w j h i hi e=>by
  have:=H.lt w h;rw[e]at this;have:k<w0.heap.size:=this;omega
 have S2:St (cP wI.heap.size E []) P.heap.size 70 [(14,.bool true),(0,.slice J n X),(1,.slice sa m cap),(4,ptr k)] (bR k [.slice none 0 0,.slice none 0 0]::El J n L::cM sa m g) 0 a2 P:=⟨OR.sub (by intro p hp;simp only[ak,bH,or_false]at hp;rcases hp with rfl|rfl|rfl|rfl<;>rfl),h2,rfl⟩;have tM:P.heap.size=P.heap.size:=rfl;have q1:=H.q1;have q2:=H.q2;have q3:=H.q3;have M6:∀r∈El J n L::cM sa m g,r.wr=false:=λr w=>Ds.ro w;have d:∀r∈El J n L::cM sa m g,∀j,r.has j->(r.ad j).block<wI.heap.size:=λr w j h=>ga (H.lt w h) hs0;generalize hM:El J n L::cM sa m g=M at*;generalize hB2:P.heap.size=d at S2 tM y;refine Rb F y t DF S2 6 [] 1 [] [(17,.slice sa m cap),(16,.slice J n X),(7,.bool true),(0,.slice J n X),(1,.slice sa m cap),(4,ptr k)] 15 1 [] λd d l d G G G=>ah F t d l 18 14 #[.slice J n X,.slice sa m cap] λd d=>r8 F y (λz=>by let⟨a,K,B⟩:=q1 z;exact⟨a,K,B.cons⟩) (λz=>by let⟨a,K,B⟩:=q2 z;exact⟨a,K,B.cons⟩) (λj h z=>by let⟨a,K,B⟩:=q3 j h z;exact⟨a,K,B.cons⟩) l.sat ω λl G l=>d _ _ _ G λd d S4 Vx d=>?_;by_cases I:jG n L m g=(0,0)
 .rw[I]at S4;refine Rb F y t Vx S4 10 [] 1 [] [(23,.slice sa m cap),(22,.slice J n X),(9,i6 0),(8,i6 0),(7,.bool true),(1,.slice sa m cap),(4,ptr k)] 26 1 [] λa5 w5 S5 Yv Y5 Dw qO=>Af F t 24 15 #[.slice J n X,.slice sa m cap] ρ ρ δ S5 λcR V=>At.assume gN λd=>?_;have Xi:InR (nC n L m g) sa (λj=>(g j).ta) (λj=>(g j).tc) M:=⟨M6,by
   subst hM;rw[bO];intro r w;rcases ak.1 w with rfl|w
   .rfl
   .exact(bO.1 GP) r w,q2,q3,by
   subst hM;exact Yn (aP _ (bI ..)) rfl⟩
  have d:∀x∈E,x<w5.heap.size:=λx b=>χ
  refine zw (V:=nC n L m g) (zl I) (Oe _) (hZ I) aah d (sL:=J) (sa:=sa) (cA:=X) (cap:=cap) Xi q1 S5.sat.tail (λBL yR D M' Vr VO LM KK=>?_) λv hLf W9 A o Y ec oh C O k1 l l k3o k4 l k6 k7 k8 k9=>V _ _ _ λa6 TF T=>?_
  .exact r8 (n:=n) (m:=m) (L:=L) (g:=g) (nA ng1) (λa wr z=>iX (N:=w5.heap.size) d (az _) z wr) (λz=>χ) (λz=>χ) (λj h z=>by let⟨a,K,B⟩:=q3 j h z;grind) VO LM χ
  replace T:=T.trans Yv;clear F V;have F:=nA (P:=prog) (Post:=Post) (wI:=wI) (l:=A::E) W9;have d:w5.heap.size<=O.heap.size:=k4.2.2.2.1;have hl6:∀x∈A::E,T1 J sa m g x/\x<O.heap.size:=λx b=>by
   rcases ak.1 b with rfl|b
   .exact⟨H.awy ω,ω⟩
   .exact⟨(S x b).1,by have:=(S x b).2;omega⟩
  clear y;have y:∀(a:Addr)(wr:Bool),O.heap.size<=a.block->cP wI.heap.size (A::E) [] a wr:=λa wr z=>iX (N:=O.heap.size) (λx b=>(hl6 x b).2) ω z wr;have hv6:∀j,j<2->O.cell? ⟨k,j,none⟩=some ([Value.slice none 0 0,.slice none 0 0].getD j undef):=λj h=>by
   refine k4.cell _ _ ?_;refine(S5.sat.val 0 _ rfl (0,j) ⟨aD,h⟩).trans (cT some ?_);rfl
  have hf6:∀j,j<2->O.frozen? ⟨k,j,none⟩=false:=λj h=>(World.frozen?_of_block (k4.2.2.2.2 k ω)).trans ((S5.sat.ok 0 _ rfl (0,j) ⟨aD,h⟩).2 rfl).2;have sl:∀i,i<2->∃s p q,O.cell? ⟨k,i,none⟩=some (Value.slice s p q):=λi hi=>by
   rw[hv6 i hi];have KG:i=0\/i=1:=ω
   rcases KG with rfl|rfl<;>exact⟨_,_,_,rfl⟩
  let⟨C',h6,hC'⟩:=Sat.aaU (b:=k) (vs:=[.slice none 0 0,.slice none 0 0]) k7 hv6 (hsB (A::E) λx b=>by
   rcases ak.1 b with rfl|b
   .omega
   .exact hlB x b) hf6
  have c1:Has C' (sK Y v.ev v.el):=hC' _ (Yn (bI ..) rfl) λj h i hi e=>by
   have hv:=(k7.mem (bI ..)).val j h;let⟨s,p,q,z⟩:=sl i hi;rw[e,z]at hv;let⟨j,f⟩:=j;have hf:f<5:=h.2;have Wm:f=0\/f=1\/f=2\/f=3\/f=4:=ω
   rcases Wm with rfl|rfl|rfl|rfl|rfl<;>cases hv
  have c2:Has C' (Wx (some ⟨o,0,none⟩) v.ou oh m):=hC' _ (Yn (aP _ (bI ..)) rfl) λj h i hi e=>by
   have d:=k3o (by have:j.1<m:=h.1;show 0<m;omega);have hb:(((⟨o,0,none⟩:Addr).add (j.1*4)).add j.2).block=k:=cT Addr.block e;rw[add_add]at hb;grind
  have c3:∀j,j<m->fu C' (oh j) (v.ou j).b.ch:=λj h=>by
   rcases k9 j h with z|⟨ca,cp,i,K,B⟩
   .exact .inl z
   .have d:Has C (gQ ca (v.ou j).b.ch):=⟨rfl,i,B⟩
    let⟨_,i',KG⟩:=hC' _ d.cons.cons λj h i hi e=>by
     have hv:=(k7.mem (aP _ (aP _ (gO B)))).val j h;let⟨s,p,q,z⟩:=sl i hi;rw[e,z]at hv;let⟨j,f⟩:=j;have hf:f<3:=h.2;have Wm:f=0\/f=1\/f=2:=ω
     rcases Wm with rfl|rfl|rfl<;>cases hv
    exact .inr ⟨ca,cp,i',K,KG⟩
  have c4:∀r∈M,Has C' r:=λr w=>hC' _ (k8 r (Yn w (M6 r w))).cons.cons λj h i hi e=>by
   grind
  have t1:((m:Int)==(m:Int))=true:=ψ
  have S6:St (cP wI.heap.size (A::E) []) O.heap.size 70 [(24,.tuple #[.agg #[.slice (some ⟨o,0,none⟩) m m,.slice Y v.el ec],i6 0,i6 0]),(8,i6 0),(7,.bool true),(1,.slice sa m cap),(4,ptr k)] (bR k [.slice none 0 0,.slice none 0 0]::C') 0 a6 O:=⟨TF.sub (by intro p hp;simp only[ak,bH,or_false]at hp;rcases hp with rfl|rfl|rfl|rfl|rfl<;>rfl),h6,rfl⟩;have YG:O.heap.size=O.heap.size:=rfl;generalize hB6:O.heap.size=B6 at S6 YG y;generalize Ty:v.el=el at S6;refine aq (λM=>bR (B6) [.slice (some ⟨o,0,none⟩) m m,.slice Y el ec]::(bh 0 (0,1) (.slice Y el ec) (bh 0 (0,0) (.slice (some ⟨o,0,none⟩) m m) (M)))) 1 F y t T S6 43 [0,0,0,2,0,0,0,1,0,0,0,2,1,0,0,2] 131069 [] [(6,.bool ((↑m:Int)==(↑m:Int))),(5,.bool ((↑m:Int)==(↑m:Int))),(4,ptr k)] 70 2 [] λa7 w7 S7 CI OD YQ DJ=>cC F S7 t qh CI [1,0,0,2] (.tuple #[.agg #[.slice (some ⟨o,0,none⟩) m m,.slice Y el ec],.bool ((↑m:Int)==(↑m:Int)),.bool ((↑m:Int)==(↑m:Int))]) ?_;subst Ty;rw[t1];exact At.assume gN λXh=>K1 I v hLf (A::E) W9 o Y ec oh C' w7 k1 (λx b=>⟨by
   rcases ak.1 b with rfl|b
   .exact .inr ω
   .exact(u x b).1.imp_right λz=>ω,by have:=hl6 x b;omega⟩) Xh k6 S7.sat.tail.tail c1 c2 c3 c4
 .have hc0:=RP I;have aaj:((jG n L m g).1 !=0)=true:=χ
  have t1:((jG n L m g).1==(jG n L m g).1)=true:=ψ
  have t2:((jG n L m g).2==(jG n L m g).2)=true:=ψ
  generalize w:jG n L m g=r at hc0 aaj t1 t2 S4;let⟨c,i⟩:=r;dsimp only at hc0 aaj t1 t2 S4;refine Rb F y t Vx S4 10 [] 1 [] [(23,.slice sa m cap),(22,.slice J n X),(9,i6 i),(8,i6 c),(7,.bool true),(1,.slice sa m cap),(4,ptr k)] 26 1 [] λa5 w5 S5 Yv Y5 Dw qO=>ah F t Yv S5 24 15 #[.slice J n X,.slice sa m cap] λd d=>Ui (i:=i) F y hc0 S5.sat ω (λBL yR D M' Vr VO LM KK=>?_) λO h6 e=>d _ _ _ h6 λa6 B6 S6 T YG=>?_
  .exact r8 F y (λz=>by let⟨a,K,B⟩:=q1 z;exact⟨a,K,Vr _ B.cons⟩) (λz=>by let⟨a,K,B⟩:=q2 z;exact⟨a,K,Vr _ B.cons⟩) (λj h z=>by let⟨a,K,B⟩:=q3 j h z;exact⟨a,K,Vr _ B.cons⟩) VO LM χ
  refine aX (λM=>bR (B6) [.slice none 0 0,.slice none 0 0]::(M)) 1 F y t T S6 17 [0,0,0,2] 6 [] [(12,i6 i),(11,i6 c),(10,ptr B6),(9,i6 i),(8,i6 c),(7,.bool true),(4,ptr k)] 44 3 [] [] [(c !=0,true)] [] [] λa7 w7 S7 CI OD YQ DJ=>?_;let⟨r1,r2⟩:=Yx I;rw[w]at r1 r2;exact HP F y t qh CI ω r1 r2 (S7.dB _ rfl) λa c=>At.assume gN λXh=>K0 I E ng1 a aah (λx b=>⟨(u x b).1.imp_right λz=>ω,by have:=S x b;omega⟩) Xh
theorem Ds.old(H:Ds wI J n L sa m g)(c:Old wI w):Ds w J n L sa m g:=
 have b:wI.heap.size<=w.heap.size:=c.2.2.2.1
 ⟨IJ H.hL c,λp a=>ga (H.bL p a) b,I4 H.hC c,λp a=>ga (H.bC p a) b,λi d e p a=>ga (H.bT i d e p a) b,ga H.i0 b,c.cell _ _ H.hg⟩
abbrev SY(o:Nat)(ou:Nat->Se)(os:p9)(oc:bU)(m:Nat):aH:=fR ⟨o,0,none⟩ 4 (λj=>[i6 (ou j).a,i6 (ou j).b.k,i6 (ou j).b.n,.slice (os j) (ou j).b.ch.length (oc j)]) m false
def Zt{o:Nat}{a:Nat->Se}{g:yX}(h:Sat I w C)(q:Has C (Wx (some ⟨o,0,none⟩) a g m))(n:∀j,j<m->fu C (g j) (a j).b.ch):
 ∃os l,Sat I w (SY o a os l m::C)/\∀j,j<m->0<(a j).b.ch.length->∃b,os j=some b/\Has C (gQ b (a j).b.ch):=by
 have d:∀j,∃p:Option Addr×Nat,j<m->g j=.slice p.1 (a j).b.ch.length p.2/\(0<(a j).b.ch.length->∃b,p.1=some b/\Has C (gQ b (a j).b.ch)):=λj=>by
  by_cases c:j<m
  .rcases n j c with ⟨k,f⟩|⟨b,cap,i,k,f⟩
   .exact⟨(none,0),λ_=>⟨by rw[k,f];rfl,λz=>by rw[f]at z;cases z⟩⟩
   .exact⟨(some b,cap),λ_=>⟨k,λ_=>⟨b,rfl,rfl,i,f⟩⟩⟩
  .exact⟨(none,0),λz=>absurd z c⟩
 refine⟨λj=>(d j).choose.1,λj=>(d j).choose.2,?_,λj c=>((d j).choose_spec c).2⟩;refine(h.get q).G7 0 rfl (SY o a _ _ m) (λj c=>⟨c,rfl,?_⟩) (λz=>by cases z) rfl;have e:=((d j.1).choose_spec c.1).1;show List.getD [i6 (a j.1).a,i6 (a j.1).b.k,i6 (a j.1).b.n,.slice (d j.1).choose.1 (a j.1).b.ch.length (d j.1).choose.2] j.2 undef=(yL (a j.1,g j.1)).getD j.2 undef;rw[<-e];rfl
end Go.Proofs.YtobagnjnbmgidabGreatDoor
