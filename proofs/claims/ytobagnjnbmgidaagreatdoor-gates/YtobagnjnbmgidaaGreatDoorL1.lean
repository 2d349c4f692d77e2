import Derived.Test.YtobagnjnbmgidaaGreatDoorR10
set_option linter.all false
set_option maxHeartbeats 0
set_option maxRecDepth 100000
namespace Go.Proofs.YtobagnjnbmgidaaGreatDoor
open Go.Conc Go.RowKit Tryz
variable{a:Addr}{st:Int}{N0 c0 cap cr ig el tc:Nat}{ou:Nat->UF}{ev:Nat->QK}{r:aJ}{C M:aX}{w':aj}{bb cf:aE}{s9 qN:CS}{T:oO}{cs:cW}{e1 e2 sL sl ta:eN}
variable{main:Bool}{B ng n m:Nat}{Ok:dw}{Ψ:gi}{w wI:aj}{Post:qG}{l:aP}{s0 sa:eN}{L:oO}{g:Nat->Cl}
theorem BF(F:aC prog main (DX Ok) Ψ)(hB:HB B Ok){bb:aE}(b:bb.kind=.normal)(k:bb.fn=25){cf:aE}{cs:cW}{M:aX}{q c2:Addr}{d c:Nat}{L:List iF}(j:L.length<1000000){B1:Nat}(v:B<=B1):
 ∀(m i:Nat)(o:Act)(w:aj),i+m=L.length->o.defers=[]->w.heap.size=B1->St Ok B1 26 [(5,i6 i),(0,.slice (some q) L.length d),(1,.slice (some c2) L.length c)] (gZ q L::gZ c2 L::M) 0 o w->
   (∀w',Sat Ok w' M->w.heap.size<=w'.heap.size->Ψ (G (cf.finish (.bool true)) cs) w')->Ψ (G (bb.at o (pc prog 25 22 [false] [])) (cf::cs)) w
 |0,i,o,w,P,f,t,D,K=>by
  have A:decide ((i:Int)<(L.length:Int))=false:=by simp;omega
  refine qC F hB b k f D 14 [] [0] [] 4 (.bool true) (λM=>M) 0 36 [false,false] [] [(decide ((↑i:Int)<(↑(List.length L):Int)),false)] [] [] λs p h u=>?_
  exact K s p.sat.tail.tail (by omega)
 |m+1,i,o,w,P,f,t,D,K=>by
  have A:decide ((i:Int)<(L.length:Int))=true:=by simp;omega
  refine bA F hB b f D 14 [0,i,0,103,1,i,0,103] [2,2,2] [8] [(24,.agg #[i6 (List.getD L i (iF.mk 0 0 0)).k,i6 (List.getD L i (iF.mk 0 0 0)).l,i6 (List.getD L i (iF.mk 0 0 0)).n]),(20,.agg #[i6 (List.getD L i (iF.mk 0 0 0)).k,i6 (List.getD L i (iF.mk 0 0 0)).l,i6 (List.getD L i (iF.mk 0 0 0)).n]),(5,i6 i),(0,.slice (some q) (List.length L) d),(1,.slice (some c2) (List.length L) c)] (λM=>M) 0 36 [false,true] [8] [(decide ((↑i:Int)<(↑(List.length L):Int)),true)] [((↑i:Int),List.length L),((↑i:Int),List.length L)] [(6,(i,List.length L))] λX s p y h u R=>?_
  refine ZI F b 20 24 25 48 [(L.getD i ⟨0,0,0⟩).k,(L.getD i ⟨0,0,0⟩).l,(L.getD i ⟨0,0,0⟩).n] (by kernel_rfl) (by kernel_rfl) (by kernel_rfl) (by decide) rfl rfl p λU z e=>?_
  rw[show jY (pc prog 25 36 [false,true] [8])=pc prog 25 37 [false,true] [8] by kernel_rfl];have V:St Ok B1 26 _ _ 0 U s:=⟨z,p.sat,p.sz⟩;have J:=h;replace e:=e.trans y;have O:IntKind.wrap .i64 ((i:Int)+1)=((i+1:Nat):Int):=by rw[aA (by omega) (by omega)];rfl
  refine aq F hB b e V 10 [] [1] [] [(5,i6 (IntKind.wrap .i64 ((↑i:Int)+1))),(0,.slice (some q) (List.length L) d),(1,.slice (some c2) (List.length L) c)] (λM=>M) 0 47 [false,true,false] [8] λS H E x I N Q=>?_
  rw[O]at E;rw[show pc prog 25 47 [false,true,false] [8]=pc prog 25 22 [false] [] by kernel_rfl];exact BF F hB b k j v m (i+1) S H (by omega) x (by omega) E λw' A W=>K w' A (by omega)
theorem BE(F:aC prog main (DX Ok) Ψ)(hB:HB B Ok){j c2:Addr}{c b:Nat}{L:List iF}(d:L.length<1000000)(s:Sat Ok w (gZ j L::gZ c2 L::M))(t:B<=w.heap.size)(K:∀w',Sat Ok w' M->w.heap.size<=w'.heap.size->Ψ (G (cf.finish (.bool true)) cs) w'):Ψ (G (Frame.enter prog 25 #[.slice (some j) L.length c,.slice (some c2) L.length b] .normal) (cf::cs)) w:=by
 have E:((L.length:Int) !=(L.length:Int))=false:=by simp
 refine dg f25 func25 _ rfl 26 (by kernel_rfl) s λbb H B1 A e i h z p=>?_
 refine bA F hB e h z 22 [] [0] [] [(5,i6 0),(0,.slice (some j) (List.length L) c),(1,.slice (some c2) (List.length L) b)] (λM=>M) 0 22 [false] [] [((↑(List.length L):Int) !=(↑(List.length L):Int),false)] [] [] λx k y f o q v=>?_
 exact BF F hB e i d (by omega) L.length 0 x k (bD _) f (by omega) y λw' u D=>K w' u (by omega)
theorem vL(F:aC prog main (DX Ok) Ψ)(hB:HB B Ok){i c2:eN}{c b:Nat}(t:Sat Ok w M)(u:B<=w.heap.size)(K:∀w',Sat Ok w' M->w.heap.size<=w'.heap.size->Ψ (G (cf.finish (.bool true)) cs) w'):Ψ (G (Frame.enter prog 25 #[.slice i 0 c,.slice c2 0 b] .normal) (cf::cs)) w:=by
 refine dg f25 func25 _ rfl 26 (by kernel_rfl) t λbb H B1 D d h f z p=>?_
 refine aq F hB d f z 22 [] [1] [] [(5,i6 0),(0,.slice i 0 c),(1,.slice c2 0 b)] (λM=>M) 0 22 [false] [] λE A y e o s v=>?_
 refine bP F hB d h e y 14 [] [1] [] 4 (.bool true) (λM=>M) 0 36 [false,false] [] λj x k q=>?_
 exact K j x.sat (by omega)
theorem Jb(F:aC prog main (DX Ok) Ψ)(hB:HB B Ok){f e:ay}{L:List iF}(c:L.length<1000000)(s:eY M f L)(c2:eY M e L)(d:Sat Ok w M)(b:B<=w.heap.size)(K:∀w',Sat Ok w' M->w.heap.size<=w'.heap.size->Ψ (G (cf.finish (.bool true)) cs) w'):Ψ (G (Frame.enter prog 25 #[f,e] .normal) (cf::cs)) w:=by
 rcases s with ⟨rfl,h⟩|⟨u,v,p,rfl,q⟩
 .subst h
  rcases c2 with ⟨rfl,_⟩|⟨t,k,o,rfl,j⟩
  .exact vL F hB d b K
  .exact vL F hB d b K
 .rcases c2 with ⟨rfl,h⟩|⟨t,k,o,rfl,j⟩
  .subst h;exact vL F hB d b K
  .have f:=d.dup j rfl
   have e:=f.dup (i:=p+1) (r:=gZ u L) q rfl;exact BE F hB c e b K
abbrev tC(e:eN)(ev:Nat->QK)(el:Nat):aJ:=fR (e.getD ⟨0,0,none⟩) 5 (λj=>yR (ev j)) el false
abbrev nu(o:eN)(ou:Nat->UF)(oh:CS)(n:Nat):aJ:=fR (o.getD ⟨0,0,none⟩) 4 (λj=>zm (ou j,oh j)) n false
theorem FB(F:aC prog main (DX Ok) Ψ)(hB:HB B Ok){bb:aE}(b:bb.kind=.normal){cs:cW}{M:aX}{H E:ay}{e1 e2:eN}{el J I d c:Nat}{ev:Nat->QK}(u:el<1000000000)(O:0<el->∃a,e1=some a)(N:0<el->∃a,e2=some a){B1:Nat}(t:B<=B1):
 ∀(m i:Nat)(k:Act)(w:aj),i+m=el->k.defers=[]->w.heap.size=B1->St Ok B1 89 [(5,i6 i),(2,ptr d),(3,ptr c)] (bR c [E,.slice e2 el I]::bR d [H,.slice e1 el J]::tC e1 ev el::tC e2 ev el::M) 0 k w->
   (∀a' w',a'.defers=[]->w'.heap.size=B1->St Ok B1 89 [(6,i6 (0:Nat)),(2,ptr d),(3,ptr c)] (bR c [E,.slice e2 el I]::bR d [H,.slice e1 el J]::tC e1 ev el::tC e2 ev el::M) 0 a' w'->Ψ (G (bb.at a' (pc prog 32 53 [false,false] [])) cs) w')->Ψ (G (bb.at k (pc prog 32 35 [false] [])) cs) w
 |0,i,k,w,W,h,q,D,K=>by
  have X:decide ((i:Int)<(el:Int))=false:=by simp;omega
  refine bA F hB b h D 18 [1,0,1,1] [0] [] [(6,i6 0),(2,ptr d),(3,ptr c)] (λM=>M) 0 53 [false,false] [] [(decide ((↑i:Int)<(↑el:Int)),false)] [] [] λA p o f j s y=>?_
  exact K A p f (by omega) o
 |m+1,i,k,w,W,h,q,D,K=>by
  have X:decide ((i:Int)<(el:Int))=true:=by simp;omega
  obtain⟨A,rfl⟩:=O (by omega);obtain⟨a2,rfl⟩:=N (by omega);refine bA F hB b h D 15 [1,0,1,1,1,0,1,1,2,i,0,105,0,0,1,1,3,i,0,105] [2,2,2] [10] [(42,.agg #[i6 (ev i).a,i6 (ev i).c,i6 (ev i).l,i6 (ev i).w,i6 (ev i).n]),(37,.agg #[i6 (ev i).a,i6 (ev i).c,i6 (ev i).l,i6 (ev i).w,i6 (ev i).n]),(5,i6 i),(2,ptr d),(3,ptr c)] (λM=>M) 0 50 [false,true] [10] [(decide ((↑i:Int)<(↑el:Int)),true)] [((↑i:Int),el),((↑i:Int),el)] [(10,(i,el))] λA p o f j s y=>?_
  refine ZI F b 37 42 43 55 [(ev i).a,(ev i).c,(ev i).l,(ev i).w,(ev i).n] (by kernel_rfl) (by kernel_rfl) (by kernel_rfl) (by decide) rfl rfl o λz x e=>?_
  rw[show jY (pc prog 32 50 [false,true] [10])=pc prog 32 51 [false,true] [10] by kernel_rfl];have S2:St Ok B1 89 _ _ 0 z p:=⟨x,o.sat,o.sz⟩;have S:=j;replace e:=e.trans f;have V:IntKind.wrap .i64 ((i:Int)+1)=((i+1:Nat):Int):=by rw[aA (by omega) (by omega)];rfl
  refine aq F hB b e S2 10 [] [1] [] [(5,i6 (IntKind.wrap .i64 ((↑i:Int)+1))),(2,ptr d),(3,ptr c)] (λM=>M) 0 61 [false,true,false] [10] λZ Q P v R U Y=>?_
  rw[V]at P;rw[show pc prog 32 61 [false,true,false] [10]=pc prog 32 35 [false] [] by kernel_rfl];exact FB F hB b u O N t m (i+1) Z Q (by omega) v (by omega) P K
theorem FA(F:aC prog main (DX Ok) Ψ)(hB:HB B Ok){bb:aE}(b:bb.kind=.normal)(N:bb.fn=32){cf:aE}{cs:cW}{D y:ay}{o1 o2:eN}{n O c2 d c:Nat}{ou:Nat->UF}{s9 qN:CS}(W:n<=9)(h1:0<n->∃a,o1=some a)(h2:0<n->∃a,o2=some a):
 ∀(m i:Nat)(M:aX)(P:Act)(w:aj)(B1:Nat),i+m=n->(∀j,j<n->(ou j).b.ch.length<1000000/\eY M (s9 j) (ou j).b.ch/\eY M (qN j) (ou j).b.ch)->P.defers=[]->B<=B1->w.heap.size=B1->St Ok B1 89 [(6,i6 i),(2,ptr d),(3,ptr c)] (bR c [.slice o2 n c2,y]::bR d [.slice o1 n O,D]::nu o1 ou s9 n::nu o2 ou qN n::M) 0 P w->
   (∀w',Sat Ok w' M->w.heap.size<=w'.heap.size->Ψ (G (cf.finish (.bool true)) cs) w')->Ψ (G (bb.at P (pc prog 32 53 [false,false] [])) (cf::cs)) w
 |0,i,M,P,w,B1,hi,hc,s,X,U,S0,K=>by
  have g1:decide ((i:Int)<(n:Int))=false:=by simp;omega
  refine qC F hB b N s S0 15 [1,0,0,1] [0] [] 4 (.bool true) (λM=>M) 0 68 [false,false,false] [] [(decide ((↑i:Int)<(↑n:Int)),false)] [] [] λR x S V=>?_
  exact K R x.sat.tail.tail.tail.tail (by omega)
 |m+1,i,M,P,w,B1,hi,hc,s,X,U,S0,K=>by
  have g1:decide ((i:Int)<(n:Int))=true:=by simp;omega
  obtain⟨h,rfl⟩:=h1 (by omega);obtain⟨e,rfl⟩:=h2 (by omega);obtain⟨Vr,u,t⟩:=hc i (by omega)
  obtain⟨o,p,q,e1⟩:∃r l k,s9 i=.slice r l k:=by
   rcases u with ⟨z,_⟩|⟨ca,cap,_,z,_⟩
   .exact⟨_,_,_,z⟩
   .exact⟨_,_,_,z⟩
  obtain⟨E,H,I,e2⟩:∃r l k,qN i=.slice r l k:=by
   rcases t with ⟨z,_⟩|⟨ca,cap,_,z,_⟩
   .exact⟨_,_,_,z⟩
   .exact⟨_,_,_,z⟩
  refine bA F hB b s S0 21 [1,0,0,1,1,0,0,1,2,i,0,104] [2,2] [] [(7,ptr B1),(55,.agg #[i6 (ou i).a,i6 (ou i).b.k,i6 (ou i).b.n,aJ.get (aJ.mk (λj=>Addr.add (Addr.add (Option.getD (some h) (Addr.mk 0 0 none)) (j.fst*4)) j.snd) [] (λj f=>List.getD (zm (ou j,s9 j)) f undef) n 4 false none) (i,3)]),(6,i6 i),(2,ptr d),(3,ptr c)] (λM=>bR (B1) [i6 0,i6 0,i6 0,.slice none 0 0]::(M)) 1 74 [false,false,true] [] [(decide ((↑i:Int)<(↑n:Int)),true)] [((↑i:Int),n)] [(4,(i,n))] λa1 R x kJ S V dS=>?_
  replace x:St Ok B1 89 [(7,ptr B1),(55,.agg #[i6 (ou i).a,i6 (ou i).b.k,i6 (ou i).b.n,s9 i]),(6,i6 i),(2,ptr d),(3,ptr c)] _ 1 a1 R:=x;rw[e1]at x;refine bA F hB b kJ x 10 [0,0,0,4,1,0,0,1,4,i,0,104] [2] [] [(8,ptr (B1+1)),(60,.agg #[i6 (ou i).a,i6 (ou i).b.k,i6 (ou i).b.n,aJ.get (aJ.mk (λj=>Addr.add (Addr.add (Option.getD (some e) (Addr.mk 0 0 none)) (j.fst*4)) j.snd) [] (λj f=>List.getD (zm (ou j,qN j)) f undef) n 4 false none) (i,3)]),(7,ptr B1),(6,i6 i),(2,ptr d),(3,ptr c)] (λM=>bR (B1+1) [i6 0,i6 0,i6 0,.slice none 0 0]::(bu 0 (0,3) (.slice o p q) (bu 0 (0,2) (i6 (ou i).b.n) (bu 0 (0,1) (i6 (ou i).b.k) (bu 0 (0,0) (i6 (ou i).a) (M)))))) 2 84 [false,false,true] [] [] [((↑i:Int),n)] [(4,(i,n))] λa2 w2 Q jQ fV je Qz=>?_
  replace Q:St Ok B1 89 [(8,ptr (B1+1)),(60,.agg #[i6 (ou i).a,i6 (ou i).b.k,i6 (ou i).b.n,qN i]),(7,ptr B1),(6,i6 i),(2,ptr d),(3,ptr c)] (bR (B1+1) [i6 0,i6 0,i6 0,.slice none 0 0]::bR B1 [i6 (ou i).a,i6 (ou i).b.k,i6 (ou i).b.n,.slice o p q]::bR c [.slice (some e) n c2,y]::bR d [.slice (some h) n O,D]::nu (some h) ou s9 n::nu (some e) ou qN n::M) 2 a2 w2:=Q;rw[e2]at Q;refine aq F hB b jQ Q 8 [0,0,0,4,1,0,3,1,0,0,3,1] [] [] [(64,.slice E H I),(62,.slice o p q),(8,ptr (B1+1)),(7,ptr B1),(6,i6 i),(2,ptr d),(3,ptr c)] (λM=>bu 0 (0,3) (.slice E H I) (bu 0 (0,2) (i6 (ou i).b.n) (bu 0 (0,1) (i6 (ou i).b.k) (bu 0 (0,0) (i6 (ou i).a) (M))))) 2 92 [false,false,true] [] λa3 w3 S3 jF gQ ji dX=>?_
  refine bK F b jF S3 65 25 #[.slice o p q,.slice E H I] λlq J=>?_
  have M3:=S3.sat;rw[e1]at u;rw[e2]at t
  let A6:List aJ:=[bR (B1+1) [i6 (ou i).a,i6 (ou i).b.k,i6 (ou i).b.n,.slice E H I],bR B1 [i6 (ou i).a,i6 (ou i).b.k,i6 (ou i).b.n,.slice o p q],bR c [.slice (some e) n c2,y],bR d [.slice (some h) n O,D],nu (some h) ou s9 n,nu (some e) ou qN n]
  refine Jb F hB Vr (u.app A6) (t.app A6) S3.sat (by omega) λw4 h4 oB=>J _ _ _ h4 λa4 B4 S4 Z jP=>?_
  have hw:IntKind.wrap .i64 ((i:Int)+1)=((i+1:Nat):Int):=by rw[aA (by omega) (by omega)];rfl
  have t1:((ou i).a !=(ou i).a)=false:=by simp
  have t2:((ou i).b.k !=(ou i).b.k)=false:=by simp
  have t3:((ou i).b.n !=(ou i).b.n)=false:=by simp
  refine bA F hB b Z S4 37 [1,0,0,1,0,0,0,1,1,0,1,1,0,0,1,1,1,0,2,1,0,0,2,1] [1,1,1,1,1,0,1,1,1,1,0,1,1,1,1,0] [] [(6,i6 (IntKind.wrap .i64 ((↑i:Int)+1))),(87,.bool ((ou i).b.n !=(ou i).b.n)),(86,i6 (ou i).b.n),(85,.pointer (some (Addr.mk (B1+1) 2 none))),(84,i6 (ou i).b.n),(83,.pointer (some (Addr.mk B1 2 none))),(80,.bool ((ou i).b.k !=(ou i).b.k)),(79,i6 (ou i).b.k),(78,.pointer (some (Addr.mk (B1+1) 1 none))),(77,i6 (ou i).b.k),(76,.pointer (some (Addr.mk B1 1 none))),(73,.bool ((ou i).a !=(ou i).a)),(72,i6 (ou i).a),(71,ptr (B1+1)),(70,i6 (ou i).a),(69,ptr B1),(2,ptr d),(3,ptr c)] (λM=>M) 0 130 [false,false,true,false] [] [((ou i).b.n !=(ou i).b.n,false),((ou i).b.k !=(ou i).b.k,false),((ou i).a !=(ou i).a,false)] [] [] λa5 w5 v Y mz kT jv=>?_
  rw[hw]at v;replace v:=v.dD [(6,i6 ((i+1:Nat):Int)),(2,ptr d),(3,ptr c)] rfl;rw[show pc prog 32 130 [false,false,true,false] []=pc prog 32 53 [false,false] [] by kernel_rfl];have h5:=Sat.back (A:=[bR c [.slice (some e) n c2,y],bR d [.slice (some h) n O,D],nu (some h) ou s9 n,nu (some e) ou qN n]) (Sat.back (A:=[bR B1 [i6 (ou i).a,i6 (ou i).b.k,i6 (ou i).b.n,.slice o p q],bR c [.slice (some e) n c2,y],bR d [.slice (some h) n O,D],nu (some h) ou s9 n,nu (some e) ou qN n]) v.sat);exact FA F hB b N W h1 h2 m (i+1) (bR B1 [i6 (ou i).a,i6 (ou i).b.k,i6 (ou i).b.n,.slice o p q]::bR (B1+1) [i6 (ou i).a,i6 (ou i).b.k,i6 (ou i).b.n,.slice E H I]::M) a5 w5 B4 (by omega) (λj hj=>⟨(hc j hj).1,(hc j hj).2.1.app [_,_],(hc j hj).2.2.app [_,_]⟩) Y (by omega) (by omega) ⟨v.env,h5,v.sz⟩ λw' z1 z2=>K w' z1.tail.tail (by omega)
theorem Fz(F:aC prog main (DX Ok) Ψ)(hB:HB B Ok){f c2 e d:Nat}{o1 o2:eN}(o:el<1000000000)(k:n<=9)(Q:0<el->∃a,e1=some a)(P:0<el->∃a,e2=some a)(v:0<n->∃a,o1=some a)(u:0<n->∃a,o2=some a)(b:∀j,j<n->(ou j).b.ch.length<1000000/\eY M (s9 j) (ou j).b.ch/\eY M (qN j) (ou j).b.ch)(N:B<=w.heap.size)(J:Sat Ok w (tC e1 ev el::tC e2 ev el::nu o1 ou s9 n::nu o2 ou qN n::M))(K:∀w',Sat Ok w' M->w.heap.size<=w'.heap.size->Ψ (G (cf.finish (.bool true)) cs) w'):Ψ (G (Frame.enter prog 32 #[.agg #[.slice o1 n f,.slice e1 el e],.agg #[.slice o2 n c2,.slice e2 el d]] .normal) (cf::cs)) w:=by
 have Z:((n:Int) !=(n:Int))=false:=by simp
 have Y:((el:Int) !=(el:Int))=false:=by simp
 refine dg f32 func32 _ rfl 89 (by kernel_rfl) J λbb a0 B1 X c t s V H=>?_
 refine bA F hB c s V 35 [1,0,0,1,0,0,0,1,1,0,1,1,0,0,1,1] [0,1,1,1,1,1,1,0] [] [(5,i6 0),(3,ptr (B1+1)),(2,ptr B1)] (λM=>bR (B1+1) [.slice o2 n c2,.slice e2 el d]::(bR (B1) [.slice o1 n f,.slice e1 el e]::(M))) 2 35 [false] [] [((↑el:Int) !=(↑el:Int),false),((↑n:Int) !=(↑n:Int),false)] [] [] λU y h q E I R=>?_
 replace h:=h.dD [(5,i6 ((0:Nat):Int)),(2,ptr B1),(3,ptr (B1+1))] rfl;refine FB F hB c o Q P (by omega) el 0 U y (bD _) q rfl ⟨h.env,h.sat,rfl⟩ λS D p i x=>?_
 have O:=Sat.back (A:=[bR (B1+1) [.slice o2 n c2,.slice e2 el d],bR B1 [.slice o1 n f,.slice e1 el e],nu o1 ou s9 n,nu o2 ou qN n]) (Sat.back (A:=[tC e2 ev el,bR (B1+1) [.slice o2 n c2,.slice e2 el d],bR B1 [.slice o1 n f,.slice e1 el e],nu o1 ou s9 n,nu o2 ou qN n]) (C:=M) (r:=tC e1 ev el) (x.sat.perm ?_))
 .exact FA F hB c t k v u n 0 (tC e2 ev el::tC e1 ev el::M) S D y.heap.size (bD _) (λj hj=>⟨(b j hj).1,(b j hj).2.1.app [_,_],(b j hj).2.2.app [_,_]⟩) p (by omega) i ⟨x.env,O,x.sz⟩ λw' z W=>K w' z.tail.tail (by omega)
 .exact(EJ (l₁:=[_,_]) (l₂:=[_,_])).append_right (nu o1 ou s9 n::nu o2 ou qN n::M)
theorem oz(F:aC prog main (DX Ok) Ψ)(hB:HB B Ok)(n lo f:Int)(t:Sat Ok w M)(v:B<=w.heap.size)(K:∀w',Sat Ok w' M->w.heap.size<=w'.heap.size->Ψ (G (cf.finish (.bool (eK lo n f))) cs) w'):Ψ (G (Frame.enter prog 42 #[i6 n,i6 lo,i6 f] .normal) (cf::cs)) w:=by
 by_cases h:lo<=n
 .have p:decide (n≥lo)=true:=by simpa using h
  refine dg f42 func42 _ rfl 15 (by kernel_rfl) t λbb x B1 u c d b s k=>?_
  refine qC F hB c d b s 16 [] [2,3,3] [] 6 (.bool (decide (n<=f))) (λM=>M) 0 16 [] [] [(decide (n≥lo),true)] [] [] λi q j o=>?_
  have e:eK lo n f=decide (n<=f):=by unfold eK;simp[h]
  rw[e]at K;exact K i q.sat (by omega)
 .have p:decide (n≥lo)=false:=by simpa using h
  refine dg f42 func42 _ rfl 15 (by kernel_rfl) t λbb x B1 u c d b s k=>?_
  refine qC F hB c d b s 16 [] [0,1,1] [] 6 (.bool false) (λM=>M) 0 16 [] [] [(decide (n≥lo),false)] [] [] λi q j o=>?_
  have e:eK lo n f=false:=by unfold eK;simp[h]
  rw[e]at K;exact K i q.sat (by omega)
theorem Nv(F:aC prog main (DX Ok) Ψ)(hB:HB B Ok)(k a b c d e:Int)(hk:k<=4)(hS:Sat Ok w M)(gp:B<=w.heap.size)(K:∀w',Sat Ok w' M->w.heap.size<=w'.heap.size->Ψ (G (cf.finish (.bool (aK k a b c d e))) cs) w'):Ψ (G (Frame.enter prog 28 #[.agg #[i6 k,i6 a,i6 b,i6 c,i6 d,i6 e]] .normal) (cf::cs)) w:=by
 by_cases k1:k=1
 .subst k1
  refine dg f28 func28 _ rfl 81 (by kernel_rfl) hS λbb a0 B1 hn f h j Y V=>?_
  refine aq F hB f j Y 25 [0,0,0,2] [3] [] [(9,i6 a),(1,ptr B1)] (λM=>bR (B1) [i6 1,i6 a,i6 b,i6 c,i6 d,i6 e]::(M)) 1 25 [true] [] λa1 w1 x J U W dS=>?_
  refine bK F f J x 10 42 #[i6 a,i6 1,i6 9] λgJ s=>?_
  refine oz F hB a 1 9 x.sat (by omega) λw2 h2 je=>s _ _ _ h2 λa2 B2 Q p fV=>?_
  cases i:eK 1 a 9<;>rw[i]at Q
  .refine bP F hB f h p Q 23 [] [1,1,1,1,1,1,1,1,1] [] 2 (.bool false) (λM=>M) 0 49 [true] [] λZ u z D=>?_
   rw[show aK 1 a b c d e=false by simp[aK,i]]at K;exact K Z u.sat.tail (by omega)
  refine aq F hB f p Q 3 [0,0,2,1] [3,3] [] [(13,i6 b),(11,.bool true),(1,ptr B1)] (λM=>M) 0 29 [true] [] λa3 Z u I z D dX=>?_
  refine bK F f I u 14 42 #[i6 b,i6 0,i6 1000] λlq q=>?_
  refine oz F hB b 0 1000 u.sat (by omega) λw4 h4 oB=>q _ _ _ h4 λa4 B4 P o jP=>?_
  cases t:eK 0 b 1000<;>rw[t]at P
  .refine bP F hB f h o P 19 [] [1,1,1,1,1,1] [] 2 (.bool false) (λM=>M) 0 49 [true] [] λS v y A=>?_
   rw[show aK 1 a b c d e=false by simp[aK,i,t]]at K;exact K S v.sat.tail (by omega)
  refine aq F hB f o P 4 [0,0,3,1] [3,3] [] [(18,i6 c),(16,.bool true),(1,ptr B1)] (λM=>M) 0 34 [true] [] λa5 S v nC y A jv=>?_
  refine bK F f nC v 19 42 #[i6 c,i6 1,i6 9] λEB O=>?_
  refine oz F hB c 1 9 v.sat (by omega) λw6 h6 yw=>O _ _ _ h6 λa6 B6 S6 H oS=>?_
  cases R:eK 1 c 9<;>rw[R]at S6
  .refine bP F hB f h H S6 14 [] [1,1,1] [] 2 (.bool false) (λM=>M) 0 49 [true] [] λw7 X oA oT=>?_
   rw[show aK 1 a b c d e=false by simp[aK,i,t,R]]at K;exact K w7 X.sat.tail (by omega)
  refine aq F hB f H S6 4 [0,0,4,1] [3,3] [] [(23,i6 d),(21,.bool true)] (λM=>M) 0 39 [true] [] λa7 w7 X lW oA oT tu=>?_
  refine bK F f lW X 24 42 #[i6 d,i6 0,i6 10000] λQC N=>?_
  refine oz F hB d 0 10000 X.sat (by omega) λw8 h8 Em=>N _ _ _ h8 λa8 B8 S8 E yt=>?_
  cases q4:eK 0 d 10000<;>rw[q4]at S8
  .refine bP F hB f h E S8 9 [] [] [] 2 (.bool false) (λM=>M) 0 49 [true] [] λw9 S9 An DD=>?_
   rw[show aK 1 a b c d e=false by simp[aK,i,t,R,q4]]at K;exact K w9 S9.sat.tail (by omega)
  refine bP F hB f h E S8 9 [] [] [] 2 (.bool true) (λM=>M) 0 49 [true] [] λw9 S9 An DD=>?_
  rw[show aK 1 a b c d e=true by simp[aK,i,t,R,q4]]at K;exact K w9 S9.sat.tail (by omega)
 have RY:(k==1)=false:=by simpa using k1
 by_cases k2:k=2
 .subst k2
  refine dg f28 func28 _ rfl 81 (by kernel_rfl) hS λbb a0 B1 hn f h j Y V=>?_
  refine bP F hB f h j Y 37 [0,0,0,1] [1,3] [] 2 (.bool true) (λM=>bR (B1) [i6 2,i6 a,i6 b,i6 c,i6 d,i6 e]::(M)) 1 37 [false,true] [] λw1 x U W=>?_
  exact K w1 x.sat.tail (by omega)
 have k2':(k==2)=false:=by simpa using k2
 by_cases k3:k=3
 .subst k3
  refine dg f28 func28 _ rfl 81 (by kernel_rfl) hS λbb a0 B1 hn f h j Y V=>?_
  refine aq F hB f j Y 37 [0,0,0,2] [1,1,3] [] [(31,i6 a),(1,ptr B1)] (λM=>bR (B1) [i6 3,i6 a,i6 b,i6 c,i6 d,i6 e]::(M)) 1 37 [false,false,true] [] λa1 w1 x J U W dS=>?_
  refine bK F f J x 32 42 #[i6 a,i6 1,i6 1000] λgJ s=>?_
  refine oz F hB a 1 1000 x.sat (by omega) λw2 h2 je=>s _ _ _ h2 λa2 B2 Q p fV=>?_
  cases i:eK 1 a 1000<;>rw[i]at Q
  .refine bP F hB f h p Q 13 [] [1,1,1] [] 2 (.bool false) (λM=>M) 0 51 [false,false,true] [] λZ u z D=>?_
   rw[show aK 3 a b c d e=false by simp[aK,i]]at K;exact K Z u.sat.tail (by omega)
  refine aq F hB f p Q 3 [0,0,2,1] [3,3] [] [(35,i6 b),(33,.bool true)] (λM=>M) 0 41 [false,false,true] [] λa3 Z u I z D dX=>?_
  refine bK F f I u 36 42 #[i6 b,i6 1,i6 20] λlq q=>?_
  refine oz F hB b 1 20 u.sat (by omega) λw4 h4 oB=>q _ _ _ h4 λa4 B4 P o jP=>?_
  cases t:eK 1 b 20<;>rw[t]at P
  .refine bP F hB f h o P 9 [] [] [] 2 (.bool false) (λM=>M) 0 51 [false,false,true] [] λS v y A=>?_
   rw[show aK 3 a b c d e=false by simp[aK,i,t]]at K;exact K S v.sat.tail (by omega)
  refine bP F hB f h o P 9 [] [] [] 2 (.bool true) (λM=>M) 0 51 [false,false,true] [] λS v y A=>?_
  rw[show aK 3 a b c d e=true by simp[aK,i,t]]at K;exact K S v.sat.tail (by omega)
 have k3':(k==3)=false:=by simpa using k3
 by_cases k4:k=4
 .subst k4
  refine dg f28 func28 _ rfl 81 (by kernel_rfl) hS λbb a0 B1 hn f h j Y V=>?_
  refine aq F hB f j Y 43 [0,0,0,2] [1,1,1,3] [] [(41,i6 a),(1,ptr B1)] (λM=>bR (B1) [i6 4,i6 a,i6 b,i6 c,i6 d,i6 e]::(M)) 1 43 [false,false,false,true] [] λa1 w1 x J U W dS=>?_
  refine bK F f J x 42 42 #[i6 a,i6 1,i6 20] λgJ s=>?_
  refine oz F hB a 1 20 x.sat (by omega) λw2 h2 je=>s _ _ _ h2 λa2 B2 Q p fV=>?_
  cases i:eK 1 a 20<;>rw[i]at Q
  .refine bP F hB f h p Q 30 [] [1,1,1,1,1,1,1,1,1,1,1,1,1,1] [] 2 (.bool false) (λM=>M) 0 74 [false,false,false,true] [] λZ u z D=>?_
   rw[show aK 4 a b c d e=false by simp[aK,i]]at K;exact K Z u.sat.tail (by omega)
  refine aq F hB f p Q 5 [0,0,2,1,0,0,1,1] [3,3,3,3] [] [(47,i6 a),(43,.bool true),(45,i6 b),(1,ptr B1)] (λM=>M) 0 49 [false,false,false,true] [] λa3 Z u I z D dX=>?_
  refine bK F f I u 48 42 #[i6 b,i6 1,i6 a] λlq q=>?_
  refine oz F hB b 1 a u.sat (by omega) λw4 h4 oB=>q _ _ _ h4 λa4 B4 P o jP=>?_
  cases t:eK 1 b a<;>rw[t]at P
  .refine bP F hB f h o P 24 [] [1,1,1,1,1,1,1,1,1] [] 2 (.bool false) (λM=>M) 0 74 [false,false,false,true] [] λS v y A=>?_
   rw[show aK 4 a b c d e=false by simp[aK,i,t]]at K;exact K S v.sat.tail (by omega)
  refine aq F hB f o P 4 [0,0,3,1] [3,3] [] [(52,i6 c),(50,.bool true),(1,ptr B1)] (λM=>M) 0 54 [false,false,false,true] [] λa5 S v nC y A jv=>?_
  refine bK F f nC v 53 42 #[i6 c,i6 1,i6 100] λEB O=>?_
  refine oz F hB c 1 100 v.sat (by omega) λw6 h6 yw=>O _ _ _ h6 λa6 B6 S6 H oS=>?_
  cases R:eK 1 c 100<;>rw[R]at S6
  .refine bP F hB f h H S6 19 [] [1,1,1,1,1,1] [] 2 (.bool false) (λM=>M) 0 74 [false,false,false,true] [] λw7 X oA oT=>?_
   rw[show aK 4 a b c d e=false by simp[aK,i,t,R]]at K;exact K w7 X.sat.tail (by omega)
  refine aq F hB f H S6 4 [0,0,4,1] [3,3] [] [(57,i6 d),(55,.bool true),(1,ptr B1)] (λM=>M) 0 59 [false,false,false,true] [] λa7 w7 X lW oA oT tu=>?_
  refine bK F f lW X 58 42 #[i6 d,i6 0,i6 1000] λQC N=>?_
  refine oz F hB d 0 1000 X.sat (by omega) λw8 h8 Em=>N _ _ _ h8 λa8 B8 S8 E yt=>?_
  cases q4:eK 0 d 1000<;>rw[q4]at S8
  .refine bP F hB f h E S8 14 [] [1,1,1] [] 2 (.bool false) (λM=>M) 0 74 [false,false,false,true] [] λw9 S9 An DD=>?_
   rw[show aK 4 a b c d e=false by simp[aK,i,t,R,q4]]at K;exact K w9 S9.sat.tail (by omega)
  refine aq F hB f E S8 4 [0,0,5,1] [3,3] [] [(62,i6 e),(60,.bool true)] (λM=>M) 0 64 [false,false,false,true] [] λa9 w9 S9 OD An DD TP=>?_
  refine bK F f OD S9 63 42 #[i6 e,i6 1,i6 9] λcf9 G2=>?_
  refine oz F hB e 1 9 S9.sat (by omega) λQV Cg v8=>G2 _ _ _ Cg λCN Ib zu G0 tY=>?_
  cases q5:eK 1 e 9<;>rw[q5]at zu
  .refine bP F hB f h G0 zu 9 [] [] [] 2 (.bool false) (λM=>M) 0 74 [false,false,false,true] [] λvp KT yu v7=>?_
   rw[show aK 4 a b c d e=false by simp[aK,i,t,R,q4,q5]]at K;exact K vp KT.sat.tail (by omega)
  refine bP F hB f h G0 zu 9 [] [] [] 2 (.bool true) (λM=>M) 0 74 [false,false,false,true] [] λvp KT yu v7=>?_
  rw[show aK 4 a b c d e=true by simp[aK,i,t,R,q4,q5]]at K;exact K vp KT.sat.tail (by omega)
 have k4':(k==4)=false:=by simpa using k4
 have k5':(k==5)=false:=by simp;omega
 have k6':(k==6)=false:=by simp;omega
 refine dg f28 func28 _ rfl 81 (by kernel_rfl) hS λbb a0 B1 hn f h j Y V=>?_
 refine qC F hB f h j Y 59 [0,0,0,1] [0,0,0,0,0,0] [] 2 (.bool false) (λM=>bR (B1) [i6 k,i6 a,i6 b,i6 c,i6 d,i6 e]::(M)) 1 59 [false,false,false,false,false,false] [] [(k==6,false),(k==5,false),(k==4,false),(k==3,false),(k==2,false),(k==1,false)] [] [] λw1 x U W=>?_
 have e:aK k a b c d e=false:=by simp only[aK,af k1,af k2,af k3,af k4,af (show¬k=5 by omega),af (show¬k=6 by omega)]
 rw[e]at K;exact K w1 x.sat.tail (by omega)
theorem FK(F:aC prog main (DX Ok) Ψ)(hB:HB B Ok){bb:aE}(b:bb.kind=.normal)(c:bb.fn=29){cf:aE}{cs:cW}{M:aX}{Y:ay}{ta:eN}{n tc o:Nat}{T:oO}(hn:n<=12)(t:0<n->∃a,ta=some a){B1:Nat}(I:B<=B1):
 ∀(m i:Nat)(y:Act)(w:aj)(z:Nat),i+m=n->y.defers=[]->B1<=z->w.heap.size=z->St Ok z 45 [(4,i6 i),(1,ptr o)] (bR o [Y,.slice ta n tc]::fR (ta.getD ⟨0,0,none⟩) 3 (λj=>[i6 (T j 0),i6 (T j 1),i6 (T j 2)]) n false::M) 0 y w->
   (∀w',Sat Ok w' M->w.heap.size<=w'.heap.size->Ψ (G (cf.finish (.bool (lX T m i))) cs) w')->Ψ (G (bb.at y (pc prog 29 33 [false] [])) (cf::cs)) w
 |0,i,y,w,z,hi,h,Q,E,R,K=>by
  have g1:decide ((i:Int)<(n:Int))=false:=by simp;omega
  refine qC F hB b c h R 15 [0,0,1,1] [0] [] 2 (.bool true) (λM=>M) 0 48 [false,false] [] [(decide ((↑i:Int)<(↑n:Int)),false)] [] [] λS A D H=>?_
  exact K S A.sat.tail.tail (by omega)
 |m+1,i,y,w,z,hi,h,Q,E,R,K=>by
  have g1:decide ((i:Int)<(n:Int))=true:=by simp;omega
  obtain⟨u,rfl⟩:=t (by omega);refine bA F hB b h R 21 [0,0,1,1,0,0,1,1,1,i,0,101] [2,2] [] [(30,i6 (T i 0)),(4,i6 i),(1,ptr o)] (λM=>M) 0 54 [false,true] [] [(decide ((↑i:Int)<(↑n:Int)),true)] [((↑i:Int),n)] [(1,(i,n))] λa1 S A P D H dS=>?_
  refine bK F b P A 31 42 #[i6 (T i 0),i6 1,i6 4] λgJ x=>?_
  refine oz F hB (T i 0) 1 4 A.sat (by omega) λw2 h2 je=>x _ _ _ h2 λa2 B3 S2 O fV=>?_
  refine bA F hB b O S2 10 [0,0,1,1,1,i,2,101] [2] [] [(37,i6 (T i 2)),(5,.bool (eK 1 (T i 0) 4)),(4,i6 i),(1,ptr o)] (λM=>M) 0 65 [false,true] [] [] [((↑i:Int),n)] [(1,(i,n))] λa3 w3 W N gQ ji dX=>?_
  refine bK F b N W 38 42 #[i6 (T i 2),i6 0,i6 1000] λlq v=>?_
  refine oz F hB (T i 2) 0 1000 W.sat (by omega) λw4 h4 oB=>v _ _ _ h4 λa4 B4 k f Z=>?_
  have e:lX T (m+1) i=(eK 1 (T i 0) 4&&eK 0 (T i 2) 1000&&lX T m (i+1)):=rfl;rw[e]at K;cases V:eK 1 (T i 0) 4 with
  |false=>
   rw[V]at k K;refine bP F hB b c f k 16 [] [3,3,3] [] 2 (.bool false) (λM=>M) 0 82 [false,true,true] [] λp d q s=>?_
   exact K p d.sat.tail.tail (by omega)
  |true=>
   rw[V]at k K;cases U:eK 0 (T i 2) 1000 with
   |false=>
    rw[U]at k K;refine bP F hB b c f k 16 [] [1,1,3] [] 2 (.bool false) (λM=>M) 0 82 [false,true,true] [] λp d q s=>?_
    exact K p d.sat.tail.tail (by omega)
   |true=>
    rw[U]at k K;have hw:IntKind.wrap .i64 ((i:Int)+1)=((i+1:Nat):Int):=by rw[aA (by omega) (by omega)];rfl
    refine aq F hB b f k 20 [] [1,1,1] [] [(4,i6 (IntKind.wrap .i64 ((↑i:Int)+1))),(43,.bool false),(42,.bool true),(1,ptr o)] (λM=>M) 0 86 [false,true,false] [] λa5 p d J q s jv=>?_
    rw[hw]at d;replace d:=d.dD [(4,i6 ((i+1:Nat):Int)),(1,ptr o)] rfl;rw[show pc prog 29 86 [false,true,false] []=pc prog 29 33 [false] [] by kernel_rfl];exact FK F hB b c hn t I m (i+1) a5 p B4 (by omega) J (by omega) (by omega) d λw' X z2=>K w' X (by omega)
theorem Nx(F:aC prog main (DX Ok) Ψ)(hB:HB B Ok)(o:0<n->∃a,ta=some a/\Has M (fR a 3 (λj=>[i6 (T j 0),i6 (T j 1),i6 (T j 2)]) n false))(s:Sat Ok w M)(U:B<=w.heap.size)(K:∀w',Sat Ok w' M->w.heap.size<=w'.heap.size->Ψ (G (cf.finish (.bool (iy st n T))) cs) w'):Ψ (G (Frame.enter prog 29 #[.agg #[i6 st,.slice ta n tc]] .normal) (cf::cs)) w:=by
 have q:Sat Ok w (fR (ta.getD ⟨0,0,none⟩) 3 (λj=>[i6 (T j 0),i6 (T j 1),i6 (T j 2)]) n false::M):=by
  by_cases z:0<n
  .obtain⟨u,rfl,S⟩:=o z;exact s.get S
  .exact s.ff (by show n=0;omega) rfl
 clear s;have s:=q;clear q;refine dg f29 func29 _ rfl 45 (by kernel_rfl) s λbb a0 B1 hn b d D S0 P=>?_
 refine aq F hB b D S0 9 [0,0,0,1] [] [] [(8,i6 st),(1,ptr B1)] (λM=>bR (B1) [i6 st,.slice ta n tc]::(M)) 1 9 [] [] λa1 w1 I A O R Y=>?_
 refine bK F b A I 9 42 #[i6 st,i6 0,i6 1000] λZ p=>?_
 refine oz F hB st 0 1000 I.sat (by omega) λw2 V Q=>p _ _ _ V λa2 J v c N=>?_
 by_cases H:eK 0 st 1000=true
 .rw[H]at v
  by_cases W:n<=12
  .have E:decide ((n:Int)>12)=false:=by simp;omega
   refine bA F hB b c v 23 [0,0,1,1] [1,1,1,1,0] [] [(4,i6 0),(1,ptr B1)] (λM=>M) 0 33 [false] [] [(decide ((↑n:Int)>12),false)] [] [] λa3 h f y i k X=>?_
   have e:iy st n T=lX T n 0:=by unfold iy;simp[H,show¬12<n by omega]
   rw[e]at K;replace f:=f.dD [(4,i6 ((0:Nat):Int)),(1,ptr B1)] rfl;exact FK F hB b d W (λz=>by obtain⟨u,x,_⟩:=o z;exact⟨u,x⟩) (B1:=J) (by omega) n 0 a3 h J (bD _) y (az _) (by omega) f λw' x z2=>K w' x (by omega)
  .have E:decide ((n:Int)>12)=true:=by simp;omega
   refine qC F hB b d c v 19 [0,0,1,1] [1,1,1,1,2] [] 2 (.bool false) (λM=>M) 0 29 [true] [] [(decide ((↑n:Int)>12),true)] [] [] λh f i k=>?_
   have e:iy st n T=false:=by unfold iy;simp[show 12<n by omega]
   rw[e]at K;exact K h f.sat.tail.tail (by omega)
 .have t:eK 0 st 1000=false:=by simpa using H
  rw[t]at v;refine bP F hB b d c v 19 [] [3,3,3,3,3] [] 2 (.bool false) (λM=>M) 0 29 [true] [] λh f i k=>?_
  have e:iy st n T=false:=by unfold iy;simp[t]
  rw[e]at K;exact K h f.sat.tail.tail (by omega)
abbrev oQ(L:oO)(i:Nat):List Value:=[i6 (L i 0),i6 (L i 1),i6 (L i 2),i6 (L i 3),i6 (L i 4),i6 (L i 5)]
theorem FM(F:aC prog main (DX Ok) Ψ)(hB:HB B Ok){bb:aE}(b:bb.kind=.normal)(h:bb.fn=17){cf:aE}{cs:cW}{M:aX}{sa:eN}{n cap:Nat}{g:Nat->Cl}(hn:n<=9)(k:0<n->∃a,sa=some a)(X:∀j,j<n->0<(g j).nt->∃a,(g j).ta=some a/\Has M (fR a 3 (λi=>[i6 ((g j).T i 0),i6 ((g j).T i 1),i6 ((g j).T i 2)]) (g j).nt false)):
 ∀(m i:Nat)(q:Act)(w:aj)(x:Nat),i+m=n->q.defers=[]->B<=x->w.heap.size=x->St Ok x 65 [(9,i6 i),(1,.slice sa n cap)] (fR (sa.getD ⟨0,0,none⟩) 2 (λj=>[i6 (g j).st,.slice (g j).ta (g j).nt (g j).tc]) n false::M) 0 q w->
   (∀w',Sat Ok w' M->w.heap.size<=w'.heap.size->Ψ (G (cf.finish (.tuple #[i6 (if fS g m i<n then 4 else 0),i6 (if fS g m i<n then fS g m i else 0)])) cs) w')->Ψ (G (bb.at q (pc prog 17 51 [false,false,false] [])) (cf::cs)) w
 |0,i,q,w,x,hi,f,Q,I,U,K=>by
  have g1:decide ((i:Int)<(n:Int))=false:=by simp;omega
  refine bA F hB b f U 15 [] [0] [] [(5,i6 0),(4,i6 0)] (λM=>M) 0 66 [false,false,false,false] [] [(decide ((↑i:Int)<(↑n:Int)),false)] [] [] λa1 W v d H N S=>?_
  refine cV F v b h d [] (.tuple #[i6 0,i6 0]) ?_;have e:fS g 0 i=i:=rfl;rw[e,af (show¬i<n by omega),af (show¬i<n by omega)]at K;exact K W v.sat.tail (by omega)
 |m+1,i,q,w,x,hi,f,Q,I,U,K=>by
  have g1:decide ((i:Int)<(n:Int))=true:=by simp;omega
  obtain⟨u,rfl⟩:=k (by omega);refine bA F hB b f U 18 [0,i,0,102] [2,2] [] [(60,.agg #[i6 (g i).st,.slice (g i).ta (g i).nt (g i).tc]),(9,i6 i),(1,.slice (some u) n cap)] (λM=>M) 0 69 [false,false,false,true] [] [(decide ((↑i:Int)<(↑n:Int)),true)] [((↑i:Int),n)] [(2,(i,n))] λa1 W v d H N S=>?_
  refine bK F b d v 61 29 #[.agg #[i6 (g i).st,.slice (g i).ta (g i).nt (g i).tc]] λgJ p=>?_
  have P:=X i (by omega);refine Nx F hB (λz=>by obtain⟨a,A,V⟩:=P z;exact⟨a,A,V.cons⟩) v.sat (by omega) λw2 h2 je=>p _ _ _ h2 λa2 B3 t o Z=>?_
  have e:fS g (m+1) i=if(g i).ww=false then i else fS g m (i+1):=rfl
  have O:iy (g i).st (g i).nt (g i).T=(g i).ww:=rfl;rw[O]at t;rw[e]at K;cases y:(g i).ww with
  |false=>
   rw[y]at t;rw[ah y,ah (show i<n by omega),ah (show i<n by omega)]at K;refine aq F hB b o t 14 [] [3] [] [(5,i6 i),(4,i6 4)] (λM=>M) 0 84 [false,false,false,true,true] [] λY D s c E J R=>?_
   refine cV F s b h c [] (.tuple #[i6 4,i6 i]) ?_;exact K D s.sat.tail (by omega)
  |true=>
   rw[y]at t;rw[af (show¬(g i).ww=false by rw[y];decide)]at K;have hw:IntKind.wrap .i64 ((i:Int)+1)=((i+1:Nat):Int):=by rw[aA (by omega) (by omega)];rfl
   refine aq F hB b o t 16 [] [1] [] [(9,i6 (IntKind.wrap .i64 ((↑i:Int)+1))),(1,.slice (some u) n cap)] (λM=>M) 0 86 [false,false,false,true,false] [] λY D s c E J R=>?_
   rw[hw]at s;rw[show pc prog 17 86 [false,false,false,true,false] []=pc prog 17 51 [false,false,false] [] by kernel_rfl];exact FM F hB b h hn k X m (i+1) Y D B3 (by omega) c (by omega) (by omega) s λw' A V=>K w' A (by omega)
theorem zY(F:aC prog main (DX Ok) Ψ)(hB:HB B Ok){bb:aE}(b:bb.kind=.normal)(k:bb.fn=17){cf:aE}{cs:cW}{M:aX}{sL sa:eN}{n cr h cap:Nat}{L:oO}(hn:n<=6)(v:0<n->∃a,sL=some a)(h2:∀i,i<n->L i 0<=4):
 ∀(m i:Nat)(r:Int)(U:Act)(w:aj)(I:Nat),i+m=n->0<=r->r<=2->U.defers=[]->B<=I->w.heap.size=I->St Ok I 65 [(7,i6 i),(6,i6 r),(0,.slice sL n cr),(1,.slice sa h cap)] (fR (sL.getD ⟨0,0,none⟩) 6 (oQ L) n false::M) 0 U w->
   (∀w',cZ L m i r<n->Sat Ok w' M->w.heap.size<=w'.heap.size->Ψ (G (cf.finish (.tuple #[i6 2,i6 (cZ L m i r)])) cs) w')->
   (∀a' w' B',¬cZ L m i r<n->a'.defers=[]->B<=B'->w.heap.size<=B'->w'.heap.size=B'->St Ok B' 65 [(50,.bool (decide ((h:Int)>9))),(1,.slice sa h cap)] M 0 a' w'->Ψ (G (bb.at a' (pc prog 17 42 [false,false] [])) (cf::cs)) w')->Ψ (G (bb.at U (pc prog 17 25 [false] [])) (cf::cs)) w
 |0,i,r,U,w,I,hi,hr0,hr,A,R,Y,S0,K,K2=>by
  have g1:decide ((i:Int)<(n:Int))=false:=by simp;omega
  refine bA F hB b A S0 17 [] [0] [] [(50,.bool (decide ((↑h:Int)>9))),(1,.slice sa h cap)] (λM=>M) 0 42 [false,false] [] [(decide ((↑i:Int)<(↑n:Int)),false)] [] [] λa1 w1 H y X Z dS=>?_
  exact K2 a1 w1 I (by show¬i<n;omega) y R (by omega) (by omega) ⟨H.env,H.sat.tail,H.sz⟩
 |m+1,i,r,U,w,I,hi,hr0,hr,A,R,Y,S0,K,K2=>by
  have g1:decide ((i:Int)<(n:Int))=true:=by simp;omega
  obtain⟨u,rfl⟩:=v (by omega);refine bA F hB b A S0 18 [0,i,0,106] [2,2] [] [(23,.agg #[i6 (L i 0),i6 (L i 1),i6 (L i 2),i6 (L i 3),i6 (L i 4),i6 (L i 5)]),(7,i6 i),(6,i6 r),(0,.slice (some u) n cr),(1,.slice sa h cap)] (λM=>M) 0 43 [false,true] [] [(decide ((↑i:Int)<(↑n:Int)),true)] [((↑i:Int),n)] [(6,(i,n))] λa1 w1 H y X Z dS=>?_
  refine bK F b y H 24 28 #[.agg #[i6 (L i 0),i6 (L i 1),i6 (L i 2),i6 (L i 3),i6 (L i 4),i6 (L i 5)]] λgJ Q=>?_
  refine Nv F hB (L i 0) (L i 1) (L i 2) (L i 3) (L i 4) (L i 5) (h2 i (by omega)) H.sat (by omega) λw2 J6 je=>Q _ _ _ J6 λa2 B3 E j fV=>?_
  have e:cZ L (m+1) i r=if 2<(if L i 0=1 then r+1 else r)\/aK (L i 0) (L i 1) (L i 2) (L i 3) (L i 4) (L i 5)=false then i else cZ L m (i+1) (if L i 0=1 then r+1 else r):=rfl
  rw[e]at K K2;have hw:IntKind.wrap .i64 ((i:Int)+1)=((i+1:Nat):Int):=by rw[aA (by omega) (by omega)];rfl
  cases O:aK (L i 0) (L i 1) (L i 2) (L i 3) (L i 4) (L i 5)with
  |false=>
   rw[O]at E;rw[ah (.inr O)]at K;refine aq F hB b j E 27 [] [3,3,3,3,3,3,3,3,3] [] [(5,i6 i),(4,i6 2)] (λM=>M) 0 71 [false,true,true] [] λS q f d s t D=>?_
   refine cV F f b k d [] (.tuple #[i6 2,i6 i]) ?_;exact K q (by omega) f.sat.tail (by omega)
  |true=>
   rw[O]at E
   by_cases c:L i 0=1
   .have P:(L i 0==1)=true:=by simpa using c
    by_cases N:r=2
    .subst N
     rw[ah (.inl (by rw[ah c];decide))]at K;refine bA F hB b j E 27 [0,i,0,101] [1,1,1,2,1,1,1,1,2,3,1,3] [] [(5,i6 i),(4,i6 2)] (λM=>M) 0 71 [false,true,true] [] [(L i 0==1,true)] [((↑i:Int),n)] [(1,(i,n))] λS q f d s t D=>?_
     refine cV F f b k d [] (.tuple #[i6 2,i6 i]) ?_;exact K q (by omega) f.sat.tail (by omega)
    .have aai:(r==2)=false:=by simpa using N
     have Sb:IntKind.wrap .i64 (r+1)=r+1:=aA (by omega) (by omega)
     have x:¬(2<(if L i 0=1 then r+1 else r)\/aK (L i 0) (L i 1) (L i 2) (L i 3) (L i 4) (L i 5)=false):=by
      rw[ah c,O]
      rintro (z|z)
      .omega
      .cases z
     rw[af x,ah c]at K K2;refine bA F hB b j E 44 [0,i,0,101,0,i,0,101] [1,1,1,2,1,1,1,1,2,3,1,0,2,2] [] [(7,i6 (IntKind.wrap .i64 ((↑i:Int)+1))),(6,i6 (IntKind.wrap .i64 (r+1))),(37,.bool (r==2)),(36,.bool (r==2)),(34,.bool true),(35,i6 r),(33,.bool (L i 0==1)),(32,i6 (L i 0)),(31,.pointer (some (Addr.add (Addr.add u (Int.toNat (↑i:Int)*6)) 0))),(30,.pointer (some (Addr.add u (Int.toNat (↑i:Int)*6)))),(29,i6 i),(28,.slice (some u) n cr),(0,.slice (some u) n cr),(1,.slice sa h cap)] (λM=>M) 0 88 [false,true,false,true] [] [(L i 0==1,true),(r==2,false),(L i 0==1,true)] [((↑i:Int),n),((↑i:Int),n)] [(2,(i,n))] λS q f d s t D=>?_
     rw[hw,Sb]at f;replace f:=f.dD [(7,i6 ((i+1:Nat):Int)),(6,i6 (r+1)),(0,.slice (some u) n cr),(1,.slice sa h cap)] rfl;rw[show pc prog 17 88 [false,true,false,true] []=pc prog 17 25 [false] [] by kernel_rfl];exact zY F hB b k hn v h2 m (i+1) (r+1) S q B3 (by omega) (by omega) (by omega) d (by omega) (by omega) f (λw' p o J=>K w' p o (by omega)) (λa' w' B' p o J z3 W V=>K2 a' w' B' p o J (by omega) W V)
   .have P:(L i 0==1)=false:=by simpa using c
    have x:¬(2<(if L i 0=1 then r+1 else r)\/aK (L i 0) (L i 1) (L i 2) (L i 3) (L i 4) (L i 5)=false):=by
     rw[af c,O]
     rintro (z|z)
     .omega
     .cases z
    rw[af x,af c]at K K2;refine bA F hB b j E 40 [0,i,0,101,0,i,0,101] [1,1,1,2,1,1,1,1,0,1,1,1,2,0] [] [(7,i6 (IntKind.wrap .i64 ((↑i:Int)+1))),(37,.bool false),(36,.tuple #[]),(34,.bool false),(35,.tuple #[]),(33,.bool (L i 0==1)),(32,i6 (L i 0)),(31,.pointer (some (Addr.add (Addr.add u (Int.toNat (↑i:Int)*6)) 0))),(30,.pointer (some (Addr.add u (Int.toNat (↑i:Int)*6)))),(29,i6 i),(28,.slice (some u) n cr),(6,i6 r),(0,.slice (some u) n cr),(1,.slice sa h cap)] (λM=>M) 0 84 [false,true,false,false] [] [(L i 0==1,false),(L i 0==1,false)] [((↑i:Int),n),((↑i:Int),n)] [(2,(i,n))] λS q f d s t D=>?_
    rw[hw]at f;replace f:=f.dD [(7,i6 ((i+1:Nat):Int)),(6,i6 r),(0,.slice (some u) n cr),(1,.slice sa h cap)] rfl;rw[show pc prog 17 84 [false,true,false,false] []=pc prog 17 25 [false] [] by kernel_rfl];exact zY F hB b k hn v h2 m (i+1) r S q B3 (by omega) (by omega) (by omega) d (by omega) (by omega) f (λw' p o J=>K w' p o (by omega)) (λa' w' B' p o J z3 W V=>K2 a' w' B' p o J (by omega) W V)
theorem FL(F:aC prog main (DX Ok) Ψ)(hB:HB B Ok)(h2:∀i,i<n->L i 0<=4)(hl:0<n->∃a,sL=some a/\Has M (fR a 6 (oQ L) n false))(hc:0<m->∃a,sa=some a/\Has M (fR a 2 (λj=>[i6 (g j).st,.slice (g j).ta (g j).nt (g j).tc]) m false))(hg:∀j,j<m->0<(g j).nt->∃a,(g j).ta=some a/\Has M (fR a 3 (λi=>[i6 ((g j).T i 0),i6 ((g j).T i 1),i6 ((g j).T i 2)]) (g j).nt false))(q:Sat Ok w M)(gp:B<=w.heap.size)(K:∀w',Sat Ok w' M->w.heap.size<=w'.heap.size->Ψ (G (cf.finish (.tuple #[i6 (jG n L m g).1,i6 (jG n L m g).2])) cs) w'):Ψ (G (Frame.enter prog 17 #[.slice sL n cr,.slice sa m cap] .normal) (cf::cs)) w:=by
 by_cases y:6<n
 .have S:decide ((n:Int)>6)=true:=by simp;omega
  refine dg f17 func17 _ rfl 65 (by kernel_rfl) q λbb a0 B1 hn b d k W J=>?_
  refine bA F hB b k W 18 [] [2] [] [(5,i6 0),(4,i6 1)] (λM=>M) 0 18 [true] [] [(decide ((↑n:Int)>6),true)] [] [] λZ E s h I O V=>?_
  refine cV F s b d h [] (.tuple #[i6 1,i6 0]) ?_;have e:jG n L m g=(1,0):=by unfold jG;rw[ah y]
  rw[e]at K;exact K E s.sat (by omega)
 .have S:decide ((n:Int)>6)=false:=by simp;omega
  have x:Sat Ok w (fR (sL.getD ⟨0,0,none⟩) 6 (oQ L) n false::M):=by
   by_cases z:0<n
   .obtain⟨u,rfl,P⟩:=hl z;exact q.get P
   .exact q.ff (by show n=0;omega) rfl
  clear q;have q:=x;clear x;refine dg f17 func17 _ rfl 65 (by kernel_rfl) q λbb a0 B1 hn b d k W J=>?_
  refine bA F hB b k W 25 [] [0] [] [(7,i6 0),(6,i6 0),(0,.slice sL n cr),(1,.slice sa m cap)] (λM=>M) 0 25 [false] [] [(decide ((↑n:Int)>6),false)] [] [] λZ E s h I O V=>?_
  replace s:=s.dD [(7,i6 ((0:Nat):Int)),(6,i6 0),(0,.slice sL n cr),(1,.slice sa m cap)] rfl;refine zY F hB b d (by omega) (λz=>by obtain⟨u,p,_⟩:=hl z;exact⟨u,p⟩) h2 n 0 0 Z E B1 (bD _) (by omega) (by omega) h (by omega) (by omega) s (λX v D h4=>?_) (λa2 X B2 v t D h4 fV S2=>?_)
  .have e:jG n L m g=(2,((cZ L n 0 0:Nat):Int)):=by unfold jG;rw[af y,ah v]
   rw[e]at K;exact K X D (by omega)
  .by_cases R:9<m
   .have Q:decide ((m:Int)>9)=true:=by simp;omega
    refine bA F hB b t S2 6 [] [2] [] [(5,i6 0),(4,i6 3)] (λM=>M) 0 48 [false,false,true] [] [(decide ((↑m:Int)>9),true)] [] [] λY A o f H N U=>?_
    refine cV F o b d f [] (.tuple #[i6 3,i6 0]) ?_;have e:jG n L m g=(3,0):=by unfold jG;rw[af y,af v,ah R]
    rw[e]at K;exact K A o.sat (by omega)
   .have Q:decide ((m:Int)>9)=false:=by simp;omega
    refine bA F hB b t S2 9 [] [0] [] [(9,i6 0),(1,.slice sa m cap)] (λM=>M) 0 51 [false,false,false] [] [(decide ((↑m:Int)>9),false)] [] [] λY A o f H N U=>?_
    have D:Sat Ok A (fR (sa.getD ⟨0,0,none⟩) 2 (λj=>[i6 (g j).st,.slice (g j).ta (g j).nt (g j).tc]) m false::M):=by
     by_cases z:0<m
     .obtain⟨u,rfl,P⟩:=hc z;exact o.sat.get P
     .exact o.sat.ff (by show m=0;omega) rfl
    refine FM F hB b d (by omega) (λz=>by obtain⟨u,p,_⟩:=hc z;exact⟨u,p⟩) hg m 0 Y A B2 (bD _) f (by omega) (by omega) ⟨o.env,D,o.sz⟩ λw' p z2=>?_
    by_cases c:fS g m 0<m
    .have e:jG n L m g=(4,((fS g m 0:Nat):Int)):=by unfold jG;rw[af y,af v,af R,ah c]
     rw[e]at K;rw[ah c,ah c];exact K w' p (by omega)
    .have e:jG n L m g=(0,0):=by unfold jG;rw[af y,af v,af R,af c]
     rw[e]at K;rw[af c,af c];exact K w' p (by omega)
theorem jx(F:aC prog main (DX Ok) Ψ)(hB:HB B Ok)(n lo f:Int)(t:Sat Ok w M)(v:B<=w.heap.size)(K:∀w',Sat Ok w' M->w.heap.size<=w'.heap.size->Ψ (G (cf.finish (.bool (eK lo n f))) cs) w'):Ψ (G (Frame.enter prog 57 #[i6 lo,i6 n,i6 f] .normal) (cf::cs)) w:=by
 by_cases h:lo<=n
 .have p:decide (lo<=n)=true:=by simpa using h
  refine dg f57 func57 _ rfl 15 (by kernel_rfl) t λbb x B1 u c d b s k=>?_
  refine qC F hB c d b s 16 [] [2,3,3] [] 6 (.bool (decide (n<=f))) (λM=>M) 0 16 [] [] [(decide (lo<=n),true)] [] [] λi q j o=>?_
  have e:eK lo n f=decide (n<=f):=by unfold eK;simp[h]
  rw[e]at K;exact K i q.sat (by omega)
 .have p:decide (lo<=n)=false:=by simpa using h
  refine dg f57 func57 _ rfl 15 (by kernel_rfl) t λbb x B1 u c d b s k=>?_
  refine qC F hB c d b s 16 [] [0,1,1] [] 6 (.bool false) (λM=>M) 0 16 [] [] [(decide (lo<=n),false)] [] [] λi q j o=>?_
  have e:eK lo n f=false:=by unfold eK;simp[h]
  rw[e]at K;exact K i q.sat (by omega)
theorem G9(F:aC prog main (DX Ok) Ψ)(hB:HB B Ok)(k a b c d e:Int)(hk:k≠5/\k≠6)(hS:Sat Ok w M)(gp:B<=w.heap.size)(K:∀w',Sat Ok w' M->w.heap.size<=w'.heap.size->Ψ (G (cf.finish (.bool (aK k a b c d e))) cs) w'):Ψ (G (Frame.enter prog 40 #[.agg #[i6 k,i6 a,i6 b,i6 c,i6 d,i6 e]] .normal) (cf::cs)) w:=by
 by_cases k1:k=1
 .subst k1
  refine dg f40 func40 _ rfl 79 (by kernel_rfl) hS λbb a0 B1 hn f h j Y V=>?_
  refine aq F hB f j Y 22 [0,0,0,2] [3] [] [(8,i6 a),(1,ptr B1)] (λM=>bR (B1) [i6 1,i6 a,i6 b,i6 c,i6 d,i6 e]::(M)) 1 22 [true] [] λa1 w1 x J U W dS=>?_
  refine bK F f J x 9 57 #[i6 1,i6 a,i6 9] λgJ s=>?_
  refine jx F hB a 1 9 x.sat (by omega) λw2 h2 je=>s _ _ _ h2 λa2 B2 Q p fV=>?_
  cases i:eK 1 a 9<;>rw[i]at Q
  .refine bP F hB f h p Q 17 [] [1,1,1,1,1,1,1,1,1] [] 2 (.bool false) (λM=>M) 0 40 [true] [] λZ u z D=>?_
   rw[show aK 1 a b c d e=false by simp[aK,i]]at K;exact K Z u.sat.tail (by omega)
  refine aq F hB f p Q 3 [0,0,2,1] [3,3] [] [(12,i6 b),(10,.bool true),(1,ptr B1)] (λM=>M) 0 26 [true] [] λa3 Z u I z D dX=>?_
  refine bK F f I u 13 57 #[i6 0,i6 b,i6 1000] λlq q=>?_
  refine jx F hB b 0 1000 u.sat (by omega) λw4 h4 oB=>q _ _ _ h4 λa4 B4 P o jP=>?_
  cases t:eK 0 b 1000<;>rw[t]at P
  .refine bP F hB f h o P 13 [] [1,1,1,1,1,1] [] 2 (.bool false) (λM=>M) 0 40 [true] [] λS v y A=>?_
   rw[show aK 1 a b c d e=false by simp[aK,i,t]]at K;exact K S v.sat.tail (by omega)
  refine aq F hB f o P 4 [0,0,3,1] [3,3] [] [(17,i6 c),(15,.bool true),(1,ptr B1)] (λM=>M) 0 31 [true] [] λa5 S v nC y A jv=>?_
  refine bK F f nC v 18 57 #[i6 1,i6 c,i6 9] λEB O=>?_
  refine jx F hB c 1 9 v.sat (by omega) λw6 h6 yw=>O _ _ _ h6 λa6 B6 S6 H oS=>?_
  cases R:eK 1 c 9<;>rw[R]at S6
  .refine bP F hB f h H S6 8 [] [1,1,1] [] 2 (.bool false) (λM=>M) 0 40 [true] [] λw7 X oA oT=>?_
   rw[show aK 1 a b c d e=false by simp[aK,i,t,R]]at K;exact K w7 X.sat.tail (by omega)
  refine aq F hB f H S6 4 [0,0,4,1] [3,3] [] [(22,i6 d),(20,.bool true)] (λM=>M) 0 36 [true] [] λa7 w7 X lW oA oT tu=>?_
  refine bK F f lW X 23 57 #[i6 0,i6 d,i6 10000] λQC N=>?_
  refine jx F hB d 0 10000 X.sat (by omega) λw8 h8 Em=>N _ _ _ h8 λa8 B8 S8 E yt=>?_
  cases q4:eK 0 d 10000<;>rw[q4]at S8
  .refine bP F hB f h E S8 3 [] [] [] 2 (.bool false) (λM=>M) 0 40 [true] [] λw9 S9 An DD=>?_
   rw[show aK 1 a b c d e=false by simp[aK,i,t,R,q4]]at K;exact K w9 S9.sat.tail (by omega)
  refine bP F hB f h E S8 3 [] [] [] 2 (.bool true) (λM=>M) 0 40 [true] [] λw9 S9 An DD=>?_
  rw[show aK 1 a b c d e=true by simp[aK,i,t,R,q4]]at K;exact K w9 S9.sat.tail (by omega)
 have RY:(k==1)=false:=by simpa using k1
 by_cases k2:k=2
 .subst k2
  refine dg f40 func40 _ rfl 79 (by kernel_rfl) hS λbb a0 B1 hn f h j Y V=>?_
  refine bP F hB f h j Y 28 [0,0,0,1] [1,3] [] 2 (.bool true) (λM=>bR (B1) [i6 2,i6 a,i6 b,i6 c,i6 d,i6 e]::(M)) 1 28 [false,true] [] λw1 x U W=>?_
  exact K w1 x.sat.tail (by omega)
 have k2':(k==2)=false:=by simpa using k2
 by_cases k3:k=3
 .subst k3
  refine dg f40 func40 _ rfl 79 (by kernel_rfl) hS λbb a0 B1 hn f h j Y V=>?_
  refine aq F hB f j Y 34 [0,0,0,2] [1,1,3] [] [(30,i6 a),(1,ptr B1)] (λM=>bR (B1) [i6 3,i6 a,i6 b,i6 c,i6 d,i6 e]::(M)) 1 34 [false,false,true] [] λa1 w1 x J U W dS=>?_
  refine bK F f J x 31 57 #[i6 1,i6 a,i6 1000] λgJ s=>?_
  refine jx F hB a 1 1000 x.sat (by omega) λw2 h2 je=>s _ _ _ h2 λa2 B2 Q p fV=>?_
  cases i:eK 1 a 1000<;>rw[i]at Q
  .refine bP F hB f h p Q 7 [] [1,1,1] [] 2 (.bool false) (λM=>M) 0 42 [false,false,true] [] λZ u z D=>?_
   rw[show aK 3 a b c d e=false by simp[aK,i]]at K;exact K Z u.sat.tail (by omega)
  refine aq F hB f p Q 3 [0,0,2,1] [3,3] [] [(34,i6 b),(32,.bool true)] (λM=>M) 0 38 [false,false,true] [] λa3 Z u I z D dX=>?_
  refine bK F f I u 35 57 #[i6 1,i6 b,i6 20] λlq q=>?_
  refine jx F hB b 1 20 u.sat (by omega) λw4 h4 oB=>q _ _ _ h4 λa4 B4 P o jP=>?_
  cases t:eK 1 b 20<;>rw[t]at P
  .refine bP F hB f h o P 3 [] [] [] 2 (.bool false) (λM=>M) 0 42 [false,false,true] [] λS v y A=>?_
   rw[show aK 3 a b c d e=false by simp[aK,i,t]]at K;exact K S v.sat.tail (by omega)
  refine bP F hB f h o P 3 [] [] [] 2 (.bool true) (λM=>M) 0 42 [false,false,true] [] λS v y A=>?_
  rw[show aK 3 a b c d e=true by simp[aK,i,t]]at K;exact K S v.sat.tail (by omega)
 have k3':(k==3)=false:=by simpa using k3
 by_cases k4:k=4
 .subst k4
  refine dg f40 func40 _ rfl 79 (by kernel_rfl) hS λbb a0 B1 hn f h j Y V=>?_
  refine aq F hB f j Y 40 [0,0,0,2] [1,1,1,3] [] [(40,i6 a),(1,ptr B1)] (λM=>bR (B1) [i6 4,i6 a,i6 b,i6 c,i6 d,i6 e]::(M)) 1 40 [false,false,false,true] [] λa1 w1 x J U W dS=>?_
  refine bK F f J x 41 57 #[i6 1,i6 a,i6 20] λgJ s=>?_
  refine jx F hB a 1 20 x.sat (by omega) λw2 h2 je=>s _ _ _ h2 λa2 B2 Q p fV=>?_
  cases i:eK 1 a 20<;>rw[i]at Q
  .refine bP F hB f h p Q 24 [] [1,1,1,1,1,1,1,1,1,1,1,1,1,1] [] 2 (.bool false) (λM=>M) 0 65 [false,false,false,true] [] λZ u z D=>?_
   rw[show aK 4 a b c d e=false by simp[aK,i]]at K;exact K Z u.sat.tail (by omega)
  refine aq F hB f p Q 5 [0,0,2,1,0,0,1,1] [3,3,3,3] [] [(46,i6 a),(42,.bool true),(44,i6 b),(1,ptr B1)] (λM=>M) 0 46 [false,false,false,true] [] λa3 Z u I z D dX=>?_
  refine bK F f I u 47 57 #[i6 1,i6 b,i6 a] λlq q=>?_
  refine jx F hB b 1 a u.sat (by omega) λw4 h4 oB=>q _ _ _ h4 λa4 B4 P o jP=>?_
  cases t:eK 1 b a<;>rw[t]at P
  .refine bP F hB f h o P 18 [] [1,1,1,1,1,1,1,1,1] [] 2 (.bool false) (λM=>M) 0 65 [false,false,false,true] [] λS v y A=>?_
   rw[show aK 4 a b c d e=false by simp[aK,i,t]]at K;exact K S v.sat.tail (by omega)
  refine aq F hB f o P 4 [0,0,3,1] [3,3] [] [(51,i6 c),(49,.bool true),(1,ptr B1)] (λM=>M) 0 51 [false,false,false,true] [] λa5 S v nC y A jv=>?_
  refine bK F f nC v 52 57 #[i6 1,i6 c,i6 100] λEB O=>?_
  refine jx F hB c 1 100 v.sat (by omega) λw6 h6 yw=>O _ _ _ h6 λa6 B6 S6 H oS=>?_
  cases R:eK 1 c 100<;>rw[R]at S6
  .refine bP F hB f h H S6 13 [] [1,1,1,1,1,1] [] 2 (.bool false) (λM=>M) 0 65 [false,false,false,true] [] λw7 X oA oT=>?_
   rw[show aK 4 a b c d e=false by simp[aK,i,t,R]]at K;exact K w7 X.sat.tail (by omega)
  refine aq F hB f H S6 4 [0,0,4,1] [3,3] [] [(56,i6 d),(54,.bool true),(1,ptr B1)] (λM=>M) 0 56 [false,false,false,true] [] λa7 w7 X lW oA oT tu=>?_
  refine bK F f lW X 57 57 #[i6 0,i6 d,i6 1000] λQC N=>?_
  refine jx F hB d 0 1000 X.sat (by omega) λw8 h8 Em=>N _ _ _ h8 λa8 B8 S8 E yt=>?_
  cases q4:eK 0 d 1000<;>rw[q4]at S8
  .refine bP F hB f h E S8 8 [] [1,1,1] [] 2 (.bool false) (λM=>M) 0 65 [false,false,false,true] [] λw9 S9 An DD=>?_
   rw[show aK 4 a b c d e=false by simp[aK,i,t,R,q4]]at K;exact K w9 S9.sat.tail (by omega)
  refine aq F hB f E S8 4 [0,0,5,1] [3,3] [] [(61,i6 e),(59,.bool true)] (λM=>M) 0 61 [false,false,false,true] [] λa9 w9 S9 OD An DD TP=>?_
  refine bK F f OD S9 62 57 #[i6 1,i6 e,i6 9] λcf9 G2=>?_
  refine jx F hB e 1 9 S9.sat (by omega) λQV Cg v8=>G2 _ _ _ Cg λCN Ib zu G0 tY=>?_
  cases q5:eK 1 e 9<;>rw[q5]at zu
  .refine bP F hB f h G0 zu 3 [] [] [] 2 (.bool false) (λM=>M) 0 65 [false,false,false,true] [] λvp KT yu v7=>?_
   rw[show aK 4 a b c d e=false by simp[aK,i,t,R,q4,q5]]at K;exact K vp KT.sat.tail (by omega)
  refine bP F hB f h G0 zu 3 [] [] [] 2 (.bool true) (λM=>M) 0 65 [false,false,false,true] [] λvp KT yu v7=>?_
  rw[show aK 4 a b c d e=true by simp[aK,i,t,R,q4,q5]]at K;exact K vp KT.sat.tail (by omega)
 have k4':(k==4)=false:=by simpa using k4
 have k5':(k==5)=false:=by simpa using hk.1
 have k6':(k==6)=false:=by simpa using hk.2
 refine dg f40 func40 _ rfl 79 (by kernel_rfl) hS λbb a0 B1 hn f h j Y V=>?_
 refine qC F hB f h j Y 54 [0,0,0,1] [0,0,0,0,0,0] [] 2 (.bool false) (λM=>bR (B1) [i6 k,i6 a,i6 b,i6 c,i6 d,i6 e]::(M)) 1 54 [false,false,false,false,false,false] [] [(k==6,false),(k==5,false),(k==4,false),(k==3,false),(k==2,false),(k==1,false)] [] [] λw1 x U W=>?_
 have e:aK k a b c d e=false:=by simp only[aK,af k1,af k2,af k3,af k4,af hk.1,af hk.2]
 rw[e]at K;exact K w1 x.sat.tail (by omega)
theorem Hf(F:aC prog main (DX Ok) Ψ)(hB:HB B Ok){bb:aE}(b:bb.kind=.normal)(c:bb.fn=41){cf:aE}{cs:cW}{M:aX}{ta:eN}{n tc:Nat}{T:oO}(hn:n<=12)(k:0<n->∃a,ta=some a){B1:Nat}(N:B<=B1):
 ∀(m i:Nat)(t:Act)(w:aj)(d:Nat),i+m=n->t.defers=[]->B1<=d->w.heap.size=d->St Ok d 33 [(18,i6 i),(17,i6 n),(16,.slice ta n tc)] (fR (ta.getD ⟨0,0,none⟩) 3 (λj=>[i6 (T j 0),i6 (T j 1),i6 (T j 2)]) n false::M) 0 t w->
   (∀w',Sat Ok w' M->w.heap.size<=w'.heap.size->Ψ (G (cf.finish (.bool (lX T m i))) cs) w')->Ψ (G (bb.at t (pc prog 41 31 [false] [])) (cf::cs)) w
 |0,i,t,w,d,hi,h,R,E,V,K=>by
  have g1:decide ((i:Int)<(n:Int))=false:=by simp;omega
  refine qC F hB b c h V 11 [] [0] [] 2 (.bool true) (λM=>M) 0 42 [false,false] [] [(decide ((↑i:Int)<(↑n:Int)),false)] [] [] λX x D J=>?_
  exact K X x.sat.tail (by omega)
 |m+1,i,t,w,d,hi,h,R,E,V,K=>by
  have g1:decide ((i:Int)<(n:Int))=true:=by simp;omega
  obtain⟨u,rfl⟩:=k (by omega);have e:lX T (m+1) i=(eK 1 (T i 0) 4&&eK 0 (T i 2) 1000&&lX T m (i+1)):=rfl;rw[e]at K;refine bA F hB b h V 20 [0,i,0,103,0,0,0,3,0,0,0,1] [2,2] [] [(23,i6 (T i 0)),(4,ptr d),(18,i6 i),(17,i6 n),(16,.slice (some u) n tc)] (λM=>bR (d) [i6 (T i 0),i6 (T i 1),i6 (T i 2)]::(M)) 1 51 [false,true] [] [(decide ((↑i:Int)<(↑n:Int)),true)] [((↑i:Int),n)] [(3,(i,n))] λa1 X x Q D J dS=>?_
  refine bK F b Q x 24 57 #[i6 1,i6 (T i 0),i6 4] λgJ s=>?_
  refine jx F hB (T i 0) 1 4 x.sat (by omega) λw2 h2 je=>s _ _ _ h2 λa2 B3 U p fV=>?_
  cases hp:eK 1 (T i 0) 4<;>rw[hp]at U K
  .refine bP F hB b c p U 13 [] [3,3,3,3,3] [] 2 (.bool false) (λM=>M) 0 65 [false,true,true] [] λW v A I=>?_
   exact K W v.sat.tail.tail (by omega)
  refine aq F hB b p U 4 [0,0,2,1] [1,1] [] [(28,i6 (T i 2)),(26,.bool false),(27,.pointer (some (Addr.mk d 2 none))),(18,i6 i),(17,i6 n),(16,.slice (some u) n tc)] (λM=>M) 0 56 [false,true] [] λa3 W v P A I dX=>?_
  refine bK F b P v 29 57 #[i6 0,i6 (T i 2),i6 1000] λlq q=>?_
  refine jx F hB (T i 2) 0 1000 v.sat (by omega) λw4 h4 oB=>q _ _ _ h4 λa4 B4 S o Z=>?_
  cases hq:eK 0 (T i 2) 1000<;>rw[hq]at S K
  .refine bP F hB b c o S 8 [] [1,3] [] 2 (.bool false) (λM=>M) 0 65 [false,true,true] [] λy f z H=>?_
   exact K y f.sat.tail.tail (by omega)
  have hw:IntKind.wrap .i64 ((i:Int)+1)=((i+1:Nat):Int):=by rw[aA (by omega) (by omega)];rfl
  refine aq F hB b o S 11 [] [1,1] [] [(18,i6 (IntKind.wrap .i64 ((↑i:Int)+1))),(30,.bool false),(29,.bool true),(28,i6 (T i 2)),(27,.pointer (some (Addr.mk d 2 none))),(17,i6 n),(16,.slice (some u) n tc)] (λM=>M) 0 68 [false,true,false] [] λa5 y f O z H jv=>?_
  rw[hw]at f;replace f:=f.dD [(18,i6 ((i+1:Nat):Int)),(17,i6 n),(16,.slice (some u) n tc)] rfl;rw[show pc prog 41 68 [false,true,false] []=pc prog 41 31 [false] [] by kernel_rfl];exact Hf F hB b c hn k N m (i+1) a5 y B4 (by omega) O (by omega) (by omega) ⟨f.env,f.sat.tail,f.sz⟩ λw' Y z2=>K w' Y (by omega)
theorem OY(F:aC prog main (DX Ok) Ψ)(hB:HB B Ok)(k:0<n->∃a,ta=some a/\Has M (fR a 3 (λj=>[i6 (T j 0),i6 (T j 1),i6 (T j 2)]) n false))(p:Sat Ok w M)(P:B<=w.heap.size)(K:∀w',Sat Ok w' M->w.heap.size<=w'.heap.size->Ψ (G (cf.finish (.bool (iy st n T))) cs) w'):Ψ (G (Frame.enter prog 41 #[.agg #[i6 st,.slice ta n tc]] .normal) (cf::cs)) w:=by
 replace p:Sat Ok w (fR (ta.getD ⟨0,0,none⟩) 3 (λj=>[i6 (T j 0),i6 (T j 1),i6 (T j 2)]) n false::M):=by
  by_cases z:0<n
  .obtain⟨u,rfl,O⟩:=k z;exact p.get O
  .exact p.ff (by show n=0;omega) rfl
 refine dg f41 func41 _ rfl 33 (by kernel_rfl) p λbb a0 B1 hn b e x Y I=>?_
 refine aq F hB b x Y 10 [0,0,0,1] [] [] [(6,i6 st),(1,ptr B1)] (λM=>bR (B1) [i6 st,.slice ta n tc]::(M)) 1 10 [] [] λa1 w1 A v H N V=>?_
 refine bK F b v A 7 57 #[i6 0,i6 st,i6 1000] λW o=>?_
 refine jx F hB st 0 1000 A.sat (by omega) λw2 Q J=>o _ _ _ Q λa2 D q d E=>?_
 unfold iy at K;cases S:eK 0 st 1000<;>rw[S]at q K
 .refine bP F hB b e d q 13 [] [3,3,3,3,3] [] 2 (.bool false) (λM=>M) 0 24 [true] [] λf c h i=>?_
  exact K f c.sat.tail.tail (by omega)
 by_cases R:n<=12
 .have y:decide ((n:Int)>12)=false:=by simp;omega
  rw[show decide (12<n)=false by simp;omega]at K;refine bA F hB b d q 20 [0,0,1,1,0,0,1,1] [1,1,1,1,0] [] [(18,i6 0),(17,i6 n),(16,.slice ta n tc)] (λM=>M) 0 31 [false] [] [(decide ((↑n:Int)>12),false)] [] [] λX f c t h i U=>?_
  replace c:=c.dD [(18,i6 ((0:Nat):Int)),(17,i6 n),(16,.slice ta n tc)] rfl;exact Hf F hB b e R (λz=>by obtain⟨u,s,_⟩:=k z;exact⟨u,s⟩) (B1:=D) (by omega) n 0 X f D (bD _) t (az _) (by omega) ⟨c.env,c.sat.tail,c.sz⟩ λw' s Z=>K w' s (by omega)
 .have y:decide ((n:Int)>12)=true:=by simp;omega
  rw[show decide (12<n)=true by simp;omega]at K;refine qC F hB b e d q 13 [0,0,1,1] [1,1,1,1,2] [] 2 (.bool false) (λM=>M) 0 24 [true] [] [(decide ((↑n:Int)>12),true)] [] [] λf c h i=>?_
  exact K f c.sat.tail.tail (by omega)
theorem Mf(F:aC prog main (DX Ok) Ψ)(hB:HB B Ok){bb:aE}(b:bb.kind=.normal)(f:bb.fn=27){cf:aE}{cs:cW}{M:aX}{sa:eN}{n cap:Nat}{g:Nat->Cl}(Y:n<=9)(k:0<n->∃a,sa=some a)(S:∀j,j<n->0<(g j).nt->∃a,(g j).ta=some a/\Has M (fR a 3 (λi=>[i6 ((g j).T i 0),i6 ((g j).T i 1),i6 ((g j).T i 2)]) (g j).nt false)):
 ∀(m i:Nat)(q:Act)(w:aj)(h:Nat),i+m=n->q.defers=[]->B<=h->w.heap.size=h->St Ok h 19 [(7,i6 i),(6,i6 n),(5,.slice sa n cap),(0,.slice sa n cap)] (fR (sa.getD ⟨0,0,none⟩) 2 (λj=>[i6 (g j).st,.slice (g j).ta (g j).nt (g j).tc]) n false::M) 0 q w->
   (∀w',Sat Ok w' M->w.heap.size<=w'.heap.size->Ψ (G (cf.finish (i6 (fS g m i))) cs) w')->Ψ (G (bb.at q (pc prog 27 13 [] [])) (cf::cs)) w
 |0,i,q,w,h,Z,d,N,A,P,K=>by
  have g1:decide ((i:Int)<(n:Int))=false:=by simp;omega
  have e:fS g 0 i=n:=by show i=n;omega
  rw[e]at K;refine qC F hB b f d P 13 [] [0] [] 2 (i6 n) (λM=>M) 0 26 [false] [] [(decide ((↑i:Int)<(↑n:Int)),false)] [] [] λR s y E=>?_
  exact K R s.sat.tail (by omega)
 |m+1,i,q,w,h,Z,d,N,A,P,K=>by
  have g1:decide ((i:Int)<(n:Int))=true:=by simp;omega
  obtain⟨u,rfl⟩:=k (by omega);refine bA F hB b d P 21 [0,i,0,102,0,0,0,2,0,0,0,2] [2,2] [] [(12,.agg #[i6 (g i).st,.slice (g i).ta (g i).nt (g i).tc]),(3,i6 i),(7,i6 i),(6,i6 n),(5,.slice (some u) n cap),(0,.slice (some u) n cap)] (λM=>bR (h) [i6 (g i).st,.slice (g i).ta (g i).nt (g i).tc]::(M)) 1 34 [true] [] [(decide ((↑i:Int)<(↑n:Int)),true)] [((↑i:Int),n)] [(2,(i,n))] λa1 R s J y E dS=>?_
  refine bK F b J s 13 41 #[.agg #[i6 (g i).st,.slice (g i).ta (g i).nt (g i).tc]] λgJ p=>?_
  have H:=S i (by omega);refine OY F hB (λz=>by obtain⟨a,t,Q⟩:=H z;exact⟨a,t,Q.cons.cons⟩) s.sat (by omega) λw2 h2 V=>p _ _ _ h2 λa2 B3 O o U=>?_
  have e:fS g (m+1) i=if iy (g i).st (g i).nt (g i).T=false then i else fS g m (i+1):=rfl
  rw[e]at K;cases X:iy (g i).st (g i).nt (g i).T<;>rw[X]at O K
  .refine bP F hB b f o O 8 [] [3] [] 2 (i6 i) (λM=>M) 0 43 [true,true] [] λv c x D=>?_
   exact K v c.sat.tail.tail (by omega)
  have W:IntKind.wrap .i64 ((i:Int)+1)=((i+1:Nat):Int):=by rw[aA (by omega) (by omega)];rfl
  refine aq F hB b o O 10 [] [1] [] [(7,i6 (IntKind.wrap .i64 ((↑i:Int)+1))),(6,i6 n),(5,.slice (some u) n cap),(0,.slice (some u) n cap)] (λM=>M) 0 45 [true,false] [] λa3 v c I x D dX=>?_
  rw[W]at c;replace c:=c.dD [(7,i6 ((i+1:Nat):Int)),(6,i6 n),(5,.slice (some u) n cap),(0,.slice (some u) n cap)] rfl;rw[show pc prog 27 45 [true,false] []=pc prog 27 13 [] [] by kernel_rfl];exact Mf F hB b f Y k S m (i+1) a3 v B3 (by omega) I (by omega) (by omega) ⟨c.env,c.sat.tail,c.sz⟩ λw' t Q=>K w' t (by omega)
theorem Hg(F:aC prog main (DX Ok) Ψ)(hB:HB B Ok){bb:aE}(b:bb.kind=.normal)(d:bb.fn=26){cf:aE}{cs:cW}{M:aX}{sL:eN}{n cap:Nat}{L:oO}(hn:n<=6)(y:0<n->∃a,sL=some a)(R:∀i,i<n->L i 0≠5/\L i 0≠6):
 ∀(m i:Nat)(r:Int)(P:Act)(w:aj)(p:Nat),i+m=n->0<=r->r<=2->P.defers=[]->B<=p->w.heap.size=p->St Ok p 29 [(8,i6 i),(7,i6 n),(6,.slice sL n cap),(3,i6 r),(0,.slice sL n cap)] (fR (sL.getD ⟨0,0,none⟩) 6 (oQ L) n false::M) 0 P w->
   (∀w',Sat Ok w' M->w.heap.size<=w'.heap.size->Ψ (G (cf.finish (i6 (cZ L m i r))) cs) w')->Ψ (G (bb.at P (pc prog 26 17 [] [])) (cf::cs)) w
 |0,i,r,P,w,p,hi,Z,hr,h,TH,V,Q,K=>by
  have g1:decide ((i:Int)<(n:Int))=false:=by simp;omega
  have e:cZ L 0 i r=n:=by show i=n;omega
  rw[e]at K;refine qC F hB b d h Q 13 [] [0] [] 2 (i6 n) (λM=>M) 0 30 [false] [] [(decide ((↑i:Int)<(↑n:Int)),false)] [] [] λI o t x=>?_
  exact K I o.sat.tail (by omega)
 |m+1,i,r,P,w,p,hi,Z,hr,h,TH,V,Q,K=>by
  have g1:decide ((i:Int)<(n:Int))=true:=by simp;omega
  obtain⟨u,rfl⟩:=y (by omega);have e:cZ L (m+1) i r=if 2<(if L i 0=1 then r+1 else r)\/aK (L i 0) (L i 1) (L i 2) (L i 3) (L i 4) (L i 5)=false then i else cZ L m (i+1) (if L i 0=1 then r+1 else r):=rfl
  rw[e]at K;have hw:IntKind.wrap .i64 ((i:Int)+1)=((i+1:Nat):Int):=by rw[aA (by omega) (by omega)];rfl
  have J:IntKind.wrap .i64 (r+1)=r+1:=aA (by omega) (by omega)
  by_cases k:L i 0=1
  .have O:(L i 0==1)=true:=by simpa using k
   rw[ah k]at K
   by_cases Y:r=2
   .subst Y
    rw[ah (.inl (by decide))]at K;refine qC F hB b d h Q 47 [0,i,0,106,0,0,0,6,0,0,0,1] [2,2,2,3,3,3,3] [] 2 (i6 i) (λM=>bR (p) [i6 (L i 0),i6 (L i 1),i6 (L i 2),i6 (L i 3),i6 (L i 4),i6 (L i 5)]::(M)) 1 64 [true,true,true] [] [(L i 0==1,true),(decide ((↑i:Int)<(↑n:Int)),true)] [((↑i:Int),n)] [(6,(i,n))] λI o t x=>?_
    exact K I o.sat.tail.tail (by omega)
   have N:decide (r+1>2)=false:=by simp;omega
   have X:decide (IntKind.wrap .i64 (r+1)>2)=false:=by rw[J];exact N
   refine bA F hB b h Q 37 [0,i,0,106,0,0,0,6,0,0,0,1,0,0,0,6] [2,2,2,0] [] [(21,.agg #[i6 (L i 0),i6 (L i 1),i6 (L i 2),i6 (L i 3),i6 (L i 4),i6 (L i 5)]),(20,.bool false),(3,i6 (IntKind.wrap .i64 (r+1))),(4,i6 i),(8,i6 i),(7,i6 n),(6,.slice (some u) n cap),(0,.slice (some u) n cap)] (λM=>bR (p) [i6 (L i 0),i6 (L i 1),i6 (L i 2),i6 (L i 3),i6 (L i 4),i6 (L i 5)]::(M)) 1 54 [true,true] [] [(decide (IntKind.wrap .i64 (r+1)>2),false),(L i 0==1,true),(decide ((↑i:Int)<(↑n:Int)),true)] [((↑i:Int),n)] [(6,(i,n))] λa1 I o D t x dS=>?_
   refine bK F b D o 22 40 #[.agg #[i6 (L i 0),i6 (L i 1),i6 (L i 2),i6 (L i 3),i6 (L i 4),i6 (L i 5)]] λgJ j=>?_
   refine G9 F hB (L i 0) (L i 1) (L i 2) (L i 3) (L i 4) (L i 5) (R i (by omega)) o.sat (by omega) λw2 E W=>j _ _ _ E λa2 B3 H f U=>?_
   cases hq:aK (L i 0) (L i 1) (L i 2) (L i 3) (L i 4) (L i 5)<;>rw[hq]at H K
   .rw[ah (.inr rfl)]at K
    refine bP F hB b d f H 9 [] [1,3] [] 2 (i6 i) (λM=>M) 0 64 [true,true,true] [] λq c s v=>?_
    exact K q c.sat.tail.tail (by omega)
   rw[af (by rintro (z|z);omega;cases z)]at K;refine aq F hB b f H 11 [] [1,1] [] [(8,i6 (IntKind.wrap .i64 ((↑i:Int)+1))),(23,.bool false),(22,.bool true),(21,.agg #[i6 (L i 0),i6 (L i 1),i6 (L i 2),i6 (L i 3),i6 (L i 4),i6 (L i 5)]),(3,i6 (IntKind.wrap .i64 (r+1))),(7,i6 n),(6,.slice (some u) n cap),(0,.slice (some u) n cap)] (λM=>M) 0 66 [true,true,false] [] λa3 q c A s v dX=>?_
   rw[hw,J]at c;replace c:=c.dD [(8,i6 ((i+1:Nat):Int)),(7,i6 n),(6,.slice (some u) n cap),(3,i6 (r+1)),(0,.slice (some u) n cap)] rfl;rw[show pc prog 26 66 [true,true,false] []=pc prog 26 17 [] [] by kernel_rfl];exact Hg F hB b d hn y R m (i+1) (r+1) a3 q B3 (by omega) (by omega) (by omega) A (by omega) (by omega) ⟨c.env,c.sat.tail,c.sz⟩ λw' S z2=>K w' S (by omega)
  .have O:(L i 0==1)=false:=by simpa using k
   rw[af k]at K;have X:decide (r>2)=false:=by simp;omega
   refine bA F hB b h Q 33 [0,i,0,106,0,0,0,6,0,0,0,1,0,0,0,6] [2,2,0,0] [] [(21,.agg #[i6 (L i 0),i6 (L i 1),i6 (L i 2),i6 (L i 3),i6 (L i 4),i6 (L i 5)]),(20,.bool false),(4,i6 i),(8,i6 i),(7,i6 n),(6,.slice (some u) n cap),(3,i6 r),(0,.slice (some u) n cap)] (λM=>bR (p) [i6 (L i 0),i6 (L i 1),i6 (L i 2),i6 (L i 3),i6 (L i 4),i6 (L i 5)]::(M)) 1 50 [true,false] [] [(decide (r>2),false),(L i 0==1,false),(decide ((↑i:Int)<(↑n:Int)),true)] [((↑i:Int),n)] [(6,(i,n))] λa1 I o D t x dS=>?_
   refine bK F b D o 22 40 #[.agg #[i6 (L i 0),i6 (L i 1),i6 (L i 2),i6 (L i 3),i6 (L i 4),i6 (L i 5)]] λgJ j=>?_
   refine G9 F hB (L i 0) (L i 1) (L i 2) (L i 3) (L i 4) (L i 5) (R i (by omega)) o.sat (by omega) λw2 E W=>j _ _ _ E λa2 B3 H f U=>?_
   cases hq:aK (L i 0) (L i 1) (L i 2) (L i 3) (L i 4) (L i 5)<;>rw[hq]at H K
   .rw[ah (.inr rfl)]at K
    refine bP F hB b d f H 9 [] [1,3] [] 2 (i6 i) (λM=>M) 0 60 [true,false,true] [] λq c s v=>?_
    exact K q c.sat.tail.tail (by omega)
   rw[af (by rintro (z|z);omega;cases z)]at K;refine aq F hB b f H 11 [] [1,1] [] [(8,i6 (IntKind.wrap .i64 ((↑i:Int)+1))),(23,.bool false),(22,.bool true),(21,.agg #[i6 (L i 0),i6 (L i 1),i6 (L i 2),i6 (L i 3),i6 (L i 4),i6 (L i 5)]),(7,i6 n),(6,.slice (some u) n cap),(3,i6 r),(0,.slice (some u) n cap)] (λM=>M) 0 62 [true,false,false] [] λa3 q c A s v dX=>?_
   rw[hw]at c;replace c:=c.dD [(8,i6 ((i+1:Nat):Int)),(7,i6 n),(6,.slice (some u) n cap),(3,i6 r),(0,.slice (some u) n cap)] rfl;rw[show pc prog 26 62 [true,false,false] []=pc prog 26 17 [] [] by kernel_rfl];exact Hg F hB b d hn y R m (i+1) r a3 q B3 (by omega) (by omega) (by omega) A (by omega) (by omega) ⟨c.env,c.sat.tail,c.sz⟩ λw' S z2=>K w' S (by omega)
theorem TK(F:aC prog main (DX Ok) Ψ)(hB:HB B Ok)(x:n<=6)(v:∀i,i<n->L i 0≠5/\L i 0≠6)(hl:0<n->∃a,sL=some a/\Has M (fR a 6 (oQ L) n false))(c:Sat Ok w M)(t:B<=w.heap.size)(K:∀w',Sat Ok w' M->w.heap.size<=w'.heap.size->Ψ (G (cf.finish (i6 (cZ L n 0 0))) cs) w'):Ψ (G (Frame.enter prog 26 #[.slice sL n cap] .normal) (cf::cs)) w:=by
 replace c:Sat Ok w (fR (sL.getD ⟨0,0,none⟩) 6 (oQ L) n false::M):=by
  by_cases z:0<n
  .obtain⟨u,rfl,s⟩:=hl z;exact c.get s
  .exact c.ff (by show n=0;omega) rfl
 refine dg f26 func26 _ rfl 29 (by kernel_rfl) c λbb I B1 H b h f D p=>?_
 refine aq F hB b f D 17 [] [] [] [(8,i6 0),(7,i6 n),(6,.slice sL n cap),(3,i6 0),(0,.slice sL n cap)] (λM=>M) 0 17 [] [] λA k j e o q y=>?_
 replace j:=j.dD [(8,i6 ((0:Nat):Int)),(7,i6 n),(6,.slice sL n cap),(3,i6 0),(0,.slice sL n cap)] rfl;exact Hg F hB b h x (λz=>by obtain⟨u,d,_⟩:=hl z;exact⟨u,d⟩) v n 0 0 A k B1 (bD _) (by omega) (by omega) e (by omega) (by omega) j λw' d E=>K w' d (by omega)
theorem TL(F:aC prog main (DX Ok) Ψ)(hB:HB B Ok)(y:n<=9)(hc:0<n->∃a,sa=some a/\Has M (fR a 2 (λj=>[i6 (g j).st,.slice (g j).ta (g j).nt (g j).tc]) n false))(v:∀j,j<n->0<(g j).nt->∃a,(g j).ta=some a/\Has M (fR a 3 (λi=>[i6 ((g j).T i 0),i6 ((g j).T i 1),i6 ((g j).T i 2)]) (g j).nt false))(c:Sat Ok w M)(x:B<=w.heap.size)(K:∀w',Sat Ok w' M->w.heap.size<=w'.heap.size->Ψ (G (cf.finish (i6 (fS g n 0))) cs) w'):Ψ (G (Frame.enter prog 27 #[.slice sa n cap] .normal) (cf::cs)) w:=by
 replace c:Sat Ok w (fR (sa.getD ⟨0,0,none⟩) 2 (λj=>[i6 (g j).st,.slice (g j).ta (g j).nt (g j).tc]) n false::M):=by
  by_cases z:0<n
  .obtain⟨u,rfl,t⟩:=hc z;exact c.get t
  .exact c.ff (by show n=0;omega) rfl
 refine dg f27 func27 _ rfl 19 (by kernel_rfl) c λbb J B1 I b h f E q=>?_
 refine aq F hB b f E 13 [] [] [] [(7,i6 0),(6,i6 n),(5,.slice sa n cap),(0,.slice sa n cap)] (λM=>M) 0 13 [] [] λD o k e p s A=>?_
 replace k:=k.dD [(7,i6 ((0:Nat):Int)),(6,i6 n),(5,.slice sa n cap),(0,.slice sa n cap)] rfl;exact Mf F hB b h y (λz=>by obtain⟨u,d,_⟩:=hc z;exact⟨u,d⟩) v n 0 D o B1 (bD _) e (by omega) (by omega) k λw' d H=>K w' d (by omega)
theorem sI(F:aC prog main (DX Ok) Ψ)(hB:HB B Ok)(h2:∀i,i<n->L i 0≠5/\L i 0≠6)(hl:0<n->∃a,sL=some a/\Has M (fR a 6 (oQ L) n false))(hc:0<m->∃a,sa=some a/\Has M (fR a 2 (λj=>[i6 (g j).st,.slice (g j).ta (g j).nt (g j).tc]) m false))(hg:∀j,j<m->0<(g j).nt->∃a,(g j).ta=some a/\Has M (fR a 3 (λi=>[i6 ((g j).T i 0),i6 ((g j).T i 1),i6 ((g j).T i 2)]) (g j).nt false))(Z:Sat Ok w M)(gp:B<=w.heap.size)(K:∀w',Sat Ok w' M->w.heap.size<=w'.heap.size->Ψ (G (cf.finish (.tuple #[i6 (jG n L m g).1,i6 (jG n L m g).2])) cs) w'):Ψ (G (Frame.enter prog 16 #[.slice sL n cr,.slice sa m cap] .normal) (cf::cs)) w:=by
 unfold jG at K
 by_cases h6:6<n
 .have S:decide ((n:Int)>6)=true:=by simp;omega
  rw[ah h6]at K;refine dg f16 func16 _ rfl 28 (by kernel_rfl) Z λbb a0 B1 hn b c p X N=>?_
  refine bA F hB b p X 18 [] [2] [] [(5,i6 0),(4,i6 1)] (λM=>M) 0 18 [true] [] [(decide ((↑n:Int)>6),true)] [] [] λa1 Y A o J P V=>?_
  refine cV F A b c o [] (.tuple #[i6 1,i6 0]) ?_;exact K Y A.sat (by omega)
 have S:decide ((n:Int)>6)=false:=by simp;omega
 rw[af h6]at K;refine dg f16 func16 _ rfl 28 (by kernel_rfl) Z λbb a0 B1 hn b c p X N=>?_
 refine bA F hB b p X 18 [] [0] [] [(11,.slice sL n cr),(0,.slice sL n cr),(1,.slice sa m cap)] (λM=>M) 0 18 [false] [] [(decide ((↑n:Int)>6),false)] [] [] λa1 Y A o J P V=>?_
 refine bK F b o A 12 26 #[.slice sL n cr] λgJ v=>?_
 refine TK F hB (by omega) h2 hl A.sat (by omega) λw2 h3 je=>v _ _ _ h3 λa2 B2 W k fV=>?_
 by_cases E:cZ L n 0 0<n
 .have Q:decide (((cZ L n 0 0:Nat):Int)<(n:Int))=true:=by simpa using E
  rw[ah E]at K;refine bA F hB b k W 16 [] [2] [] [(5,i6 (↑(cZ L n 0 0):Int)),(4,i6 2)] (λM=>M) 0 35 [false,true] [] [(decide ((↑(cZ L n 0 0):Int)<(↑n:Int)),true)] [] [] λa3 D f d q s y=>?_
  refine cV F f b c d [] (.tuple #[i6 2,i6 (↑(cZ L n 0 0):Int)]) ?_;exact K D f.sat (by omega)
 have Q:decide (((cZ L n 0 0:Nat):Int)<(n:Int))=false:=by simpa using E
 rw[af E]at K
 by_cases h9:9<m
 .have R:decide ((m:Int)>9)=true:=by simp;omega
  rw[ah h9]at K;refine bA F hB b k W 24 [] [0,2] [] [(5,i6 0),(4,i6 3)] (λM=>M) 0 43 [false,false,true] [] [(decide ((↑m:Int)>9),true),(decide ((↑(cZ L n 0 0):Int)<(↑n:Int)),false)] [] [] λa3 D f d q s y=>?_
  refine cV F f b c d [] (.tuple #[i6 3,i6 0]) ?_;exact K D f.sat (by omega)
 have R:decide ((m:Int)>9)=false:=by simp;omega
 rw[af h9]at K;refine bA F hB b k W 24 [] [0,0] [] [(21,.slice sa m cap),(1,.slice sa m cap)] (λM=>M) 0 43 [false,false,false] [] [(decide ((↑m:Int)>9),false),(decide ((↑(cZ L n 0 0):Int)<(↑n:Int)),false)] [] [] λa3 D f d q s y=>?_
 refine bK F b d f 22 27 #[.slice sa m cap] λlq u=>?_
 refine TL F hB (by omega) hc hg f.sat (by omega) λw4 h4 oB=>u _ _ _ h4 λa4 B4 S4 t jP=>?_
 by_cases e:fS g m 0<m
 .have x:decide (((fS g m 0:Nat):Int)<(m:Int))=true:=by simpa using e
  rw[ah e]at K;refine bA F hB b t S4 16 [] [2] [] [(5,i6 (↑(fS g m 0):Int)),(4,i6 4)] (λM=>M) 0 60 [false,false,false,true] [] [(decide ((↑(fS g m 0):Int)<(↑m:Int)),true)] [] [] λa5 H z h I O U=>?_
  refine cV F z b c h [] (.tuple #[i6 4,i6 (↑(fS g m 0):Int)]) ?_;exact K H z.sat (by omega)
 have x:decide (((fS g m 0:Nat):Int)<(m:Int))=false:=by simpa using e
 rw[af e]at K;refine bA F hB b t S4 16 [] [0] [] [(5,i6 0),(4,i6 0)] (λM=>M) 0 60 [false,false,false,false] [] [(decide ((↑(fS g m 0):Int)<(↑m:Int)),false)] [] [] λa5 H z h I O U=>?_
 refine cV F z b c h [] (.tuple #[i6 0,i6 0]) ?_;exact K H z.sat (by omega)
def iz(L:oO):Nat->Nat
 |0=>0
 |i+1=>if L i 0<=4 then iz L i+1 else iz L i
def qB(L:oO):Nat->Nat->Nat->Int
 |0=>λ_ _=>0
 |i+1=>if L i 0<=4 then upd (qB L i) (iz L i) (L i)else qB L i
theorem Hj(L:oO):∀i,iz L i<=i
 |0=>az _
 |i+1=>by have:=Hj L i;unfold iz;split<;>omega
theorem Hl(L:oO):∀i j,j<iz L i->qB L i j 0<=4
 |0,j,h=>by cases h
 |i+1,j,h=>by
  have b:=Hl L i j;unfold iz at h;unfold qB
  by_cases hk:L i 0<=4
  .rw[ah hk]at h ⊢
   by_cases e:j=iz L i
   .subst e;simp only[upd,if_true];exact hk
   .simp only[upd,af e];exact b (by omega)
  .rw[af hk]at h ⊢;exact b h
theorem Jp(L:oO)(i:Nat):∀u∈oQ L i,u.oneCell'=true:=by intro u b;simp at b;rcases b with rfl|rfl|rfl|rfl|rfl|rfl<;>rfl
theorem VZ:lG prog 22 51 6 48=true:=by kernel_rfl
theorem Ak(F:aC prog main (DX Ok) Ψ)(hB:HB B Ok){bb:aE}(b:bb.kind=.normal){cs:cW}{M:aX}{s0 sa:eN}{n c0 p ig:Nat}{L:oO}(hn:n<2932031007403)(v:0<n->∃a,s0=some a):
 ∀(m i:Nat)(C:aX)(sl:eN)(cap:Nat)(vs:fH)(R:Act)(w:aj)(h:Nat),i+m=n->Vc Ok sl (iz L i) cap->R.defers=[]->B<=h->w.heap.size=h->St Ok h 69 [(9,i6 i),(8,.slice sl (iz L i) cap),(0,.slice s0 n c0),(1,.slice sa p ig),(2,i6 4)] (vR sl 6 (oQ (qB L i)) (iz L i) cap 51::sR sl 6 vs (iz L i) cap::fR (s0.getD ⟨0,0,none⟩) 6 (oQ L) n false::(C++M)) 0 R w->
   (∀C sl cap vs a' w' B',Vc Ok sl (iz L n) cap->a'.defers=[]->B<=B'->w.heap.size<=B'->w'.heap.size=B'->St Ok B' 69 [(42,.slice sa p ig),(41,.slice sl (iz L n) cap),(8,.slice sl (iz L n) cap),(1,.slice sa p ig)] (vR sl 6 (oQ (qB L n)) (iz L n) cap 51::sR sl 6 vs (iz L n) cap::fR (s0.getD ⟨0,0,none⟩) 6 (oQ L) n false::(C++M)) 0 a' w'->Ψ (G (bb.at a' (pc prog 21 42 [false,false] [])) cs) w')->Ψ (G (bb.at R (pc prog 21 28 [false] [])) cs) w
 |0,i,C,sl,cap,vs,R,w,h,hi,N,o,P,iI,V,K=>by
  have g1:decide ((i:Int)<(n:Int))=false:=by simp;omega
  refine bA F hB b o V 14 [] [0] [] [(42,.slice sa p ig),(41,.slice sl (iz L i) cap),(8,.slice sl (iz L i) cap),(1,.slice sa p ig)] (λM=>M) 0 42 [false,false] [] [(decide ((↑i:Int)<(↑n:Int)),false)] [] [] λU S q c H I Q=>?_
  have e:i=n:=by omega
  subst e;exact K C sl cap vs U S h N c P (by omega) (by omega) q
 |m+1,i,C,sl,cap,vs,R,w,h,hi,N,o,P,iI,V,K=>by
  have g1:decide ((i:Int)<(n:Int))=true:=by simp;omega
  obtain⟨u,rfl⟩:=v (by omega);have hw:IntKind.wrap .i64 ((i:Int)+1)=((i+1:Nat):Int):=by rw[aA (by omega) (by omega)];rfl
  by_cases hk:L i 0<=4
  .have nA:decide (L i 0<=4)=true:=by simpa using hk
   have k:iz L (i+1)=iz L i+1:=ah hk;have x:qB L (i+1)=upd (qB L i) (iz L i) (L i):=ah hk;have hle:=Hj L i;refine bA F hB b o V 30 [2,i,0,101,2,i,0,106] [2,2,2,2] [] [(38,.slice (some ⟨h,0,none⟩) 1 1),(33,.slice sl (iz L i) cap),(9,i6 i),(0,.slice (some u) n c0),(1,.slice sa p ig),(2,i6 4)] (λM=>bR (h) [i6 (L i 0),i6 (L i 1),i6 (L i 2),i6 (L i 3),i6 (L i 4),i6 (L i 5)]::(M)) 1 58 [false,true,true] [] [(decide (L i 0<=4),true),(decide ((↑i:Int)<(↑n:Int)),true)] [((↑i:Int),n),((↑i:Int),n)] [(7,(i,n))] λU S q c H I Q=>?_
   refine Y2 F (λa wr z=>hB a wr (by omega)) b 33 38 39 22 51 6 48 1 2 0 VZ (by kernel_rfl) (by kernel_rfl) (by decide) rfl rfl rfl rfl (by decide) rfl N (λ_ _=>rfl) rfl (Jp L i) (az _) (by simp only[maxLen];omega) (by omega) q λg' cap' E vs' a2 D A O y=>?_
   rw[show jY (pc prog 21 58 [false,true,true] [])=pc prog 21 59 [false,true,true] [] by kernel_rfl]
   have h2:Sat Ok D (bR h (oQ L i)::vR (some ⟨g',0,none⟩) 6 (oQ (qB L (i+1))) (iz L (i+1)) cap' 51::sR (some ⟨g',0,none⟩) 6 vs' (iz L (i+1)) cap'::fR u 6 (oQ L) n false::(C++M)):=by
    rw[k,x];refine A.sat.re 1 rfl rfl (oQ (upd (qB L i) (iz L i) (L i))) λj hj f hf=>?_
    have tj:j<iz L i+1:=hj
    by_cases e:j=iz L i
    .subst e
     show(oQ (upd (qB L i) (iz L i) (L i)) (iz L i)).getD f undef=(E (iz L i)).getD f undef
     rw[A.new];simp[upd,oQ]
    .show(oQ (upd (qB L i) (iz L i) (L i)) j).getD f undef=(E j).getD f undef
     rw[A.old j (by omega)];simp[upd,oQ,e]
   have kI:=A.size;have J:=A.vc;rw[<-k]at J O;have S2:St Ok D.heap.size 69 _ _ 0 a2 D:=⟨O,Sat.back (A:=[vR (some ⟨g',0,none⟩) 6 (oQ (qB L (i+1))) (iz L (i+1)) cap' 51,sR (some ⟨g',0,none⟩) 6 vs' (iz L (i+1)) cap',fR u 6 (oQ L) n false]) h2,rfl⟩;have fV:D.heap.size=D.heap.size:=rfl;replace y:=y.trans c;generalize hB3:D.heap.size=B3 at S2 fV kI;refine aq F hB b y S2 9 [] [] [] [(9,i6 (IntKind.wrap .i64 ((↑i:Int)+1))),(8,.slice (some ⟨g',0,none⟩) (iz L (i+1)) cap'),(0,.slice (some u) n c0),(1,.slice sa p ig),(2,i6 4)] (λM=>M) 0 68 [false,true,true] [] λa3 w3 S3 jF gQ ji dX=>?_
   rw[hw]at S3;rw[show pc prog 21 68 [false,true,true] []=pc prog 21 28 [false] [] by kernel_rfl];exact Ak F hB b hn v m (i+1) (bR h (oQ L i)::C) (some ⟨g',0,none⟩) cap' vs' a3 w3 B3 (by omega) J jF (by omega) (by omega) S3 λC' t d s a' w' B' z1 Z Y z4 X W=>K C' t d s a' w' B' z1 Z Y (by omega) X W
  .have nA:decide (L i 0<=4)=false:=by simpa using hk
   have k:iz L (i+1)=iz L i:=af hk;have x:qB L (i+1)=qB L i:=af hk;refine bA F hB b o V 31 [2,i,0,101] [2,2,0] [] [(9,i6 (IntKind.wrap .i64 ((↑i:Int)+1))),(8,.slice sl (iz L i) cap),(0,.slice (some u) n c0),(1,.slice sa p ig),(2,i6 4)] (λM=>M) 0 59 [false,true,false] [] [(decide (L i 0<=4),false),(decide ((↑i:Int)<(↑n:Int)),true)] [((↑i:Int),n)] [(1,(i,n))] λU S q c H I Q=>?_
   rw[hw]at q;rw[show pc prog 21 59 [false,true,false] []=pc prog 21 28 [false] [] by kernel_rfl];rw[<-k]at N q;rw[<-x]at q;exact Ak F hB b hn v m (i+1) C sl cap vs U S h (by omega) N c (by omega) (by omega) q λC' t d s a' w' B' z1 Z Y z4 X W=>K C' t d s a' w' B' z1 Z Y (by omega) X W
abbrev TY:aJ:=oR 0 0 [.iface 217 (.agg #[.pointer (some ⟨1,121,none⟩)])] false
abbrev clR(sa:eN)(m:Nat)(g:Nat->Cl):aJ:=fR (sa.getD ⟨0,0,none⟩) 2 (λj=>[i6 (g j).st,.slice (g j).ta (g j).nt (g j).tc]) m false
abbrev Ld(g:Nat->Cl)(j:Nat):aJ:=fR ((g j).ta.getD ⟨0,0,none⟩) 3 (λi=>[i6 ((g j).T i 0),i6 ((g j).T i 1),i6 ((g j).T i 2)]) (g j).nt false
def cM(sa:eN)(m:Nat)(g:Nat->Cl):List aJ:=TY::clR sa m g::(List.range m).map (Ld g)
abbrev yq(s0:eN)(n:Nat)(L:oO):aJ:=fR (s0.getD ⟨0,0,none⟩) 6 (oQ L) n false
theorem qm:∀r∈cM sa m g,r.wr=false:=λr b=>by
 simp only[cM,ak,gL]at b;rcases b with rfl|rfl|⟨j,_,rfl⟩<;>rfl
theorem HR:Flat (cM sa m g):=by
 rw[bN];intro r b;simp only[cM,ak,gL]at b;rcases b with rfl|rfl|⟨j,_,rfl⟩<;>rfl
theorem kK(h:r∈C)(b:r.wr=false):Has C r:=mB.2 ⟨b,h⟩
theorem lN(h:∀r∈M,uq Ok w r/\r.wr=false):Sat Ok w M:=by
 refine sat_iff.2 ⟨λr c=>(h r c).1,?_⟩;refine Zh λr c r' b d=>?_
 rw[(h r c).2,(h r' b).2]at d;rcases d with z|z<;>cases z
theorem nZ(b:r.wr=false)(d:r.row=none)(c:∀j,r.has j->w.cell? (r.ad j)=some (r.get j))(ho:∀j,r.has j->Ok (r.ad j) false):uq Ok w r:=
 ⟨c,λj hj=>⟨ho j hj,λz=>(by rw[b]at z;cases z)⟩,λz=>(by rw[b]at z;cases z),λg e n z=>(by rw[d]at z;cases z)⟩
theorem vK(h:nJ w s0 n L)(ho:∀p:Addr,s0=some p->∀a:Addr,a.block=p.block->Ok a false):uq Ok w (yq s0 n L):=by
 refine nZ rfl rfl (λj hj=>?_) (λj hj=>?_)
 .obtain⟨i,f⟩:=j
  obtain⟨d,c⟩:=hj;obtain⟨b,o,rfl,hc⟩:=h i d
  simp only at d c
  have:=hc f c;simp only[cK,dJ];rw[show o+i*6+f=o+i*6+f from rfl,this];rcases f with _|_|_|_|_|_|f
  .rfl
  .rfl
  .rfl
  .rfl
  .rfl
  .rfl
  .omega
 .obtain⟨i,f⟩:=j
  obtain⟨b,o,rfl,hc⟩:=h i hj.1;exact ho _ rfl _ (by simp only[cK,dJ])
theorem zS(h:sY w sa m g)(y:w.cell? ⟨0,0,none⟩=some (.iface 217 (.agg #[.pointer (some ⟨1,121,none⟩)])))(ho:VF Ok sa m g)(u:Ok ⟨0,0,none⟩ false):Sat Ok w (cM sa m g):=by
 refine lN λr t=>?_
 refine⟨?_,qm r t⟩;simp only[cM,ak,gL]at t;rcases t with rfl|rfl|⟨j,hj,rfl⟩
 .refine nZ rfl rfl (λj hj=>?_) (λj hj=>?_)
  .obtain⟨i,f⟩:=j
   obtain⟨c,d⟩:=hj;simp only[eG,gM]at c d;have e1:f=0:=by omega
   subst e1;exact y
  .obtain⟨i,f⟩:=j
   obtain⟨c,d⟩:=hj;simp only[eG,gM]at c d;have e1:f=0:=by omega
   subst e1;exact u
 .refine nZ rfl rfl (λj hj=>?_) (λj hj=>?_)
  .obtain⟨i,f⟩:=j
   obtain⟨c,d⟩:=hj;obtain⟨b,o,rfl,s,q,_⟩:=h i c
   simp only at c d
   simp only[cK,dJ];rcases f with _|_|f
   .exact s
   .exact q
   .omega
  .obtain⟨i,f⟩:=j
   obtain⟨b,o,rfl,s,q,_⟩:=h i hj.1;exact ho.1 _ rfl _ (by simp only[cK,dJ])
 .have p:j<m:=bp.1 hj
  obtain⟨b0,z,_,_,_,x⟩:=h j p;refine nZ rfl rfl (λk hk=>?_) (λk hk=>?_)
  .obtain⟨i,f⟩:=k
   obtain⟨c,d⟩:=hk;obtain⟨b,o,e,hc⟩:=x i c
   simp only at c d
   have:=hc f d
   show w.cell? ((((g j).ta.getD ⟨0,0,none⟩).add (i*3)).add f)=some (List.getD [i6 ((g j).T i 0),i6 ((g j).T i 1),i6 ((g j).T i 2)] f undef)
   rw[e];simp only[cK,dJ];rw[this];rcases f with _|_|_|f
   .rfl
   .rfl
   .rfl
   .omega
  .obtain⟨i,f⟩:=k
   obtain⟨b,o,e,hc⟩:=x i hk.1;have v:=hk.1
   show Ok ((((g j).ta.getD ⟨0,0,none⟩).add (i*3)).add f) false
   rw[e];exact ho.2 j p (by simp only at v;omega) _ e _ (by simp only[cK,dJ])
theorem Sat.pRo{s:PS}(h:Sat Ok w (pM s++C)):Sat Ok w (tC s.ea s.l.ev s.l.el::nu (some ⟨s.k.O,0,none⟩) s.l.ou s.oh s.k.V.nc::C):=by
 have c:Sat Ok w ([vR s.ea 5 (λj=>yR (s.l.ev j)) s.l.el s.ec 55,fR ⟨s.k.O,0,none⟩ 4 (λj=>zm (s.l.ou j,s.oh j)) s.k.V.nc true]++C):=h.sub (EP (by
  show List.Sublist [_,_] [_,_,_,_,_,_,_]
  exact .cons _ (.cons _ (.cons _ (.cons_cons _ (.cons _ (.cons _ (.cons_cons _ .slnil))))))) C)
 have b:=c.Ic 0 rfl (tC s.ea s.l.ev s.l.el) (λj hj=>⟨hj,rfl,rfl⟩) (λz=>by cases z) rfl;exact b.Ic 1 rfl (nu (some ⟨s.k.O,0,none⟩) s.l.ou s.oh s.k.V.nc) (λj hj=>⟨hj,rfl,rfl⟩) (λz=>by cases z) rfl
theorem Sat.mRo{s:RS}(h:Sat Ok w (mR s++C)):Sat Ok w (tC s.ea s.l.ev s.l.el::nu (some s.oa) s.l.ou s.oh s.V.nc::C):=by
 have d:Sat Ok w ([fR s.oa 4 (λj=>zm (s.l.ou j,s.oh j)) s.V.nc true,vR s.ea 5 (λj=>yR (s.l.ev j)) s.l.el s.ec 55]++C):=h.sub (EP (by
  show List.Sublist [_,_] [_,_,_,_,_,_,_,_,_,_,_,_,_,_]
  exact .cons _ (.cons _ (.cons _ (.cons _ (.cons _ (.cons _ (.cons _ (.cons _ (.cons_cons _ (.cons_cons _ (.cons _ (.cons _ (.cons _ (.cons _ .slnil)))))))))))))) C)
 have c:=d.Ic 0 rfl (nu (some s.oa) s.l.ou s.oh s.V.nc) (λj hj=>⟨hj,rfl,rfl⟩) (λz=>by cases z) rfl;have b:=c.Ic 1 rfl (tC s.ea s.l.ev s.l.el) (λj hj=>⟨hj,rfl,rfl⟩) (λz=>by cases z) rfl;exact b.perm (.swap ..)
theorem Js(w:aj):Old w w:=⟨rfl,rfl,rfl,az _,λ_ _=>rfl⟩
theorem F4{a b c:aj}(h:Old a b)(k:Old b c):Old a c:=⟨k.1.trans h.1,k.2.1.trans h.2.1,k.2.2.1.trans h.2.2.1,aT h.2.2.2.1 k.2.2.2.1,λi d=>(k.2.2.2.2 i (c7 d h.2.2.2.1)).trans (h.2.2.2.2 i d)⟩
theorem zT{V:Ev0}{L Lf:LS}(R:vf V)(U:zg V L)(Q:Fin V Lf m none L)(q:0<ng)(hl:∀x∈l,x<w.heap.size){dH:ru}{dU:cm}(E:UJ V sa dH dU M)(v:0<V.nl->∃la,sL=some la/\Has M (fR la 6 (λi=>ym (V.ly i)) V.nl false))(S:Sat (cJ wI.heap.size l []) w M)(t:QO (cJ w.heap.size l []) (nQ prog Post (Old w) (jl l) ng) w.heap.size M 16 #[.slice sL V.nl cr,.slice sa V.nc cap] (.tuple #[i6 0,i6 0]))(K:∀(b A:Nat)(o:Nat)(ea:eN)(ec:Nat)(oh:CS)(C:aX)(w':aj),0<b->w.heap.size<=A->A<w'.heap.size->(0<V.nc->w.heap.size<=o)->Old w w'->Old wI w'->(0<Lf.el->∃a,ea=some a)->Sat (cJ wI.heap.size (A::l) []) w' (tC ea Lf.ev Lf.el::nu (some ⟨o,0,none⟩) Lf.ou oh V.nc::C)->(∀r,Has M r->Has C r)->(∀j,j<V.nc->eY C (oh j) (Lf.ou j).b.ch)->
 nQ prog Post (Old wI) (jl (A::l)) b (G (cf.finish (.tuple #[.agg #[.slice (some ⟨o,0,none⟩) V.nc V.nc,.slice ea Lf.el ec],i6 0,i6 0])) cs) w'):
 nQ prog Post (Old wI) (jl l) ng (G (Frame.enter prog 24 #[.slice sL V.nl cr,.slice sa V.nc cap] .normal) (cf::cs)) w:=by
 refine At.assume gF λu=>?_
 refine At.keep (K':=Old w) (λd=>Js w) ?_;have p:wI.heap.size<=w.heap.size:=u.2.2.2.1;refine Rg R U Q q hl E v (S.P9 (λr c j hj h=>⟨h.1,λz=>by cases z⟩) (λr c k=>by rw[E.ro r c]at k;cases k)) t λb A s C w' P O N J I e D H F f=>?_
 subst J;subst I;refine At.keep (λd=>F4 u e) ?_;have W:Sat (cJ wI.heap.size (A::l) []) w' (pM s++C):=D.P9 (λr c j hj h=>⟨h.1,λz=>by cases z⟩) (λr c k j hj h=>⟨h.1,λz=>⟨aT p (h.2 z).1,(h.2 z).2⟩⟩)
 exact K b A s.k.O s.ea s.ec s.oh C w' P O N (λz=>(((D.ok 6 (fR ⟨s.k.O,0,none⟩ 4 (λj=>zm (s.l.ou j,s.oh j)) s.k.V.nc true) rfl (0,0) ⟨z,(by decide:0<4)⟩).2 rfl).1.2 rfl).1) e (F4 u e) (λz=>by
  rcases H.jr.row with ⟨_,y,_⟩|⟨g,y,_⟩
  .omega
  .exact⟨_,y⟩) W.pRo F f
theorem iV{N:Nat}(hl:∀A∈l,A<N)(e:N0<=N)(c:N<=a.block)(wr:Bool):cJ N0 l [] a wr:=
 ⟨fun⟨A,d,z⟩=>by have:=hl A d;rcases z with z|z<;>(simp at z;subst z;dsimp only at c;omega),λ_=>⟨by omega,fun⟨p,b,z⟩=>by cases b⟩⟩
theorem G7(t k:Nat)(L:LS):(L.aM t k).ou=L.ou/\(L.aM t k).el<=L.el+1:=by
 unfold LS.aM;split
 .exact⟨rfl,az _⟩
 .exact⟨rfl,Nat.le_succ _⟩
theorem zd(y:ko)(t k:Nat)(L:LS):(L.jc y t k).1.ou=L.ou/\(L.jc y t k).1.el<=L.el+3:=by
 unfold LS.jc LS.tQ;split<;>exact⟨rfl,by simp[LS.say,LS.aS]⟩
theorem BP(y:ko)(t k:Nat)(L:LS):(L.pass y t k).1.ou=L.ou/\(L.pass y t k).1.el<=L.el+3:=by
 have h:=G7 t k L;have b:((L.aM t k).cz k).ou=L.ou/\((L.aM t k).cz k).el=(L.aM t k).el:=by unfold LS.cz;split<;>exact⟨h.1,rfl⟩
 unfold LS.pass LS.tQ;split
 .exact⟨rfl,by simp[LS.say]⟩
 .split
  .exact⟨h.1,by show(L.aM t k).el+1<=_;omega⟩
  .exact⟨b.1,by show((L.aM t k).cz k).el+1<=_;omega⟩
theorem yV(y:ko)(t k:Nat)(b:Bk)(L:LS):(L.count y t k b).ou=L.ou/\(L.count y t k b).el<=L.el+3:=by
 unfold LS.count;split
 .exact⟨rfl,by omega⟩
 .split
  .exact⟨rfl,by simp[LS.aS]⟩
  .simp only;split
   .exact⟨rfl,by simp[LS.say,LS.aS]⟩
   .split<;>exact⟨rfl,by simp[LS.say,LS.aS]⟩
theorem IL(V:Ev0)(t k:Nat)(c:Option Bk)(L:LS)(j:Nat):(L.step V t k c).1.ou j=L.ou j\/∃b,c=some b/\(L.step V t k c).1.ou j=⟨L.now,b⟩:=by
 cases c with
 |none=>
  left
  simp only[LS.step]
  split
  .split<;>rfl
  .split
   .rfl
   .split
    .rw[(zd ..).1]
    .split
     .rw[(BP ..).1]
     .rfl
 |some b=>
  simp only[LS.step]
  split
  .simp only[LS.end_,upd]
   split
   .exact .inr ⟨b,rfl,rfl⟩
   .exact .inl rfl
  .left
   split
   .split
    .rfl
    .split
     .rfl
     .split<;>rfl
   .split
    .rw[(yV ..).1]
    .split<;>rfl
theorem pR{V:Ev0}{Lf:LS}:∀(m:Nat)(cur:Option (Nat×Nat×Option Bk))(L:LS),Fin V Lf m cur L->(∀j,(L.ou j).b.ch.length<1000000)->∀j,(Lf.ou j).b.ch.length<1000000
 |0,_,_,h,_=>h.elim
 |m+1,some (t,k,i),L,h,d=>by
  obtain⟨A,f,s,e⟩:=h
  have q:∀j,((L.step V t k i).1.ou j).b.ch.length<1000000:=λj=>by
   rcases IL V t k i L j with z|⟨b,v,u⟩
   .rw[z];exact d j
   .rw[u];exact(s b v).1.1
  cases x:L.step V t k i with
  |mk L' o=>
   rw[x]at e q;cases o with
   |none=>exact pR m none L' e q
   |some p=>exact pR m (some (t,p.1,p.2)) L' e q
 |m+1,none,L,h,d=>by
  obtain⟨A,f⟩:=h
  split at f
  .rw[<-f];exact d
  .obtain⟨t,s,e,c⟩:=f
   rcases c with ⟨_,c⟩|⟨_,w,_,_,_,_,_,c⟩
   .exact pR m _ _ c d
   .rcases c with ⟨_,y,ch,_,c⟩|⟨k,_,_,_,c⟩
    .exact pR m _ _ c d
    .exact pR m _ _ c d
theorem IM(V:Ev0)(t k:Nat)(c:Option Bk)(L:LS):(L.step V t k c).1.el<=L.el+3:=by
 cases c with
 |none=>
  simp only[LS.step]
  split
  .split<;>simp[LS.say,LS.wait,LS.cY,LS.put]
  .split
   .simp
   .split
    .exact(zd ..).2
    .split
     .exact(BP ..).2
     .simp
 |some b=>
  simp only[LS.step]
  split
  .simp[LS.end_]
  .split
   .split
    .simp
    .split
     .simp[LS.say]
     .split<;>simp[LS.say,LS.wait,LS.cY,LS.put]
   .split
    .exact(yV ..).2
    .split<;>simp[LS.say]
theorem pS{V:Ev0}{Lf:LS}:∀(m:Nat)(cur:Option (Nat×Nat×Option Bk))(L:LS),Fin V Lf m cur L->L.el<2000000->Lf.el<2000000
 |0,_,_,h,_=>h.elim
 |m+1,some (t,k,f),L,h,d=>by
  obtain⟨j,e,u,c⟩:=h;have i:(L.step V t k f).1.el<2000000:=by have:=IM V t k f L;have:=j.el;omega
  cases q:L.step V t k f with
  |mk L' o=>
   rw[q]at c i;cases o with
   |none=>exact pS m none L' c i
   |some p=>exact pS m (some (t,p.1,p.2)) L' c i
 |m+1,none,L,h,d=>by
  obtain⟨j,e⟩:=h
  split at e
  .rw[<-e];exact d
  .obtain⟨t,u,c,b⟩:=e
   have s:L.el<1000000:=c.el;rcases b with ⟨_,b⟩|⟨_,w,_,_,_,_,_,b⟩
   .exact pS m _ _ b d
   .rcases b with ⟨_,y,ch,_,b⟩|⟨k,_,_,_,b⟩
    .exact pS m _ _ b (by show L.el+1<2000000;omega)
    .exact pS m _ _ b d
theorem Uk(h:jG n L m g≠(0,0)):(jG n L m g).1≠0:=by
 unfold jG at h ⊢
 split
 .show(1:Int)≠0;decide
 split
 .show(2:Int)≠0;decide
 split
 .show(3:Int)≠0;decide
 split
 .show(4:Int)≠0;decide
 .rename_i e d c b
  rw[af e,af d,af c,af b]at h;exact absurd rfl h
theorem Mx(V:Ev0):∀k t j,((kQ V k).tk t).q j=0
 |0,_,_=>rfl
 |k+1,t,j=>by
  show(upd (kQ V k).tk (kQ V k).tl _ t).q j=0
  unfold upd;split
  .rfl
  .exact Mx V k t j
theorem E6(F:aC prog true (DX Ok) Ψ)(hB:HB B Ok)(c:bb.kind=.normal)(D:bb.fn=21){I:Act}{J:Nat}(y:I.defers=[])(hle:B<=J)(iI:w.heap.size=J)(O:∀i,i<n->L i 0<=4)(A:jG n L m g≠(0,0))(hl:0<n->∃a,sl=some a/\Has M (fR a 6 (oQ L) n false))(hc:0<m->∃a,sa=some a/\Has M (fR a 2 (λj=>[i6 (g j).st,.slice (g j).ta (g j).nt (g j).tc]) m false))(N:∀j,j<m->0<(g j).nt->∃a,(g j).ta=some a/\Has M (fR a 3 (λi=>[i6 ((g j).T i 0),i6 ((g j).T i 1),i6 ((g j).T i 2)]) (g j).nt false))(R:St Ok J 69 [(42,.slice sa m ig),(41,.slice sl n cap),(8,.slice sl n cap),(1,.slice sa m ig)] M 0 I w)(K:∀w',w.heap.size<=w'.heap.size->Ψ (G (cf.finish (.bool true)) cs) w'):Ψ (G (bb.at I (pc prog 21 42 [false,false] [])) (cf::cs)) w:=by
 have q:=Uk A;refine bK F c y R 43 24 #[.slice sl n cap,.slice sa m ig] λVC p=>?_
 refine Rh F hB q R.sat (by omega) (λH E w' M' b h f KK=>sI F hB (λi hi=>by have:=O i hi;omega) (λz=>by obtain⟨a,e,d⟩:=hl z;exact⟨a,e,b _ d⟩) (λz=>by obtain⟨a,e,d⟩:=hc z;exact⟨a,e,b _ d⟩) (λj hj z=>by obtain⟨a,e,d⟩:=N j hj z;exact⟨a,e,b _ d⟩) h f KK) λw1 h1 jA=>p _ _ _ h1 λa1 B1 S1 x iH=>?_
 refine aq F hB c x S1 13 [0,0,0,2] [] [] [(49,.slice sa m ig),(48,.slice sl n cap),(12,i6 (jG n L m g).snd),(11,i6 (jG n L m g).fst),(10,ptr B1)] (λM=>bR (B1) [.slice none 0 0,.slice none 0 0]::(M)) 1 56 [false,false] [] λa2 w2 Q v Z je Qz=>?_
 refine bK F c v Q 50 31 #[.slice sl n cap,.slice sa m ig] λcf2 o=>?_
 refine Nr F hB q Q.sat (by omega) (λH E w' M' b h f KK=>FL F hB O (λz=>by obtain⟨a,e,d⟩:=hl z;exact⟨a,e,b _ d.cons⟩) (λz=>by obtain⟨a,e,d⟩:=hc z;exact⟨a,e,b _ d.cons⟩) (λj hj z=>by obtain⟨a,e,d⟩:=N j hj z;exact⟨a,e,b _ d.cons⟩) h f KK) λw3 h3 ji=>o _ _ _ h3 λa3 B3 S3 u Y=>?_
 refine aq F hB c u S3 13 [0,0,0,2,1,0,0,2,0,0,0,2] [] [] [(55,.agg #[.slice none 0 0,.slice none 0 0]),(54,.agg #[.slice none 0 0,.slice none 0 0]),(15,i6 (jG n L m g).snd),(14,i6 (jG n L m g).fst),(12,i6 (jG n L m g).snd),(11,i6 (jG n L m g).fst)] (λM=>bR (B3) [.slice none 0 0,.slice none 0 0]::(M)) 1 70 [false,false] [] λa4 w4 P t X oB TR=>?_
 refine bK F c t P 56 32 #[.agg #[.slice none 0 0,.slice none 0 0],.agg #[.slice none 0 0,.slice none 0 0]] λYT k=>?_
 refine Fz (n:=0) (el:=0) (o1:=none) (o2:=none) (e1:=none) (e2:=none) (ou:=λ_=>⟨0,⟨0,0,[]⟩⟩) (s9:=λ_=>.slice none 0 0) (qN:=λ_=>.slice none 0 0) (ev:=λ_=>⟨0,0,0,0,0⟩) F hB (by omega) (by omega) (λz=>by omega) (λz=>by omega) (λz=>by omega) (λz=>by omega) (λj hj=>by omega) (by omega) (Sat.ff (Sat.ff (Sat.ff (Sat.ff P.sat rfl rfl) rfl rfl) rfl rfl) rfl rfl) λw5 h5 kT=>k _ _ _ h5 λa5 B5 S5 s W=>?_
 have t1:((jG n L m g).1==(jG n L m g).1)=true:=by simp
 have U:((jG n L m g).2==(jG n L m g).2)=true:=by simp
 refine qC F hB c D s S5 28 [] [3,3,3,3,2,3,3] [] 6 (.bool ((jG n L m g).snd==(jG n L m g).snd)) (λM=>M) 0 89 [false,false] [] [((jG n L m g).fst==(jG n L m g).fst,true)] [] [] λS S6 V yw=>?_
 rw[U];exact K S (by omega)
theorem E5(F:aC prog true (DX Ok) Ψ)(hB:HB B Ok)(c:bb.kind=.normal)(t:bb.fn=21){o1 o2:Addr}{h e q:Nat}{u:Act}{f:Nat}(i:m<=9)(k:el<1000000000)(s:u.defers=[])(Q:B<=f)(J:w.heap.size=f)(U:0<el->∃a,e1=some a)(S:0<el->∃a,e2=some a)(D:Has M (tC e1 ev el))(A:Has M (tC e2 ev el))(z:Has M (nu (some o1) ou s9 m))(y:Has M (nu (some o2) ou qN m))(b:∀j,j<m->(ou j).b.ch.length<1000000/\eY M (s9 j) (ou j).b.ch/\eY M (qN j) (ou j).b.ch)(Y:St Ok f 69 [(50,.tuple #[.agg #[.slice (some o2) m m,.slice e2 el e],i6 0,i6 0]),(12,i6 0),(11,i6 0),(10,ptr q)] (oR q 0 [.slice (some o1) m m,.slice e1 el h] false::M) 0 u w)(K:∀w',w.heap.size<=w'.heap.size->Ψ (G (cf.finish (.bool true)) cs) w'):Ψ (G (bb.at u (pc prog 21 57 [false,false] [])) (cf::cs)) w:=by
 refine aq F hB c s Y 13 [0,0,0,2,1,0,0,2,0,0,0,2] [] [] [(55,.agg #[.slice (some o2) m m,.slice e2 el e]),(54,.agg #[.slice (some o1) m m,.slice e1 el h]),(15,i6 0),(14,i6 0),(12,i6 0),(11,i6 0)] (λM=>bR (f) [.slice (some o2) m m,.slice e2 el e]::(M)) 1 70 [false,false] [] λa1 w1 v p I P V=>?_
 refine bK F c p v 56 32 #[.agg #[.slice (some o1) m m,.slice e1 el h],.agg #[.slice (some o2) m m,.slice e2 el e]] λW d=>?_
 refine Fz (n:=m) (el:=el) (o1:=some o1) (o2:=some o2) (e1:=e1) (e2:=e2) (ou:=ou) (s9:=s9) (qN:=qN) (ev:=ev) F hB k i U S (λ_=>⟨_,rfl⟩) (λ_=>⟨_,rfl⟩) (λj hj=>⟨(b j hj).1,(b j hj).2.1.app [_,_],(b j hj).2.2.app [_,_]⟩) (by omega) (Sat.get (Sat.get (Sat.get (Sat.get v.sat y.cons.cons) z.cons.cons.cons) A.cons.cons.cons.cons) D.cons.cons.cons.cons.cons) λZ R O=>d _ _ _ (R) λa2 B3 X o H=>?_
 refine bP F hB c t o X 28 [] [3,3,3,3,3,3,3] [] 6 (.bool true) (λM=>M) 0 89 [false,false] [] λx S3 E N=>?_
 exact K x (by omega)
theorem Di(Qi:0<ng)(p:bb.kind=.normal)(iK:bb.fn=21){a0:Act}(hl:∀x∈l,x<w.heap.size)(hO:Old wI w)(jf:a0.defers=[])(h2:∀i,i<n->L i 0<=4)(y:jG n L m g=(0,0))(GH:∀r∈M,r.wr=false)(Er:Flat M)(S:Has M TY)(k:0<n->∃a,sl=some a/\Has M (fR a 6 (oQ L) n false))(hc:0<m->∃a,sa=some a/\Has M (fR a 2 (λj=>[i6 (g j).st,.slice (g j).ta (g j).nt (g j).tc]) m false))(Z:∀j,j<m->0<(g j).nt->∃a,(g j).ta=some a/\Has M (fR a 3 (λi=>[i6 ((g j).T i 0),i6 ((g j).T i 1),i6 ((g j).T i 2)]) (g j).nt false))(hA:aN [(42,.slice sa m ig),(41,.slice sl n cap),(8,.slice sl n cap),(1,.slice sa m ig)] 69 a0)(hS:Sat (cJ wI.heap.size l []) w M)(K:∀l' f w',0<f->(∀x∈l',x<w'.heap.size)->Old wI w'->nQ prog Post (Old wI) (jl l') f (G (cf.finish (.bool true)) cs) w'):nQ prog Post (Old wI) (jl l) ng (G (bb.at a0 (pc prog 21 42 [false,false] [])) (cf::cs)) w:=by
 have F:=nD (P:=prog) (Post:=Post) (wI:=wI) (l:=l) ng;have hV:=zJ y h2;have nM:=vh (nF n L m g) m;obtain⟨mf,Lf,hf⟩:=TV hV (L:=kQ (nF n L m g) m) nM.1 nM.2.1 (λi R=>by rw[(nM.2.2.2.2.2.2.2 i R).1];exact⟨rfl,rfl,rfl,rfl⟩) nM.2.2.2.2.2.1 nM.2.2.2.2.1 nM.2.2.2.1 nM.2.2.1 (λt ht=>by rw[(nM.2.2.2.2.2.2.2 t ht).2];exact⟨rfl,rfl,rfl,rfl⟩) (vg _ _) (Mx _ _);have hL:zg (nF n L m g) (kQ (nF n L m g) m):=⟨nM.1,nM.2.1,λi R=>by rw[(nM.2.2.2.2.2.2.2 i R).1];exact⟨rfl,rfl,rfl,rfl⟩,nM.2.2.2.2.2.1,nM.2.2.2.2.2.2.1,nM.2.2.2.2.1,vg _ _⟩;have hM:UJ (nF n L m g) sa (λj=>(g j).ta) (λj=>(g j).tc) M:=⟨GH,Er,hc,Z,S⟩;have S0:St (cJ wI.heap.size l []) w.heap.size 69 _ M 0 a0 w:=⟨hA,hS,rfl⟩;refine AX F p 43 24 #[.slice sl n cap,.slice sa m ig] (by kernel_rfl) (by kernel_rfl) (by decide) S0 λcR XY=>?_
 refine zT (V:=nF n L m g) hV hL hf Qi hl (sL:=sl) (sa:=sa) (cr:=cap) (cap:=ig) hM k hS (λX W w' M' e E D KK=>sI (n:=n) (m:=m) (L:=L) (g:=g) (nD ng) (λa wr z=>iV hl (az _) z wr) (λi R=>by have:=h2 i R;omega) (λz=>by obtain⟨a,b,d⟩:=k z;exact⟨a,b,e _ d⟩) (λz=>by obtain⟨a,b,d⟩:=hc z;exact⟨a,b,e _ d⟩) (λj hj z=>by obtain⟨a,b,d⟩:=Z j hj z;exact⟨a,b,e _ d⟩) E D (by rw[y];exact KK)) λf A o ea ec oh C h k1 k2 k3 _ k4 k5 k6 k7 k8 k9=>XY _ _ _ λa1 Ip v=>?_
 clear F;have F:=nD (P:=prog) (Post:=Post) (wI:=wI) (l:=A::l) f;have q:wI.heap.size<=h.heap.size:=k5.2.2.2.1;have O:w.heap.size<=h.heap.size:=k4.2.2.2.1
 have hB:∀(a:Addr)(wr:Bool),h.heap.size<=a.block->cJ wI.heap.size (A::l) [] a wr:=λa wr z=>iV (N:=h.heap.size) (λx u=>by
  rcases ak.1 u with rfl|u
  .exact k3
  .have:=hl x u;omega) q z wr
 have Ar:=pS mf none _ hf (by rw[nM.2.2.2.2.1];decide);have Xb:=pR mf none _ hf (λj=>by rw[nM.2.2.2.2.2.2.1];decide);have S1:St (cJ wI.heap.size (A::l) []) h.heap.size 69 _ _ 0 a1 h:=⟨Ip,k7,rfl⟩;have iH:h.heap.size=h.heap.size:=rfl;replace v:=v.trans jf;have nlV:(nF n L m g).nl=n:=rfl;have ncV:(nF n L m g).nc=m:=rfl;generalize hB1:h.heap.size=B1 at S1 iH hB q O;refine aq F hB p v S1 13 [0,0,0,2] [] [] [(49,.slice sa m ig),(48,.slice sl n cap),(12,i6 0),(11,i6 0),(10,ptr B1)] (λM=>bR (B1) [.slice (some ⟨o,0,none⟩) m m,.slice ea Lf.el ec]::(M)) 1 56 [false,false] [] λa2 J H jQ fV je Qz=>?_
 replace H:St (cJ wI.heap.size (A::l) []) B1 69 _ (oR B1 0 [.slice (some ⟨o,0,none⟩) m m,.slice ea Lf.el ec] false::tC ea Lf.ev Lf.el::nu (some ⟨o,0,none⟩) Lf.ou oh m::C) 1 a2 J:=⟨H.env,H.sat.fix,H.sz⟩;have up:∀r,Has M r->Has (oR B1 0 [.slice (some ⟨o,0,none⟩) m m,.slice ea Lf.el ec] false::tC ea Lf.ev Lf.el::nu (some ⟨o,0,none⟩) Lf.ou oh m::C) r:=λr hr=>(k8 r hr).cons.cons.cons
 refine bK F p jQ H 50 31 #[.slice sl n cap,.slice sa m ig] λcf2 U=>?_
 refine Rf (V:=nF n L m g) (Lf:=Lf) (sL:=sl) (sa:=sa) (cr:=cap) (cap:=ig) (dH:=λj=>(g j).ta) (dU:=λj=>(g j).tc) (m:=mf) (M:=oR B1 0 [.slice (some ⟨o,0,none⟩) m m,.slice ea Lf.el ec] false::tC ea Lf.ev Lf.el::nu (some ⟨o,0,none⟩) Lf.ou oh m::C) F hB hV hf (λz=>by obtain⟨a,b,d⟩:=hc z;exact⟨a,b,up _ d⟩) (λc Vq z=>by obtain⟨a,b,d⟩:=Z c Vq z;exact⟨a,b,up _ d⟩) (λz=>by obtain⟨a,b,d⟩:=k z;exact⟨a,b,up _ d⟩) H.sat (by omega) (λX W w' M' e E D KK=>by
  have KK':∀J,Sat (cJ wI.heap.size (A::l) []) J M'->w'.heap.size<=J.heap.size->nQ prog Post (Old wI) (jl (A::l)) f (G (X.finish (.tuple #[i6 (jG n L m g).1,i6 (jG n L m g).2])) W) J:=by rw[y];exact KK
  exact FL F hB h2 (λz=>by obtain⟨a,b,d⟩:=k z;exact⟨a,b,e _ (up _ d)⟩) (λz=>by obtain⟨a,b,d⟩:=hc z;exact⟨a,b,e _ (up _ d)⟩) (λj hj z=>by obtain⟨a,b,d⟩:=Z j hj z;exact⟨a,b,e _ (up _ d)⟩) E D KK') λs Y w3 g1 g2 g3 g4 I g6=>U _ _ _ I.sat.mRo λa3 B3 S3 jF gQ=>?_
 subst g1;have q1:Has Y (oR B1 0 [.slice (some ⟨o,0,none⟩) m m,.slice ea s.l.el ec] false):=g4 _ (kK (bS ..) rfl);have q2:Has Y (tC ea s.l.ev s.l.el):=g4 _ (kK (aO _ (bS ..)) rfl);have q3:Has Y (nu (some ⟨o,0,none⟩) s.l.ou oh m):=g4 _ (kK (aO _ (aO _ (bS ..))) rfl)
 have q4:∀j,j<m->eY Y (oh j) (s.l.ou j).b.ch:=λj hj=>by
  rcases k9 j hj with z|⟨ca,cap',i,b,d⟩
  .exact .inl z
  .obtain⟨_,i',Ep⟩:=g4 (gZ ca (s.l.ou j).b.ch) (Has.cons (Has.cons (Has.cons (show Has C (gZ ca (s.l.ou j).b.ch)from⟨rfl,i,d⟩))))
   exact .inr ⟨ca,cap',i',b,Ep⟩
 have q5:∀j,j<m->eY Y (s.oh j) (s.l.ou j).b.ch:=λj hj=>by
  rcases I.oh j hj with z|⟨ca,cap',i,b,d,_⟩
  .exact .inl z
  .exact .inr ⟨ca,cap',i,b,d⟩
 have hsn:s.V.nc=m:=by rw[g2];rfl
 replace S3:=S3.get (q1.cons.cons);rw[hsn]at S3;have Q:B1<=B3:=by omega
 refine E5 F hB p iK hV.nc (by omega) jF Q gQ k6 (λz=>?_) q2.cons.cons (kK (bS ..) rfl) q3.cons.cons (kK (aO _ (bS ..)) rfl) (λj hj=>⟨Xb j,(q4 j hj).app [_,_],(q5 j hj).app [_,_]⟩) (S3.dD _ rfl) λw4 jP=>At.assume gF λhO4=>K (A::l) f w4 k1 (λx u=>by
  rcases ak.1 u with rfl|u
  .omega
  .have:=hl x u;omega) hO4
 rcases I.rv.e.row with ⟨_,b,_⟩|⟨g',b,_⟩
 .omega
 .exact⟨_,b⟩
structure Ei(wI:aj)(s0:eN)(n:Nat)(L:oO)(sa:eN)(m:Nat)(g:Nat->Cl):Prop where
 hL:nJ wI s0 n L
 bL:∀p:Addr,s0=some p->p.block<wI.heap.size
 hn:n<2932031007403
 hC:sY wI sa m g
 bC:∀p:Addr,sa=some p->p.block<wI.heap.size
 bT:∀i,i<m->0<(g i).nt->∀p:Addr,(g i).ta=some p->p.block<wI.heap.size
 i0:0<wI.heap.size
 hg:wI.cell? ⟨0,0,none⟩=some (.iface 217 (.agg #[.pointer (some ⟨1,121,none⟩)]))
theorem Kv(h:sY w sa m g)(c:Old w w'):sY w' sa m g:=λi d=>by
 obtain⟨b,o,e,q,p,f⟩:=h i d
 exact⟨b,o,e,c.cell _ _ q,c.cell _ _ p,λj hj=>by
  obtain⟨b,o,e,hc⟩:=f j hj;exact⟨b,o,e,λk hk=>c.cell _ _ (hc k hk)⟩⟩
theorem JB(h:nJ w sa n L)(d:Old w w'):nJ w' sa n L:=λi c=>by
 obtain⟨b,o,e,hc⟩:=h i c;exact⟨b,o,e,λk hk=>d.cell _ _ (hc k hk)⟩
theorem jM(h:a.block∉l):cJ N0 l [] a false:=
 ⟨fun⟨A,b,z⟩=>h (by rcases z with z|z<;>(simp at z;subst z;exact b)),λz=>by cases z⟩
theorem Ei.rd(h:Ei wI s0 n L sa m g)(hl:∀B∈l,wI.heap.size<=B):VF (cJ N0 l []) sa m g:=⟨λp b a d=>jM λz=>by have:=h.bC p b;have:=hl _ z;omega,λi c e p b a d=>jM λz=>by have:=h.bT i c e p b;have:=hl _ z;omega⟩
theorem Nc(H:Ei wI s0 n L sa m g)(u:0<ng)(d:bb.kind=.normal)(A:bb.fn=21){I:Act}(hl:∀x∈l,wI.heap.size<=x/\x<w.heap.size)(E:Old wI w)(V:I.defers=[])(hA:aN [(17,.bool true),(0,.slice s0 n c0),(1,.slice sa m ig),(2,i6 4)] 69 I)(K:∀l' t w',0<t->(∀x∈l',x<w'.heap.size)->Old wI w'->nQ prog Post (Old wI) (jl l') t (G (cf.finish (.bool true)) cs) w'):nQ prog Post (Old wI) (jl l) ng (G (bb.at I (pc prog 21 7 [] [])) (cf::cs)) w:=by
 have F:=nD (P:=prog) (Post:=Post) (wI:=wI) (l:=l) ng;have f:wI.heap.size<=w.heap.size:=E.2.2.2.1;have q:∀x∈l,wI.heap.size<=x:=λx k=>(hl x k).1
 have hB:∀(a:Addr)(wr:Bool),w.heap.size<=a.block->cJ wI.heap.size l [] a wr:=λa wr z=>iV (λx k=>(hl x k).2) f z wr
 have hMc:Sat (cJ wI.heap.size l []) w (cM sa m g):=zS (Kv H.hC E) (E.cell _ _ H.hg) (H.rd q) (jM λz=>by have h:wI.heap.size<=0:=q _ z;have:=H.i0;omega);have Z:uq (cJ wI.heap.size l []) w (yq s0 n L):=vK (JB H.hL E) λp hp a ha=>jM λz=>by have:=H.bL p hp;have:=q _ z;omega
 have hM:Sat (cJ wI.heap.size l []) w (yq s0 n L::cM sa m g):=lN λr c=>by
  rcases ak.1 c with rfl|c
  .exact⟨Z,rfl⟩
  .exact⟨hMc.mem c,qm r c⟩
 have S0:St (cJ wI.heap.size l []) w.heap.size 69 [(17,.bool true),(0,.slice s0 n c0),(1,.slice sa m ig),(2,i6 4)] (yq s0 n L::cM sa m g) 0 I w:=⟨hA,hM,rfl⟩;have O:w.heap.size=w.heap.size:=rfl;generalize hB0:w.heap.size=B0 at S0 O hB f hl;have hn:=H.hn;generalize W:cM sa m g=CM at S0;refine aq F hB d V S0 21 [] [1] [] [(9,i6 0),(8,.slice none 0 0),(0,.slice s0 n c0),(1,.slice sa m ig),(2,i6 4)] (λM=>M) 0 28 [false] [] λa1 w1 S1 U iH jA dS=>?_
 subst W;have Q:0<n->∃a,s0=some a:=λz=>by obtain⟨b,o,e,_⟩:=H.hL 0 z;exact⟨_,e⟩
 refine Ak F hB d hn Q n 0 [] none 0 (λ_=>[]) a1 w1 B0 (bD _) rR U (az _) (by omega) ⟨S1.env,Sat.ff (Sat.ff S1.sat rfl rfl) rfl rfl,S1.sz⟩ λC sl cap vs a2 w2 B2 hv v X je N J=>?_
 refine At.assume gF λD=>?_
 have aag:wI.heap.size<=w2.heap.size:=D.2.2.2.1
 have h2:Sat (cJ wI.heap.size l []) w2 (yq sl (iz L n) (qB L n)::cM sa m g):=by
  have h3:=J.sat.sub (M':=vR sl 6 (oQ (qB L n)) (iz L n) cap 51::cM sa m g) (.cons_cons _ (.cons _ (.cons _ (EQ C _))));exact h3.Ic 0 rfl (yq sl (iz L n) (qB L n)) (λj hj=>⟨hj,rfl,rfl⟩) (λz=>by cases z) rfl
 have R:∀r∈yq sl (iz L n) (qB L n)::cM sa m g,r.wr=false:=λr c=>by
  rcases ak.1 c with rfl|c
  .rfl
  .exact qm r c
 have S:0<iz L n->∃b o,sl=some ⟨b,o,none⟩:=λz=>by
  rcases hv.row with ⟨_,z1,_⟩|⟨g',z1,_⟩
  .omega
  .exact⟨g',0,z1⟩
 have s:∀r∈cM sa m g,Has (yq sl (iz L n) (qB L n)::cM sa m g) r:=λr c=>kK (aO _ c) (qm r c)
 have q1:0<iz L n->∃a,sl=some a/\Has (yq sl (iz L n) (qB L n)::cM sa m g) (fR a 6 (oQ (qB L n)) (iz L n) false):=λz=>by
  obtain⟨b,o,rfl⟩:=S z;exact⟨_,rfl,kK (bS ..) rfl⟩
 have q2:0<m->∃a,sa=some a/\Has (yq sl (iz L n) (qB L n)::cM sa m g) (fR a 2 (λj=>[i6 (g j).st,.slice (g j).ta (g j).nt (g j).tc]) m false):=λz=>by
  obtain⟨b,o,rfl,_⟩:=H.hC 0 z;exact⟨_,rfl,s _ (aO _ (bS ..))⟩
 have q3:∀j,j<m->0<(g j).nt->∃a,(g j).ta=some a/\Has (yq sl (iz L n) (qB L n)::cM sa m g) (fR a 3 (λi=>[i6 ((g j).T i 0),i6 ((g j).T i 1),i6 ((g j).T i 2)]) (g j).nt false):=λj hj z=>by
  obtain⟨b0,o0,_,_,_,ht⟩:=H.hC j hj;obtain⟨b,o,e,_⟩:=ht 0 z;refine⟨_,e,?_⟩;have:=s (Ld g j) (aO _ (aO _ (gL.2 ⟨j,bp.2 hj,rfl⟩)));rw[show Ld g j=fR ⟨b,o,none⟩ 3 (λi=>[i6 ((g j).T i 0),i6 ((g j).T i 1),i6 ((g j).T i 2)]) (g j).nt false by simp only[Ld,e,cK]]at this;exact this
 by_cases y:jG (iz L n) (qB L n) m g=(0,0)
 .refine Di u d A (λx k=>by have:=(hl x k).2;omega) D v (Hl L n) y R (by
   rw[bN];intro r c;rcases ak.1 c with rfl|c
   .rfl
   .exact(bN.1 HR) r c) (s _ (bS ..)) q1 q2 q3 J.env h2 K
 .exact E6 F hB d A v X N (Hl L n) y q1 q2 q3 ⟨J.env,h2,J.sz⟩ λw3 gQ=>At.assume gF λY=>K l ng w3 u (λx k=>by have:=(hl x k).2;omega) Y
def Tq(_ j:Nat):Int:=match j with|0=>1|1=>7|_=>3
def hT2(i j:Nat):Int:=match i,j with|0,0=>2|0,1=>1|0,_=>2|1,0=>2|1,1=>2|1,_=>0|_,0=>2|_,1=>3|_,_=>1
def Im(_ j:Nat):Int:=match j with|0=>1|1=>3|2=>10|3=>2|4=>15|_=>0
def nM(i j:Nat):Int:=match i,j with|0,0=>2|1,0=>11|_,_=>0
abbrev DN(t:Nat)(_:Nat):Cl:=⟨5,some ⟨t,0,none⟩,1,1,Tq⟩
abbrev DM(t:Nat)(_:Nat):Cl:=⟨0,some ⟨t,0,none⟩,3,3,hT2⟩
abbrev V1:Ev0:=nF 0 nM 1 (DN 0)
abbrev V2:Ev0:=nF 1 Im 1 (DM 0)
def F1:LS:=(oF V1 10 none (kQ V1 1)).getD (kQ V1 1)
def F2:LS:=(oF V2 30 none (kQ V2 1)).getD (kQ V2 1)
theorem O7:(oF V1 10 none (kQ V1 1)).isSome=true/\F1.ou 0=⟨8,⟨1,7,[]⟩⟩/\F1.el=2:=⟨by kernel_rfl,by kernel_rfl,by kernel_rfl⟩
theorem TW:(oF V2 30 none (kQ V2 1)).isSome=true/\F2.ou 0=⟨28,⟨2,0,[⟨7,0,0⟩,⟨1,-1,3⟩]⟩⟩:=⟨by kernel_rfl,by kernel_rfl⟩
theorem fn1:Fin V1 F1 10 none (kQ V1 1):=kL _ _ _ (by unfold F1;cases h:oF V1 10 none (kQ V1 1)with|none=>have:=O7.1;rw[h]at this;cases this|some x=>rfl)
theorem fn2:Fin V2 F2 30 none (kQ V2 1):=kL _ _ _ (by unfold F2;cases h:oF V2 30 none (kQ V2 1)with|none=>have:=TW.1;rw[h]at this;cases this|some x=>rfl)
theorem Yp:∀i,i<2->nM i 0≠5/\nM i 0≠6
 |0,_=>by decide
 |1,_=>by decide
 |i+2,h=>by omega
theorem ck0(g:Nat->Cl):jG 2 nM 0 g=(2,1):=by kernel_rfl
theorem ck1(t:Nat):jG 0 nM 1 (DN t)=(0,0):=by kernel_rfl
theorem ck2(t:Nat):jG 1 Im 1 (DM t)=(0,0):=by kernel_rfl
theorem Sat.YY{nb:Nat}{L:List iF}(i:Sat Ok w (bR nb (pN L)::M)):Sat Ok w (gZ ⟨nb,0,none⟩ L::M):=by
 have k:=(sat_iff.1 i).1 _ (bS ..);have d:=dI.1 (sat_iff.1 i).2;have key:∀j f,j<L.length->f<3->(bR nb (pN L)).has (0,j*3+f):=λj f s q=>⟨aG,by show _<(pN L).length;rw[mu];omega⟩
 have b:∀j f:Nat,(gZ ⟨nb,0,none⟩ L).ad (j,f)=(bR nb (pN L)).ad (0,j*3+f):=λj f=>by
  show((⟨nb,0,none⟩:Addr).add (j*3)).add f=⟨nb,j*3+f,none⟩
  rw[add_add]
 refine sat_iff.2 ⟨λr c=>?_,dI.2 ⟨λr c p j j' hj h e=>?_,d.2⟩⟩
 .rcases ak.1 c with rfl|c
  .refine nZ rfl rfl (λj hj=>?_) (λj hj=>?_)
   .obtain⟨j,f⟩:=j
    rw[b,k.val _ (key j f hj.1 hj.2)]
    congr 1
    have o:=qS L j f hj.1 hj.2;have hl:j*3+f<(pN L).length:=(key j f hj.1 hj.2).2;unfold aJ.get;cases hc:pN L with
    |nil=>rw[hc]at hl;simp at hl
    |cons v vs=>
     simp only
     rw[<-hc,o8,o];rfl
   .obtain⟨j,f⟩:=j
    rw[b];exact(k.ok _ (key j f hj.1 hj.2)).1
  .exact(sat_iff.1 i).1 r (aO _ c)
 .obtain⟨j,f⟩:=j
  rw[b]at e;exact d.1 r c (.inl rfl) _ j' (key j f hj.1 hj.2) h e
theorem Sat.Y3{b:Nat}{vs:iG}(h:Sat Ok w M)(k:∀j,j<vs.length->w.cell? ⟨b,j,none⟩=some (vs.getD j undef))(ho:∀j wr,Ok ⟨b,j,none⟩ wr)(o:∀j,j<vs.length->w.frozen? ⟨b,j,none⟩=false)(p:∀r∈M,∀j,r.has j->∀i,i<vs.length->r.ad j≠⟨b,i,none⟩):Sat Ok w (bR b vs::M):=by
 refine sat_iff.2 ⟨λr d=>?_,dI.2 ⟨λr d q j j' hj c e=>?_,(sat_iff.1 h).2⟩⟩
 .rcases ak.1 d with rfl|d
  .refine⟨λj hj=>?_,λj hj=>⟨ho _ _,λ_=>⟨ho _ _,o _ hj.2⟩⟩,λ_ j j' hj c e=>?_,λg e n z=>(by cases z)⟩
   .rw[show(bR b vs).ad j=⟨b,j.2,none⟩from rfl,k j.2 hj.2]
    congr 1
    have hl:j.2<vs.length:=hj.2;unfold aJ.get;cases hc:vs with
    |nil=>rw[hc]at hl;simp at hl
    |cons v l=>rfl
   .have t:j.1<1:=hj.1
    have s:j'.1<1:=c.1;have f:(⟨b,j.2,none⟩:Addr)=⟨b,j'.2,none⟩:=e;simp only[Addr.mk.injEq,true_and,and_true]at f;exact uu (by omega) f
  .exact(sat_iff.1 h).1 r d
 .exact p r d j' c j.2 hj.2 e.symm
theorem GW(hg:wI.cell? ⟨0,0,none⟩=some (.iface 217 (.agg #[.pointer (some ⟨1,121,none⟩)])))(i0:0<wI.heap.size)(hO:Old wI w)(K:∀l' ZH w',0<ZH->(∀x∈l',wI.heap.size<=x/\x<w'.heap.size)->Old wI w'->nQ prog Post (Old wI) (jl l') ZH (G (cf.finish (.bool true)) cs) w'):nQ prog Post (Old wI) (jl []) 1 (G (Frame.enter prog 15 #[] .normal) (cf::cs)) w:=by
 have F:=nD (P:=prog) (Post:=Post) (wI:=wI) (l:=[]) 1;have Sf:wI.heap.size<=w.heap.size:=hO.2.2.2.1;have hB:∀(a:Addr)(wr:Bool),w.heap.size<=a.block->cJ wI.heap.size [] [] a wr:=λa wr z=>iV (λx v=>by cases v) Sf z wr
 have hS:Sat (cJ wI.heap.size [] []) w []:=lN λr d=>by cases d
 have gp:w.heap.size<=w.heap.size:=az _;generalize hB0:w.heap.size=B at hB gp Sf;rw[<-hB0]at gp;replace gp:B<=w.heap.size:=by omega
 refine dg f15 func15 _ rfl 110 (by kernel_rfl) hS λbb a0 B1 hn s iK jf S0 iI=>?_
 refine aq F hB s jf S0 9 [] [] [] [(12,.slice (some ⟨B1,0,none⟩) 2 2)] (λM=>bR (B1) [i6 2,i6 0,i6 0,i6 0,i6 0,i6 0,i6 11,i6 0,i6 0,i6 0,i6 0,i6 0]::(M)) 1 9 [] [] λa1 w1 S1 kJ iH jA dS=>?_
 refine bK F s kJ S1 13 16 #[.slice (some ⟨B1,0,none⟩) 2 2,.slice none 0 0] λgJ DJ=>?_
 have Ou:nJ w1 (some ⟨B1,0,none⟩) 2 nM:=λi t=>⟨B1,0,rfl,λj hj=>by
  have:=S1.sat.val 0 _ rfl (0,i*6+j) ⟨aG,by show i*6+j<12;omega⟩;rw[show(⟨B1,0+i*6+j,none⟩:Addr)=⟨B1,i*6+j,none⟩ by congr 1;omega];refine this.trans (cP some ?_);have Ep:i=0\/i=1:=by omega
  have D:j=0\/j=1\/j=2\/j=3\/j=4\/j=5:=by omega
  rcases Ep with rfl|rfl<;>rcases D with rfl|rfl|rfl|rfl|rfl|rfl<;>rfl⟩
 refine sI (L:=nM) (g:=DN 0) (M:=[yq (some ⟨B1,0,none⟩) 2 nM]) F hB (λi t=>Yp i t) (λ_=>⟨_,rfl,rfl,0,rfl⟩) (λz=>by omega) (λj hj=>by omega) (lN λr d=>by
  have d:=xm.1 d;subst d;exact⟨vK Ou λp y a ha=>jM (by simp),rfl⟩) (by omega) λw2 h2 U8=>?_
 rw[ck0];refine DJ _ _ _ h2 λa2 f S2 jQ fV=>?_
 refine aq F hB s jQ S2 24 [] [1,1,1] [] [(26,.slice (some ⟨f+1,0,none⟩) 1 1)] (λM=>bR (f+1) [i6 5,.slice (some ⟨f,0,none⟩) 1 1]::(bR (f) [i6 1,i6 7,i6 3]::(M))) 2 34 [false] [] λa3 w3 S3 jF gQ ji dX=>?_
 have XT:sY w3 (some ⟨f+1,0,none⟩) 1 (DN f):=λi t=>by
  have e:i=0:=by omega
  subst e;refine⟨f+1,0,rfl,S3.sat.val 0 _ rfl (0,0) ⟨aG,(by decide:0<2)⟩,S3.sat.val 0 _ rfl (0,1) ⟨aG,(by decide:1<2)⟩,λj hj=>?_⟩;have e:j=0:=by simp only at hj;omega
  subst e;refine⟨f,0,rfl,λk hk=>?_⟩;have:=S3.sat.val 1 _ rfl (0,k) ⟨aG,hk⟩;rw[show(⟨f,0+0*3+k,none⟩:Addr)=⟨f,k,none⟩ by congr 1;omega];refine this.trans (cP some ?_);have nA:k=0\/k=1\/k=2:=by omega
  rcases nA with rfl|rfl|rfl<;>rfl
 have WZ:∀N:Nat,VF (cJ N [] []) (some ⟨f+1,0,none⟩) 1 (DN f):=λN=>⟨λp y a ha=>jM (by simp),λi t h0 p y a ha=>jM (by simp)⟩
 refine AX F s 27 24 #[.slice none 0 0,.slice (some ⟨f+1,0,none⟩) 1 1] (by kernel_rfl) (by kernel_rfl) (by decide) S3 λcR Q=>?_
 refine At.assume gF λYk=>?_
 have Yn:Sat (cJ wI.heap.size [] []) w3 (cM (some ⟨f+1,0,none⟩) 1 (DN f)):=zS XT (Yk.cell _ _ hg) (WZ _) (jM (by simp));have u:∀r∈cM (some ⟨f+1,0,none⟩) 1 (DN f),Has (cM (some ⟨f+1,0,none⟩) 1 (DN f)) r:=λr d=>kK d (qm r d)
 have H:=vh V1 1;refine zT (V:=nF 0 nM 1 (DN f)) (L:=kQ V1 1) (Lf:=F1) (m:=10) (M:=cM (some ⟨f+1,0,none⟩) 1 (DN f)) (dH:=λ_=>some ⟨f,0,none⟩) (dU:=λ_=>1) (sL:=none) (cr:=0) (sa:=some ⟨f+1,0,none⟩) (cap:=1) (zJ (ck1 f) (λi t=>by omega)) ⟨H.1,H.2.1,λi t=>by rw[(H.2.2.2.2.2.2.2 i t).1];exact⟨rfl,rfl,rfl,rfl⟩,H.2.2.2.2.2.1,H.2.2.2.2.2.2.1,H.2.2.2.2.1,vg _ _⟩ fn1 (by decide) (λx v=>by cases v) ⟨λr d=>qm r d,HR,λ_=>⟨_,rfl,u _ (aO _ (bS ..))⟩,λc hc _=>⟨_,rfl,?_⟩,u _ (bS ..)⟩ (λz=>absurd z (Bc 0)) Yn (λzq sP w' M' E Qs W KK=>?_) λZG q o1 I R s9 C1 U k1 O k3 k3o k4 k5 k6 k7 k8 k9=>Q _ _ _ λa4 Cf oD=>?_
 .have e:c=0:=by have:c<1:=hc;omega
  subst e;exact u (Ld (DN f) 0) (aO _ (aO _ (gL.2 ⟨0,bp.2 (by decide),rfl⟩)))
 .exact sI (n:=0) (m:=1) (L:=nM) (g:=DN f) (nD 1) (λa wr z=>iV (N:=w3.heap.size) (λx v=>by cases v) (az _) z wr) (λi t=>by omega) (λz=>by omega) (λ_=>⟨_,rfl,E _ (u _ (aO _ (bS ..)))⟩) (λj hj _=>⟨_,rfl,E _ (by
   have e:j=0:=by omega
   subst e;exact u (Ld (DN f) 0) (aO _ (aO _ (gL.2 ⟨0,bp.2 (by decide),rfl⟩))))⟩) Qs W (by rw[ck1];exact KK)
 clear F;have F:=nD (P:=prog) (Post:=Post) (wI:=wI) (l:=[q]) ZG;have f1:=O7.2.1;have f2:=O7.2.2;replace oD:=oD.trans jF;have S4:St (cJ wI.heap.size [q] []) U.heap.size 110 [(27,.tuple #[.agg #[.slice (some ⟨o1,0,none⟩) 1 1,.slice I F1.el R],i6 0,i6 0])] (tC I F1.ev F1.el::nu (some ⟨o1,0,none⟩) F1.ou s9 1::C1) 0 a4 U:=⟨Cf.sub (by intro p y;simp only[ak,bB,or_false]at y;subst y;rfl),k7,rfl⟩;have WL:wI.heap.size<=U.heap.size:=k5.2.2.2.1;have aao:w3.heap.size<=U.heap.size:=k4.2.2.2.1;clear hB
 have hB:∀(a:Addr)(wr:Bool),U.heap.size<=a.block->cJ wI.heap.size [q] [] a wr:=λa wr z=>iV (N:=U.heap.size) (λx v=>by
  have e:x=q:=by simpa using v
  omega) WL z wr
 have jP:U.heap.size=U.heap.size:=rfl;clear Cf k6 k7 k8 k9 Q;generalize F1=J at S4 f1 f2;generalize hB4:U.heap.size=b at S4 jP hB;have t1:((J.el:Int) !=2)=false:=by rw[f2];decide
 have t2:((J.ou 0).a !=8)=false:=by rw[f1];decide
 have t3:((J.ou 0).b.k !=1)=false:=by rw[f1];decide
 have t4:((J.ou 0).b.n !=7)=false:=by rw[f1];decide
 refine bA F hB s oD S4 73 [0,0,0,2,0,0,0,2,0,0,0,1,2,0,0,1,0,0,0,1,2,0,1,1,0,0,0,1,2,0,2,1] [1,1,1,1,1,1,1,1,0,1,1,2,1,1,1,0,1,1,2,1,1,1,0,1,1,2,1,1,1,0] [] [(79,.slice (some ⟨b+3,0,none⟩) 1 1),(76,.slice (some ⟨b+1,0,none⟩) 1 1),(3,ptr b)] (λM=>bR (b+3) [i6 0,.slice (some ⟨b+2,0,none⟩) 3 3]::(bR (b+2) [i6 2,i6 1,i6 2,i6 2,i6 2,i6 0,i6 2,i6 3,i6 1]::(bR (b+1) [i6 1,i6 3,i6 10,i6 2,i6 15,i6 0]::(bR (b) [.slice (some ⟨o1,0,none⟩) 1 1,.slice I J.el R]::(M))))) 4 108 [false,false] [] [((J.ou 0).b.n !=7,false),((J.ou 0).b.k !=1,false),((J.ou 0).a !=8,false),((↑J.el:Int) !=2,false)] [(0,1),(0,1),(0,1)] [] λa5 S S5 nC mz kT jv=>?_
 clear t1 t2 t3 t4 f1 f2
 have XS:sY S (some ⟨b+3,0,none⟩) 1 (DM (b+2)):=λi t=>by
  have e:i=0:=by omega
  subst e;refine⟨b+3,0,rfl,S5.sat.val 0 _ rfl (0,0) ⟨aG,(by decide:0<2)⟩,S5.sat.val 0 _ rfl (0,1) ⟨aG,(by decide:1<2)⟩,λj hj=>?_⟩;have hj3:j<3:=hj;refine⟨b+2,0,rfl,λk hk=>?_⟩;have:=S5.sat.val 1 _ rfl (0,j*3+k) ⟨aG,by show j*3+k<9;omega⟩;rw[show(⟨b+2,0+j*3+k,none⟩:Addr)=⟨b+2,j*3+k,none⟩ by congr 1;omega];refine this.trans (cP some ?_);have nA:k=0\/k=1\/k=2:=by omega
  have D:j=0\/j=1\/j=2:=by omega
  rcases D with rfl|rfl|rfl<;>rcases nA with rfl|rfl|rfl<;>rfl
 have SM:nJ S (some ⟨b+1,0,none⟩) 1 Im:=λi t=>⟨b+1,0,rfl,λj hj=>by
  have e:i=0:=by omega
  subst e;have:=S5.sat.val 2 _ rfl (0,j) ⟨aG,hj⟩;rw[show(⟨b+1,0+0*6+j,none⟩:Addr)=⟨b+1,j,none⟩ by congr 1;omega];refine this.trans (cP some ?_);have D:j=0\/j=1\/j=2\/j=3\/j=4\/j=5:=by omega
  rcases D with rfl|rfl|rfl|rfl|rfl|rfl<;>rfl⟩
 have Cf:q<b:=by omega
 have WW:∀N:Nat,∀p:Addr,(some (⟨b+1,0,none⟩:Addr))=some p->∀a:Addr,a.block=p.block->cJ N [q] [] a false:=λN p y a ha=>jM (by cases y;simp only[ak,bB,or_false];have:a.block=b+1:=ha;omega)
 have WY:∀N:Nat,VF (cJ N [q] []) (some ⟨b+3,0,none⟩) 1 (DM (b+2)):=λN=>⟨λp y a ha=>jM (by cases y;simp only[ak,bB,or_false];have:a.block=b+3:=ha;omega),λi t h0 p y a ha=>jM (by cases y;simp only[ak,bB,or_false];have:a.block=b+2:=ha;omega)⟩
 refine AX F s 80 24 #[.slice (some ⟨b+1,0,none⟩) 1 1,.slice (some ⟨b+3,0,none⟩) 1 1] (by kernel_rfl) (by kernel_rfl) (by decide) S5 λcR Q=>?_
 refine At.assume gF λhO5=>?_
 have aaz:wI.heap.size<=q:=by omega
 have Ym:Sat (cJ wI.heap.size [q] []) S (yq (some ⟨b+1,0,none⟩) 1 Im::cM (some ⟨b+3,0,none⟩) 1 (DM (b+2))):=lN λr d=>by
  rcases ak.1 d with rfl|d
  .exact⟨vK SM (WW _),rfl⟩
  .exact⟨(zS XS (hO5.cell _ _ hg) (WY _) (jM (by simp only[ak,bB,or_false];omega))).mem d,qm r d⟩
 have Sn:∀r∈yq (some ⟨b+1,0,none⟩) 1 Im::cM (some ⟨b+3,0,none⟩) 1 (DM (b+2)),r.wr=false:=λr d=>by
  rcases ak.1 d with rfl|d
  .rfl
  .exact qm r d
 have h:∀r∈yq (some ⟨b+1,0,none⟩) 1 Im::cM (some ⟨b+3,0,none⟩) 1 (DM (b+2)),Has (yq (some ⟨b+1,0,none⟩) 1 Im::cM (some ⟨b+3,0,none⟩) 1 (DM (b+2))) r:=λr d=>kK d (Sn r d)
 have R9:∀x∈[q],x<S.heap.size:=λx v=>by
  have e:x=q:=by simpa using v
  omega
 have o:=vh V2 1;refine zT (V:=nF 1 Im 1 (DM (b+2))) (L:=kQ V2 1) (Lf:=F2) (m:=30) (M:=yq (some ⟨b+1,0,none⟩) 1 Im::cM (some ⟨b+3,0,none⟩) 1 (DM (b+2))) (dH:=λ_=>some ⟨b+2,0,none⟩) (dU:=λ_=>3) (sL:=some ⟨b+1,0,none⟩) (cr:=1) (sa:=some ⟨b+3,0,none⟩) (cap:=1) (zJ (ck2 (b+2)) (λi t=>by show(1:Int)<=4;decide)) ⟨o.1,o.2.1,λi t=>by rw[(o.2.2.2.2.2.2.2 i t).1];exact⟨rfl,rfl,rfl,rfl⟩,o.2.2.2.2.2.1,o.2.2.2.2.2.2.1,o.2.2.2.2.1,vg _ _⟩ fn2 k1 R9 ⟨Sn,?_,λ_=>⟨_,rfl,h _ (aO _ (aO _ (bS ..)))⟩,λc hc _=>⟨_,rfl,?_⟩,h _ (aO _ (bS ..))⟩ (λ_=>⟨_,rfl,h _ (bS ..)⟩) Ym (λzq sP w' M' E Qs W KK=>?_) λZF Z o2 Y X qN C2 A j1 j2 j3 j3o j4 j5 j6 j7 j8 j9=>Q _ _ _ λa6 Qt nB=>?_
 .rw[bN]
  intro r d;rcases ak.1 d with rfl|d
  .rfl
  .exact(bN.1 HR) r d
 .have e:c=0:=by have:c<1:=hc;omega
  subst e;exact h (Ld (DM (b+2)) 0) (aO _ (aO _ (aO _ (gL.2 ⟨0,bp.2 (by decide),rfl⟩))))
 .exact sI (n:=1) (m:=1) (L:=Im) (g:=DM (b+2)) (nD ZG) (λa wr z=>iV (N:=S.heap.size) R9 (az _) z wr) (λi t=>by show(1:Int)≠5/\(1:Int)≠6;decide) (λ_=>⟨_,rfl,E _ (h _ (bS ..))⟩) (λ_=>⟨_,rfl,E _ (h _ (aO _ (aO _ (bS ..))))⟩) (λj hj _=>⟨_,rfl,E _ (by
   have e:j=0:=by omega
   subst e;exact h (Ld (DM (b+2)) 0) (aO _ (aO _ (aO _ (gL.2 ⟨0,bp.2 (by decide),rfl⟩)))))⟩) Qs W (by rw[ck2];exact KK)
 have f1:=TW.2;replace nB:=nB.trans nC;have WK:wI.heap.size<=A.heap.size:=j5.2.2.2.1;have aan:S.heap.size<=A.heap.size:=j4.2.2.2.1;have ho2:S.heap.size<=o2:=j3o aG
 obtain⟨ca,cap,i,eh,hci⟩:∃ca cap i,qN 0=.slice (some ca) 2 cap/\nth C2 i=some (gZ ca [⟨7,0,0⟩,⟨1,-1,3⟩]):=by
  have:=j9 0 aG;rw[f1]at this;rcases this with ⟨_,z⟩|z
  .cases z
  .exact z
 have h6:Sat (cJ wI.heap.size [Z,q] []) A [nu (some ⟨o2,0,none⟩) F2.ou qN 1,gZ ca [⟨7,0,0⟩,⟨1,-1,3⟩]]:=j7.dD λk r d=>by
  match k,d with
  |0,d=>cases d;exact⟨rfl,1,rfl⟩
  |1,d=>cases d;exact⟨rfl,i+1+1,hci⟩
 have YA:=h6.Ic 0 rfl (fR ⟨o2,0,none⟩ 4 (λ_=>[i6 28,i6 2,i6 0,.slice (some ca) 2 cap]) 1 false) (λj hj=>⟨hj,rfl,by
  have e:j.1=0:=by have:j.1<1:=hj.1;omega
  show List.getD [i6 28,i6 2,i6 0,.slice (some ca) 2 cap] j.2 undef=(zm (F2.ou j.1,qN j.1)).getD j.2 undef
  rw[e,eh,f1];rfl⟩) (λz=>by cases z) rfl
 have hw5:S.heap.size=b+4:=mz
 have ZO:∀j,j<2->A.cell? ⟨b,j,none⟩=some ([Value.slice (some ⟨o1,0,none⟩) 1 1,.slice I J.el R].getD j undef):=λj hj=>by
  refine j4.cell _ _ ?_;have:=S5.sat.val 3 _ rfl (0,j) ⟨aG,hj⟩;refine this.trans (cP some ?_);have D:j=0\/j=1:=by omega
  rcases D with rfl|rfl<;>rfl
 have DK:A.heap[b]? =S.heap[b]? :=j4.2.2.2.2 b (by omega)
 have h7:Sat (cJ wI.heap.size [Z,q] []) A (bR b [.slice (some ⟨o1,0,none⟩) 1 1,.slice I J.el R]::[fR ⟨o2,0,none⟩ 4 (λ_=>[i6 28,i6 2,i6 0,.slice (some ca) 2 cap]) 1 false,gZ ca [⟨7,0,0⟩,⟨1,-1,3⟩]]):=by
  refine YA.Y3 ZO (λj wr=>⟨?_,λ_=>⟨by show wI.heap.size<=b;omega,fun⟨p,y,z⟩=>by cases y⟩⟩) (λj hj=>?_) (λr d k hk i t e=>?_)
  .exact(jM (N0:=0) (l:=[Z,q]) (a:=⟨b,j,none⟩) (by simp only[ak,bB,or_false];omega)).1
  .have h0:=((S5.sat.ok 3 _ rfl (0,j) ⟨aG,hj⟩).2 rfl).2
   exact(World.frozen?_of_block DK).trans h0
  .have hc:=ZO i t
   rcases ak.1 d with rfl|d
   .have hb:(((⟨o2,0,none⟩:Addr).add (k.1*4)).add k.2).block=b:=cP Addr.block e
    rw[add_add]at hb;have W:o2=b:=hb;omega
   .have d:=xm.1 d
    subst d;have L4:=(YA.mem (aO _ (bS ..))).val k hk;rw[e,hc]at L4;obtain⟨RY,O⟩:=k;have LR:RY<2:=hk.1;have GP:O<3:=hk.2;have Ep:i=0\/i=1:=by have:i<2:=t;omega
    have Xv:RY=0\/RY=1:=by omega
    have Xu:O=0\/O=1\/O=2:=by omega
    rcases Ep with rfl|rfl<;>rcases Xv with rfl|rfl<;>rcases Xu with rfl|rfl|rfl<;>cases L4
 clear F;have F:=nD (P:=prog) (Post:=Post) (wI:=wI) (l:=[Z,q]) ZF;clear hB
 have ZM:∀x∈[Z,q],wI.heap.size<=x/\x<A.heap.size:=λx v=>by
  simp only[ak,bB,or_false]at v;rcases v with rfl|rfl<;>omega
 have hB:∀(a:Addr)(wr:Bool),A.heap.size<=a.block->cJ wI.heap.size [Z,q] [] a wr:=λa wr z=>iV (N:=A.heap.size) (λx v=>(ZM x v).2) WK z wr
 have S6:St (cJ wI.heap.size [Z,q] []) A.heap.size 110 [(80,.tuple #[.agg #[.slice (some ⟨o2,0,none⟩) 1 1,.slice Y F2.el X],i6 0,i6 0]),(3,ptr b)] (bR b [.slice (some ⟨o1,0,none⟩) 1 1,.slice I J.el R]::[fR ⟨o2,0,none⟩ 4 (λ_=>[i6 28,i6 2,i6 0,.slice (some ca) 2 cap]) 1 false,gZ ca [⟨7,0,0⟩,⟨1,-1,3⟩]]) 0 a6 A:=⟨Qt.sub (by intro p y;simp only[ak,bB,or_false]at y;rcases y with rfl|rfl<;>rfl),h7,rfl⟩;have oS:A.heap.size=A.heap.size:=rfl;have R8:∀w':World,A.heap.size<=w'.heap.size->∀x∈[Z,q],wI.heap.size<=x/\x<w'.heap.size:=λw' hw x v=>by have:=ZM x v;omega
 clear Qt j6 j7 j8 j9 Q h7 h6 YA f1;generalize F2.el=YI at S6;generalize hB6:A.heap.size=B6 at S6 oS hB R8;refine bA F hB s nB S6 44 [0,0,0,2,1,0,0,1,1,0,0,1,2,0,0,1,1,0,0,1,2,0,3,1] [1,1,1,1,1,1,1,2,1,1,1,1,2] [] [(108,.slice (some ⟨B6,0,none⟩) 2 2),(107,.slice (some ca) 2 cap)] (λM=>bR (B6) [i6 7,i6 0,i6 0,i6 1,i6 (-1),i6 3]::(bu 0 (0,1) (.slice Y YI X) (bu 0 (0,0) (.slice (some ⟨o2,0,none⟩) 1 1) (M)))) 1 153 [false,false,false] [] [] [(0,1),(0,1)] [] λa7 w7 S7 lW oA oT tu=>?_
 refine bK F s lW S7 109 25 #[.slice (some ca) 2 cap,.slice (some ⟨B6,0,none⟩) 2 2] λQC G3=>?_
 refine BE F hB (M:=[bR b [.slice (some ⟨o2,0,none⟩) 1 1,.slice Y YI X],fR ⟨o2,0,none⟩ 4 (λ_=>[i6 28,i6 2,i6 0,.slice (some ca) 2 cap]) 1 false]) (L:=[⟨7,0,0⟩,⟨1,-1,3⟩]) (by decide) ((Sat.YY (nb:=B6) (L:=[⟨7,0,0⟩,⟨1,-1,3⟩]) (M:=[bR b [.slice (some ⟨o2,0,none⟩) 1 1,.slice Y YI X],fR ⟨o2,0,none⟩ 4 (λ_=>[i6 28,i6 2,i6 0,.slice (some ca) 2 cap]) 1 false,gZ ca [⟨7,0,0⟩,⟨1,-1,3⟩]]) S7.sat).perm ?_) (by omega) λw8 h8 Em=>G3 _ _ _ h8 λa8 B8 S8 Et yt=>?_
 .exact(EJ (l₁:=[_,_,_]) (l₂:=[_]))
 refine bP F hB s iK Et S8 2 [] [] [] 0 (.bool true) (λM=>M) 0 156 [false,false,false] [] λw9 S9 An DD=>?_
 exact At.assume gF λhO9=>K [Z,q] ZF w9 j1 (R8 w9 (by omega)) hO9
theorem zN{P:aI}{b:aE}{a:Act}{fn:Func}{todo:eF}{v:ay}(d:b.kind=.normal)(e:P.inits.idxOf? b.fn=none)(i:a.defers=[])(f:P.funcs[b.fn]? =some fn)(c:(results fn a.tmps).run P w=.ok v w)(h:(results fn a.tmps).events P w #[]=#[]):
 stepG P true (G {b.at a todo with mode:=.returning} []) w=.ended (.done v) w #[]:=by
 simp[G,stepG,unwind,doReturn,Frame.at,d,i,f,c,h,e,seen,GStep.after]
theorem Jv:prog.inits.idxOf? 7=none:=by kernel_rfl
theorem upto_at(H:Ei wI s0 n L sa m g)(Q:Old wI w)(K:∀f c w',0<c->(∀x∈f,x<w'.heap.size)->Old wI w'->nQ prog Post (Old wI) (jl f) c (G (cf.finish (.bool true)) cs) w'):nQ prog Post (Old wI) (jl []) 1 (G (Frame.enter prog 21 #[.slice s0 n c0,.slice sa m cap,i6 4] .normal) (cf::cs)) w:=by
 have F:=nD (P:=prog) (Post:=Post) (wI:=wI) (l:=[]) 1;have b:wI.heap.size<=w.heap.size:=Q.2.2.2.1;have hB:∀(a:Addr)(wr:Bool),w.heap.size<=a.block->cJ wI.heap.size [] [] a wr:=λa wr z=>iV (λx J=>by cases J) b z wr
 have O:Sat (cJ wI.heap.size [] []) w []:=lN λr N=>by cases N
 have e:w.heap.size<=w.heap.size:=az _;generalize v:w.heap.size=B at hB e b;rw[<-v]at e;replace e:B<=w.heap.size:=by omega
 refine dg f21 func21 _ rfl 69 (by kernel_rfl) O λbb Z B1 W d s o U E=>?_
 refine aq F hB d o U 6 [] [] [] [(0,.slice s0 n c0),(1,.slice sa m cap),(2,i6 4)] (λM=>M) 0 6 [] [] λY V S k D I R=>?_
 refine AX F d 17 15 #[] (by kernel_rfl) (by kernel_rfl) (by decide) S λcR q=>?_
 refine At.assume gF λt=>?_
 refine GW H.hg H.i0 t λf c w' h i u=>q _ _ _ λX y j=>?_
 refine Nc (ig:=cap) (c0:=c0) H h d s i u (j.trans k) (y.sub ?_) K;intro p A;simp only[ak,bB,or_false]at A;rcases A with rfl|rfl|rfl|rfl<;>rfl
theorem Hh(H:Ei wI s0 n L sa m g)(hP:∀w',Old wI w'->Post (.bool true) w'):nQ prog Post (Old wI) (jl []) 1 (G (Frame.enter prog 7 #[.slice s0 n c0,.slice sa m cap] .normal) []) wI:=by
 have F:=nD (P:=prog) (Post:=Post) (wI:=wI) (l:=[]) 1;have hB:∀(a:Addr)(wr:Bool),wI.heap.size<=a.block->cJ wI.heap.size [] [] a wr:=λa wr z=>iV (λx W=>by cases W) (az _) z wr
 have Z:Sat (cJ wI.heap.size [] []) wI []:=lN λr c=>by cases c
 have gp:wI.heap.size<=wI.heap.size:=az _;refine dg f7 func7 _ rfl 8 (by kernel_rfl) Z λbb a0 B1 hn b j s S0 S=>?_
 refine aq F hB b s S0 8 [] [] [] [(6,.slice sa m cap),(5,.slice s0 n c0)] (λM=>M) 0 8 [] [] λa1 w1 S1 q R V dS=>?_
 refine AX F b 7 21 #[.slice s0 n c0,.slice sa m cap,i6 4] (by kernel_rfl) (by kernel_rfl) (by decide) S1 λcR u=>?_
 refine At.assume gF λA=>?_
 refine upto_at H A λh f w' Y k D=>u _ _ _ λa2 E e=>?_
 clear F;have F:=nD (P:=prog) (Post:=Post) (wI:=wI) (l:=h) f;have y:Sat (cJ wI.heap.size h []) w' []:=lN λr c=>by cases c
 have S2:St (cJ wI.heap.size h []) w'.heap.size 8 [(7,.bool true)] [] 0 a2 w':=⟨E.sub (by intro p J;simp only[ak,bB,or_false]at J;subst J;rfl),y,rfl⟩;have Q:w'.heap.size=w'.heap.size:=rfl;clear hB;have hB:∀(a:Addr)(wr:Bool),w'.heap.size<=a.block->cJ wI.heap.size h [] a wr:=λa wr z=>iV (N:=w'.heap.size) k D.2.2.2.1 z wr
 replace e:=e.trans q;refine aq F hB b e S2 2 [] [] [] [(4,.bool true)] (λM=>M) 0 11 [] [] λI K S3 o O U dX=>?_
 have i:∀t:List Item,nQ prog Post (Old wI) (jl h) f (G {bb.at I t with mode:=.returning} []) K:=λt=>by
  have X:I.tmps.getD 4 undef=.bool true:=by rw[o9,S3.env.val 4 (.bool true) rfl];rfl
  have c:=resultsC_tmp (P:=prog) (fn:=f7) (t:=4) (by rfl) I.tmps;rw[X]at c;refine At.TZ (v:=.bool true) (es:=#[]) rfl (λd=>?_) (by simp) (λd hK=>hP _ hK) gF;exact zN b (by rw[j];exact Jv) o (by rw[j];exact func7) (c _).1 (c _).2
 exact F.ctl (λ_=>stepG_ret') (i _)
end Go.Proofs.YtobagnjnbmgidaaGreatDoor
