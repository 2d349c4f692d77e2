import Derived.Test.YtobagnjnbmgidaaGreatDoorR16
set_option linter.all false
set_option maxHeartbeats 8000000
set_option maxRecDepth 100000
namespace Go.Proofs.YtobagnjnbmgidaaGreatDoor
open Go.Conc Go.RowKit Tryz
section
variable{main:Bool}{B:Nat}{Ok:Addr→Bool→Prop}{Ψ:Goroutine→World→Prop}
theorem BG(F:aC prog main (DX Ok) Ψ)(hB:HB B Ok){bb:Frame}(af:bb.kind=.normal)(aJ:bb.fn=25){cf:Frame}{cs:List Frame}{M:List ah}{c1 c2:Addr}{xG jP:Nat}{L:List iO}(hlen:L.length<1000000){B1:Nat}(hle:B≤B1):
 ∀(m i:Nat)(a0:Act)(w:World),i+m=L.length→a0.defers=[]→w.heap.size=B1→St Ok B1 26 [(5,i6 i),(0,.slice (some c1) L.length xG),(1,.slice (some c2) L.length jP)] (iL c1 L::iL c2 L::M) 0 a0 w→
   (∀w',Sat Ok w' M→w.heap.size≤w'.heap.size→Ψ (G (cf.finish (.bool true)) cs) w')→Ψ (G (bb.at a0 (pc prog 25 22 [false] [])) (cf::cs)) w
 |0,i,a0,w,hi,aP,dH,S0,K=>by
  have h1:decide ((i:Int)<(L.length:Int))=false:=by simp;omega
  refine cJ F hB af aP S0 14 [] [0] [] [(4,.bool true)] (fun M=>M) 0 36 [false,false] [] [(decide ((↑i:Int)<(↑(List.length L):Int)),false)] [] [] fun a1 w1 S1 aG ck cV cW=>?_
  refine dA F S1 af aJ aG [] (.bool true) ?_;exact K w1 S1.au.tail.tail (by omega)
 |m+1,i,a0,w,hi,aP,dH,S0,K=>by
  have h1:decide ((i:Int)<(L.length:Int))=true:=by simp;omega
  refine cJ F hB af aP S0 14 [0,i,0,103,1,i,0,103] [2,2,2] [8] [(24,.agg #[i6 (List.getD L i (iO.mk 0 0 0)).k,i6 (List.getD L i (iO.mk 0 0 0)).l,i6 (List.getD L i (iO.mk 0 0 0)).n]),(20,.agg #[i6 (List.getD L i (iO.mk 0 0 0)).k,i6 (List.getD L i (iO.mk 0 0 0)).l,i6 (List.getD L i (iO.mk 0 0 0)).n]),(5,i6 i),(0,.slice (some c1) (List.length L) xG),(1,.slice (some c2) (List.length L) jP)] (fun M=>M) 0 36 [false,true] [8] [(decide ((↑i:Int)<(↑(List.length L):Int)),true)] [((↑i:Int),List.length L),((↑i:Int),List.length L)] [(6,(i,List.length L))] fun a1 w1 S1 aG ck cV cW=>?_
  refine Zq F af 20 24 25 48 [(L.getD i ⟨0,0,0⟩).k,(L.getD i ⟨0,0,0⟩).l,(L.getD i ⟨0,0,0⟩).n] (by kernel_rfl) (by kernel_rfl) (by kernel_rfl) (by decide) rfl rfl S1 fun a2 eG aW=>?_
  rw[show nL (pc prog 25 36 [false,true] [8])=pc prog 25 37 [false,true] [8] by kernel_rfl];have S2:St Ok B1 26 _ _ 0 a2 w1:=⟨eG,S1.au,S1.sz⟩;have dV:=ck;replace aW:=aW.trans aG;have hw:IntKind.wrap .i64 ((i:Int)+1)=((i+1:Nat):Int):=by rw[bI (by omega) (by omega)];rfl
  refine aD F hB af aW S2 10 [] [1] [] [(5,i6 (IntKind.wrap .i64 ((↑i:Int)+1))),(0,.slice (some c1) (List.length L) xG),(1,.slice (some c2) (List.length L) jP)] (fun M=>M) 0 47 [false,true,false] [8] fun a3 w3 S3 bD eu fS gD=>?_
  rw[hw] at S3;rw[show pc prog 25 47 [false,true,false] [8]=pc prog 25 22 [false] [] by kernel_rfl];exact BG F hB af aJ hlen hle m (i+1) a3 w3 (by omega) bD (by omega) S3 fun w' h1 h2=>K w' h1 (by omega)
theorem BF(F:aC prog main (DX Ok) Ψ)(hB:HB B Ok){cf:Frame}{cs:List Frame}{w:World}{M:List ah}{c1 c2:Addr}{xG jP:Nat}{L:List iO}(hlen:L.length<1000000)(hS:Sat Ok w (iL c1 L::iL c2 L::M))(ey:B≤w.heap.size)(K:∀w',Sat Ok w' M→w.heap.size≤w'.heap.size→Ψ (G (cf.finish (.bool true)) cs) w'):Ψ (G (Frame.enter prog 25 #[.slice (some c1) L.length xG,.slice (some c2) L.length jP] .normal) (cf::cs)) w:=by
 have h0:((L.length:Int) !=(L.length:Int))=false:=by simp
 refine iT f25 func25 _ rfl 26 (by kernel_rfl) hS fun bb a0 B1 hn af aJ aP S0 dH=>?_
 refine cJ F hB af aP S0 22 [] [0] [] [(5,i6 0),(0,.slice (some c1) (List.length L) xG),(1,.slice (some c2) (List.length L) jP)] (fun M=>M) 0 22 [false] [] [((↑(List.length L):Int) !=(↑(List.length L):Int),false)] [] [] fun a1 w1 S1 aG ck cV cW=>?_
 exact BG F hB af aJ hlen (by omega) L.length 0 a1 w1 (Nat.zero_add _) aG (by omega) S1 fun w' h1 h2=>K w' h1 (by omega)
theorem wA(F:aC prog main (DX Ok) Ψ)(hB:HB B Ok){cf:Frame}{cs:List Frame}{w:World}{M:List ah}{c1 c2:Option Addr}{xG jP:Nat}(hS:Sat Ok w M)(ey:B≤w.heap.size)(K:∀w',Sat Ok w' M→w.heap.size≤w'.heap.size→Ψ (G (cf.finish (.bool true)) cs) w'):Ψ (G (Frame.enter prog 25 #[.slice c1 0 xG,.slice c2 0 jP] .normal) (cf::cs)) w:=by
 refine iT f25 func25 _ rfl 26 (by kernel_rfl) hS fun bb a0 B1 hn af aJ aP S0 dH=>?_
 refine aD F hB af aP S0 22 [] [1] [] [(5,i6 0),(0,.slice c1 0 xG),(1,.slice c2 0 jP)] (fun M=>M) 0 22 [false] [] fun a1 w1 S1 aG ck cV cW=>?_
 refine aD F hB af aG S1 14 [] [1] [] [(4,.bool true)] (fun M=>M) 0 36 [false,false] [] fun a2 w2 S2 aW dV kX A8=>?_
 refine dA F S2 af aJ aW [] (.bool true) ?_;exact K w2 S2.au (by omega)
theorem Jt(F:aC prog main (DX Ok) Ψ)(hB:HB B Ok){cf:Frame}{cs:List Frame}{w:World}{M:List ah}{h1 h2:Value}{L:List iO}(hlen:L.length<1000000)(c1:gQ M h1 L)(c2:gQ M h2 L)(hS:Sat Ok w M)(ey:B≤w.heap.size)(K:∀w',Sat Ok w' M→w.heap.size≤w'.heap.size→Ψ (G (cf.finish (.bool true)) cs) w'):Ψ (G (Frame.enter prog 25 #[h1,h2] .normal) (cf::cs)) w:=by
 rcases c1 with ⟨rfl,hL⟩|⟨a1,k1,i1,rfl,g1⟩
 ·subst hL
  rcases c2 with ⟨rfl,_⟩|⟨a2,k2,i2,rfl,g2⟩
  ·exact wA F hB hS ey K
  ·exact wA F hB hS ey K
 ·rcases c2 with ⟨rfl,hL⟩|⟨a2,k2,i2,rfl,g2⟩
  ·subst hL;exact wA F hB hS ey K
  ·have h1:=hS.dup g2 rfl
   have h2:=h1.dup (i:=i1+1) (r:=iL a1 L) g1 rfl;exact BF F hB hlen h2 ey K
end
abbrev uz(e:Option Addr)(ev:Nat→Pd)(el:Nat):ah:=fR (e.getD ⟨0,0,none⟩) 5 (fun j=>zo (ev j)) el false
abbrev ot(o:Option Addr)(ou:Nat→Qj)(oh:Nat→Value)(n:Nat):ah:=fR (o.getD ⟨0,0,none⟩) 4 (fun j=>zF (ou j,oh j)) n false
section
variable{main:Bool}{B:Nat}{Ok:Addr→Bool→Prop}{Ψ:Goroutine→World→Prop}
theorem FY(F:aC prog main (DX Ok) Ψ)(hB:HB B Ok){bb:Frame}(af:bb.kind=.normal){cs:List Frame}{M:List ah}{x1 x2:Value}{e1 e2:Option Addr}{el k1 k2 q2 q3:Nat}{ev:Nat→Pd}(kO:el<1000000000)(h1:0<el→∃a,e1=some a)(h2:0<el→∃a,e2=some a){B1:Nat}(hle:B≤B1):
 ∀(m i:Nat)(a0:Act)(w:World),i+m=el→a0.defers=[]→w.heap.size=B1→St Ok B1 89 [(5,i6 i),(2,ptr q2),(3,ptr q3)] (bR q3 [x2,.slice e2 el k2]::bR q2 [x1,.slice e1 el k1]::uz e1 ev el::uz e2 ev el::M) 0 a0 w→
   (∀a' w',a'.defers=[]→w'.heap.size=B1→St Ok B1 89 [(6,i6 (0:Nat)),(2,ptr q2),(3,ptr q3)] (bR q3 [x2,.slice e2 el k2]::bR q2 [x1,.slice e1 el k1]::uz e1 ev el::uz e2 ev el::M) 0 a' w'→Ψ (G (bb.at a' (pc prog 32 53 [false,false] [])) cs) w')→Ψ (G (bb.at a0 (pc prog 32 35 [false] [])) cs) w
 |0,i,a0,w,hi,aP,dH,S0,K=>by
  have g1:decide ((i:Int)<(el:Int))=false:=by simp;omega
  refine cJ F hB af aP S0 18 [1,0,1,1] [0] [] [(6,i6 0),(2,ptr q2),(3,ptr q3)] (fun M=>M) 0 53 [false,false] [] [(decide ((↑i:Int)<(↑el:Int)),false)] [] [] fun a1 w1 S1 aG ck cV cW=>?_
  exact K a1 w1 aG (by omega) S1
 |m+1,i,a0,w,hi,aP,dH,S0,K=>by
  have g1:decide ((i:Int)<(el:Int))=true:=by simp;omega
  obtain⟨a1,rfl⟩:=h1 (by omega);obtain⟨a2,rfl⟩:=h2 (by omega);refine cJ F hB af aP S0 15 [1,0,1,1,1,0,1,1,2,i,0,105,0,0,1,1,3,i,0,105] [2,2,2] [10] [(42,.agg #[i6 (ev i).a,i6 (ev i).c,i6 (ev i).l,i6 (ev i).w,i6 (ev i).n]),(37,.agg #[i6 (ev i).a,i6 (ev i).c,i6 (ev i).l,i6 (ev i).w,i6 (ev i).n]),(5,i6 i),(2,ptr q2),(3,ptr q3)] (fun M=>M) 0 50 [false,true] [10] [(decide ((↑i:Int)<(↑el:Int)),true)] [((↑i:Int),el),((↑i:Int),el)] [(10,(i,el))] fun a1 w1 S1 aG ck cV cW=>?_
  refine Zq F af 37 42 43 55 [(ev i).a,(ev i).c,(ev i).l,(ev i).w,(ev i).n] (by kernel_rfl) (by kernel_rfl) (by kernel_rfl) (by decide) rfl rfl S1 fun a2' eG aW=>?_
  rw[show nL (pc prog 32 50 [false,true] [10])=pc prog 32 51 [false,true] [10] by kernel_rfl];have S2:St Ok B1 89 _ _ 0 a2' w1:=⟨eG,S1.au,S1.sz⟩;have dV:=ck;replace aW:=aW.trans aG;have hw:IntKind.wrap .i64 ((i:Int)+1)=((i+1:Nat):Int):=by rw[bI (by omega) (by omega)];rfl
  refine aD F hB af aW S2 10 [] [1] [] [(5,i6 (IntKind.wrap .i64 ((↑i:Int)+1))),(2,ptr q2),(3,ptr q3)] (fun M=>M) 0 61 [false,true,false] [10] fun a3 w3 S3 bD eu fS gD=>?_
  rw[hw] at S3;rw[show pc prog 32 61 [false,true,false] [10]=pc prog 32 35 [false] [] by kernel_rfl];exact FY F hB af kO h1 h2 hle m (i+1) a3 w3 (by omega) bD (by omega) S3 K
theorem FX(F:aC prog main (DX Ok) Ψ)(hB:HB B Ok){bb:Frame}(af:bb.kind=.normal)(aJ:bb.fn=32){cf:Frame}{cs:List Frame}{x1 x2:Value}{o1 o2:Option Addr}{n c1 c2 q2 q3:Nat}{ou:Nat→Qj}{tD rH:Nat→Value}(WI:n≤9)(h1:0<n→∃a,o1=some a)(h2:0<n→∃a,o2=some a):
 ∀(m i:Nat)(M:List ah)(a0:Act)(w:World)(B1:Nat),i+m=n→(∀j,j<n→(ou j).b.ch.length<1000000∧gQ M (tD j) (ou j).b.ch∧gQ M (rH j) (ou j).b.ch)→a0.defers=[]→B≤B1→w.heap.size=B1→St Ok B1 89 [(6,i6 i),(2,ptr q2),(3,ptr q3)] (bR q3 [.slice o2 n c2,x2]::bR q2 [.slice o1 n c1,x1]::ot o1 ou tD n::ot o2 ou rH n::M) 0 a0 w→
   (∀w',Sat Ok w' M→w.heap.size≤w'.heap.size→Ψ (G (cf.finish (.bool true)) cs) w')→Ψ (G (bb.at a0 (pc prog 32 53 [false,false] [])) (cf::cs)) w
 |0,i,M,a0,w,B1,hi,hc,aP,hle,dH,S0,K=>by
  have g1:decide ((i:Int)<(n:Int))=false:=by simp;omega
  refine cJ F hB af aP S0 15 [1,0,0,1] [0] [] [(4,.bool true)] (fun M=>M) 0 68 [false,false,false] [] [(decide ((↑i:Int)<(↑n:Int)),false)] [] [] fun a1 w1 S1 aG ck cV cW=>?_
  refine dA F S1 af aJ aG [] (.bool true) ?_;exact K w1 S1.au.tail.tail.tail.tail (by omega)
 |m+1,i,M,a0,w,B1,hi,hc,aP,hle,dH,S0,K=>by
  have g1:decide ((i:Int)<(n:Int))=true:=by simp;omega
  obtain⟨u1,rfl⟩:=h1 (by omega);obtain⟨u2,rfl⟩:=h2 (by omega);obtain⟨bp,qv,E5⟩:=hc i (by omega)
  obtain⟨r1,l1,k1,e1⟩:∃r l k,tD i=.slice r l k:=by
   rcases qv with ⟨z,_⟩|⟨ca,cap,_,z,_⟩
   ·exact⟨_,_,_,z⟩
   ·exact⟨_,_,_,z⟩
  obtain⟨r2,l2,k2,e2⟩:∃r l k,rH i=.slice r l k:=by
   rcases E5 with ⟨z,_⟩|⟨ca,cap,_,z,_⟩
   ·exact⟨_,_,_,z⟩
   ·exact⟨_,_,_,z⟩
  refine cJ F hB af aP S0 21 [1,0,0,1,1,0,0,1,2,i,0,104] [2,2] [] [(7,ptr B1),(55,.agg #[i6 (ou i).a,i6 (ou i).b.k,i6 (ou i).b.n,ah.get (ah.mk (fun j=>Addr.add (Addr.add (Option.getD (some u1) (Addr.mk 0 0 none)) (j.fst*4)) j.snd) [] (fun j f=>List.getD (zF (ou j,tD j)) f undef) n 4 false none) (i,3)]),(6,i6 i),(2,ptr q2),(3,ptr q3)] (fun M=>bR (B1) [i6 0,i6 0,i6 0,.slice none 0 0]::(M)) 1 74 [false,false,true] [] [(decide ((↑i:Int)<(↑n:Int)),true)] [((↑i:Int),n)] [(4,(i,n))] fun a1 w1 S1 aG ck cV cW=>?_
  replace S1:St Ok B1 89 [(7,ptr B1),(55,.agg #[i6 (ou i).a,i6 (ou i).b.k,i6 (ou i).b.n,tD i]),(6,i6 i),(2,ptr q2),(3,ptr q3)] _ 1 a1 w1:=S1;rw[e1] at S1;refine cJ F hB af aG S1 10 [0,0,0,4,1,0,0,1,4,i,0,104] [2] [] [(8,ptr (B1+1)),(60,.agg #[i6 (ou i).a,i6 (ou i).b.k,i6 (ou i).b.n,ah.get (ah.mk (fun j=>Addr.add (Addr.add (Option.getD (some u2) (Addr.mk 0 0 none)) (j.fst*4)) j.snd) [] (fun j f=>List.getD (zF (ou j,rH j)) f undef) n 4 false none) (i,3)]),(7,ptr B1),(6,i6 i),(2,ptr q2),(3,ptr q3)] (fun M=>bR (B1+1) [i6 0,i6 0,i6 0,.slice none 0 0]::(gH 0 (0,3) (.slice r1 l1 k1) (gH 0 (0,2) (i6 (ou i).b.n) (gH 0 (0,1) (i6 (ou i).b.k) (gH 0 (0,0) (i6 (ou i).a) (M)))))) 2 84 [false,false,true] [] [] [((↑i:Int),n)] [(4,(i,n))] fun a2 w2 S2 aW dV kX A8=>?_
  replace S2:St Ok B1 89 [(8,ptr (B1+1)),(60,.agg #[i6 (ou i).a,i6 (ou i).b.k,i6 (ou i).b.n,rH i]),(7,ptr B1),(6,i6 i),(2,ptr q2),(3,ptr q3)] (bR (B1+1) [i6 0,i6 0,i6 0,.slice none 0 0]::bR B1 [i6 (ou i).a,i6 (ou i).b.k,i6 (ou i).b.n,.slice r1 l1 k1]::bR q3 [.slice (some u2) n c2,x2]::bR q2 [.slice (some u1) n c1,x1]::ot (some u1) ou tD n::ot (some u2) ou rH n::M) 2 a2 w2:=S2;rw[e2] at S2;refine aD F hB af aW S2 8 [0,0,0,4,1,0,3,1,0,0,3,1] [] [] [(64,.slice r2 l2 k2),(62,.slice r1 l1 k1),(8,ptr (B1+1)),(7,ptr B1),(6,i6 i),(2,ptr q2),(3,ptr q3)] (fun M=>gH 0 (0,3) (.slice r2 l2 k2) (gH 0 (0,2) (i6 (ou i).b.n) (gH 0 (0,1) (i6 (ou i).b.k) (gH 0 (0,0) (i6 (ou i).a) (M))))) 2 92 [false,false,true] [] fun a3 w3 S3 bD eu fS gD=>?_
  refine fT F af bD S3 65 25 #[.slice r1 l1 k1,.slice r2 l2 k2] fun vO ij=>?_
  have M3:=S3.au;rw[e1] at qv;rw[e2] at E5
  let A6:List ah:=[bR (B1+1) [i6 (ou i).a,i6 (ou i).b.k,i6 (ou i).b.n,.slice r2 l2 k2],bR B1 [i6 (ou i).a,i6 (ou i).b.k,i6 (ou i).b.n,.slice r1 l1 k1],bR q3 [.slice (some u2) n c2,x2],bR q2 [.slice (some u1) n c1,x1],ot (some u1) ou tD n,ot (some u2) ou rH n]
  refine Jt F hB bp (qv.app A6) (E5.app A6) S3.au (by omega) fun w4 h4 Ay=>ij _ _ _ h4 fun a4 B4 S4 fC oJ=>?_
  have hw:IntKind.wrap .i64 ((i:Int)+1)=((i+1:Nat):Int):=by rw[bI (by omega) (by omega)];rfl
  have t1:((ou i).a !=(ou i).a)=false:=by simp
  have t2:((ou i).b.k !=(ou i).b.k)=false:=by simp
  have t3:((ou i).b.n !=(ou i).b.n)=false:=by simp
  refine cJ F hB af fC S4 37 [1,0,0,1,0,0,0,1,1,0,1,1,0,0,1,1,1,0,2,1,0,0,2,1] [1,1,1,1,1,0,1,1,1,1,0,1,1,1,1,0] [] [(6,i6 (IntKind.wrap .i64 ((↑i:Int)+1))),(87,.bool ((ou i).b.n !=(ou i).b.n)),(86,i6 (ou i).b.n),(85,.pointer (some (Addr.mk (B1+1) 2 none))),(84,i6 (ou i).b.n),(83,.pointer (some (Addr.mk B1 2 none))),(80,.bool ((ou i).b.k !=(ou i).b.k)),(79,i6 (ou i).b.k),(78,.pointer (some (Addr.mk (B1+1) 1 none))),(77,i6 (ou i).b.k),(76,.pointer (some (Addr.mk B1 1 none))),(73,.bool ((ou i).a !=(ou i).a)),(72,i6 (ou i).a),(71,ptr (B1+1)),(70,i6 (ou i).a),(69,ptr B1),(2,ptr q2),(3,ptr q3)] (fun M=>M) 0 130 [false,false,true,false] [] [((ou i).b.n !=(ou i).b.n,false),((ou i).b.k !=(ou i).b.k,false),((ou i).a !=(ou i).a,false)] [] [] fun a5 w5 S5 dU jT kC rq=>?_
  rw[hw] at S5;replace S5:=S5.fZ [(6,i6 ((i+1:Nat):Int)),(2,ptr q2),(3,ptr q3)] rfl;rw[show pc prog 32 130 [false,false,true,false] []=pc prog 32 53 [false,false] [] by kernel_rfl];have h5:=Sat.back (A:=[bR q3 [.slice (some u2) n c2,x2],bR q2 [.slice (some u1) n c1,x1],ot (some u1) ou tD n,ot (some u2) ou rH n]) (Sat.back (A:=[bR B1 [i6 (ou i).a,i6 (ou i).b.k,i6 (ou i).b.n,.slice r1 l1 k1],bR q3 [.slice (some u2) n c2,x2],bR q2 [.slice (some u1) n c1,x1],ot (some u1) ou tD n,ot (some u2) ou rH n]) S5.au);exact FX F hB af aJ WI h1 h2 m (i+1) (bR B1 [i6 (ou i).a,i6 (ou i).b.k,i6 (ou i).b.n,.slice r1 l1 k1]::bR (B1+1) [i6 (ou i).a,i6 (ou i).b.k,i6 (ou i).b.n,.slice r2 l2 k2]::M) a5 w5 B4 (by omega) (fun j hj=>⟨(hc j hj).1,(hc j hj).2.1.app [_,_],(hc j hj).2.2.app [_,_]⟩) dU (by omega) (by omega) ⟨S5.env,h5,S5.sz⟩ fun w' z1 z2=>K w' z1.tail.tail (by omega)
theorem FW(F:aC prog main (DX Ok) Ψ)(hB:HB B Ok){cf:Frame}{cs:List Frame}{w:World}{M:List ah}{n el c1 c2 k1 k2:Nat}{o1 o2 e1 e2:Option Addr}{ou:Nat→Qj}{tD rH:Nat→Value}{ev:Nat→Pd}(kO:el<1000000000)(WI:n≤9)(h1:0<el→∃a,e1=some a)(h2:0<el→∃a,e2=some a)(h3o:0<n→∃a,o1=some a)(h4o:0<n→∃a,o2=some a)(eC:∀j,j<n→(ou j).b.ch.length<1000000∧gQ M (tD j) (ou j).b.ch∧gQ M (rH j) (ou j).b.ch)(ey:B≤w.heap.size)(hS:Sat Ok w (uz e1 ev el::uz e2 ev el::ot o1 ou tD n::ot o2 ou rH n::M))(K:∀w',Sat Ok w' M→w.heap.size≤w'.heap.size→Ψ (G (cf.finish (.bool true)) cs) w'):Ψ (G (Frame.enter prog 32 #[.agg #[.slice o1 n c1,.slice e1 el k1],.agg #[.slice o2 n c2,.slice e2 el k2]] .normal) (cf::cs)) w:=by
 have g1:((n:Int) !=(n:Int))=false:=by simp
 have g2:((el:Int) !=(el:Int))=false:=by simp
 refine iT f32 func32 _ rfl 89 (by kernel_rfl) hS fun bb a0 B1 hn af aJ aP S0 dH=>?_
 refine cJ F hB af aP S0 35 [1,0,0,1,0,0,0,1,1,0,1,1,0,0,1,1] [0,1,1,1,1,1,1,0] [] [(5,i6 0),(3,ptr (B1+1)),(2,ptr B1)] (fun M=>bR (B1+1) [.slice o2 n c2,.slice e2 el k2]::(bR (B1) [.slice o1 n c1,.slice e1 el k1]::(M))) 2 35 [false] [] [((↑el:Int) !=(↑el:Int),false),((↑n:Int) !=(↑n:Int),false)] [] [] fun a1 w1 S1 aG ck cV cW=>?_
 replace S1:=S1.fZ [(5,i6 ((0:Nat):Int)),(2,ptr B1),(3,ptr (B1+1))] rfl;refine FY F hB af kO h1 h2 (by omega) el 0 a1 w1 (Nat.zero_add _) aG rfl ⟨S1.env,S1.au,rfl⟩ fun a2 w2 aW dV S2=>?_
 have h3:=Sat.back (A:=[bR (B1+1) [.slice o2 n c2,.slice e2 el k2],bR B1 [.slice o1 n c1,.slice e1 el k1],ot o1 ou tD n,ot o2 ou rH n]) (Sat.back (A:=[uz e2 ev el,bR (B1+1) [.slice o2 n c2,.slice e2 el k2],bR B1 [.slice o1 n c1,.slice e1 el k1],ot o1 ou tD n,ot o2 ou rH n]) (C:=M) (r:=uz e1 ev el) (S2.au.perm ?_))
 ·exact FX F hB af aJ WI h3o h4o n 0 (uz e2 ev el::uz e1 ev el::M) a2 w2 w1.heap.size (Nat.zero_add _) (fun j hj=>⟨(eC j hj).1,(eC j hj).2.1.app [_,_],(eC j hj).2.2.app [_,_]⟩) aW (by omega) dV ⟨S2.env,h3,S2.sz⟩ fun w' z1 z2=>K w' z1.tail.tail (by omega)
 ·exact(List.perm_append_comm (l₁:=[_,_]) (l₂:=[_,_])).append_right (ot o1 ou tD n::ot o2 ou rH n::M)
end
section
variable{main:Bool}{B:Nat}{Ok:Addr→Bool→Prop}{Ψ:Goroutine→World→Prop}
theorem NH(F:aC prog main (DX Ok) Ψ)(hB:HB B Ok){cf:Frame}{cs:List Frame}{w:World}{M:List ah}(n lo hi:Int)(hS:Sat Ok w M)(ey:B≤w.heap.size)(K:∀w',Sat Ok w' M→w.heap.size≤w'.heap.size→Ψ (G (cf.finish (.bool (gF lo n hi))) cs) w'):Ψ (G (Frame.enter prog 42 #[i6 n,i6 lo,i6 hi] .normal) (cf::cs)) w:=by
 by_cases h1:lo≤n
 ·have iq:decide (n≥lo)=true:=by simpa using h1
  refine iT f42 func42 _ rfl 15 (by kernel_rfl) hS fun bb a0 B1 hn af aJ aP S0 dH=>?_
  refine cJ F hB af aP S0 16 [] [2,3,3] [] [(6,.bool (decide (n≤hi)))] (fun M=>M) 0 16 [] [] [(decide (n≥lo),true)] [] [] fun a1 w1 S1 aG ck cV cW=>?_
  refine dA F S1 af aJ aG [] (.bool (decide (n≤hi))) ?_;have e:gF lo n hi=decide (n≤hi):=by unfold gF;simp[h1]
  rw[e] at K;exact K w1 S1.au (by omega)
 ·have iq:decide (n≥lo)=false:=by simpa using h1
  refine iT f42 func42 _ rfl 15 (by kernel_rfl) hS fun bb a0 B1 hn af aJ aP S0 dH=>?_
  refine cJ F hB af aP S0 16 [] [0,1,1] [] [(6,.bool false)] (fun M=>M) 0 16 [] [] [(decide (n≥lo),false)] [] [] fun a1 w1 S1 aG ck cV cW=>?_
  refine dA F S1 af aJ aG [] (.bool false) ?_;have e:gF lo n hi=false:=by unfold gF;simp[h1]
  rw[e] at K;exact K w1 S1.au (by omega)
theorem Nd(F:aC prog main (DX Ok) Ψ)(hB:HB B Ok){cf:Frame}{cs:List Frame}{w:World}{M:List ah}(k a b c d e:Int)(hk:k≤2)(hS:Sat Ok w M)(ey:B≤w.heap.size)(K:∀w',Sat Ok w' M→w.heap.size≤w'.heap.size→Ψ (G (cf.finish (.bool (bu k a b c d e))) cs) w'):Ψ (G (Frame.enter prog 28 #[.agg #[i6 k,i6 a,i6 b,i6 c,i6 d,i6 e]] .normal) (cf::cs)) w:=by
 by_cases k1:k=1
 ·subst k1
  refine iT f28 func28 _ rfl 81 (by kernel_rfl) hS fun bb a0 B1 hn af aJ aP S0 dH=>?_
  by_cases la:1≤a
  ·have la':decide (a≥1)=true:=by simpa using la
   by_cases ua:a≤9
   ·have ua':decide (a≤9)=true:=by simpa using ua
    by_cases lb:0≤b
    ·have Ir:decide (b≥0)=true:=by simpa using lb
     by_cases ub:b≤1000
     ·have ub':decide (b≤1000)=true:=by simpa using ub
      by_cases lc:1≤c
      ·have lc':decide (c≥1)=true:=by simpa using lc
       by_cases uc:c≤9
       ·have uc':decide (c≤9)=true:=by simpa using uc
        by_cases ld:0≤d
        ·have ld':decide (d≥0)=true:=by simpa using ld
         by_cases ud:d≤10000
         ·have Vp:decide (d≤10000)=true:=by simpa using ud
          refine cJ F hB af aP S0 117 [0,0,0,5] [3,2,3,3,2,3,3,2,3,3,2,3,3,2,3,3,2,3,3,2,3,3] [] [(2,.bool (decide (d≤10000)))] (fun M=>bR (B1) [i6 1,i6 a,i6 b,i6 c,i6 d,i6 e]::(M)) 1 49 [true] [] [(decide (d≥0),true),(decide (c≤9),true),(decide (c≥1),true),(decide (b≤1000),true),(decide (b≥0),true),(decide (a≤9),true),(decide (a≥1),true)] [] [] fun a1 w1 S1 aG ck cV cW=>?_
          refine dA F S1 af aJ aG [] (.bool (decide (d≤10000))) ?_;have e:bu 1 a b c d e=true:=by simp[bu,gF,la,ua,lb,ub,lc,uc,ld,ud]
          rw[e] at K;rw[Vp];exact K w1 S1.au.tail (by omega)
         ·have Vp:decide (d≤10000)=false:=by simpa using ud
          refine cJ F hB af aP S0 117 [0,0,0,5] [3,2,3,3,2,3,3,2,3,3,2,3,3,2,3,3,2,3,3,2,3,3] [] [(2,.bool (decide (d≤10000)))] (fun M=>bR (B1) [i6 1,i6 a,i6 b,i6 c,i6 d,i6 e]::(M)) 1 49 [true] [] [(decide (d≥0),true),(decide (c≤9),true),(decide (c≥1),true),(decide (b≤1000),true),(decide (b≥0),true),(decide (a≤9),true),(decide (a≥1),true)] [] [] fun a1 w1 S1 aG ck cV cW=>?_
          refine dA F S1 af aJ aG [] (.bool (decide (d≤10000))) ?_;have e:bu 1 a b c d e=false:=by simp[bu,gF,ud]
          rw[e] at K;rw[Vp];exact K w1 S1.au.tail (by omega)
        ·have ld':decide (d≥0)=false:=by simpa using ld
         refine cJ F hB af aP S0 117 [0,0,0,5] [3,2,3,3,2,3,3,2,3,3,2,3,3,2,3,3,2,3,3,0,1,1] [] [(2,.bool false)] (fun M=>bR (B1) [i6 1,i6 a,i6 b,i6 c,i6 d,i6 e]::(M)) 1 49 [true] [] [(decide (d≥0),false),(decide (c≤9),true),(decide (c≥1),true),(decide (b≤1000),true),(decide (b≥0),true),(decide (a≤9),true),(decide (a≥1),true)] [] [] fun a1 w1 S1 aG ck cV cW=>?_
         refine dA F S1 af aJ aG [] (.bool false) ?_;have e:bu 1 a b c d e=false:=by simp[bu,gF,ld]
         rw[e] at K;exact K w1 S1.au.tail (by omega)
       ·have uc':decide (c≤9)=false:=by simpa using uc
        refine cJ F hB af aP S0 100 [0,0,0,4] [3,2,3,3,2,3,3,2,3,3,2,3,3,2,3,3,0,1,1] [] [(2,.bool false)] (fun M=>bR (B1) [i6 1,i6 a,i6 b,i6 c,i6 d,i6 e]::(M)) 1 49 [true] [] [(decide (c≤9),false),(decide (c≥1),true),(decide (b≤1000),true),(decide (b≥0),true),(decide (a≤9),true),(decide (a≥1),true)] [] [] fun a1 w1 S1 aG ck cV cW=>?_
        refine dA F S1 af aJ aG [] (.bool false) ?_;have e:bu 1 a b c d e=false:=by simp[bu,gF,uc]
        rw[e] at K;exact K w1 S1.au.tail (by omega)
      ·have lc':decide (c≥1)=false:=by simpa using lc
       refine cJ F hB af aP S0 100 [0,0,0,4] [3,2,3,3,2,3,3,2,3,3,2,3,3,0,1,1,1,1,1] [] [(2,.bool false)] (fun M=>bR (B1) [i6 1,i6 a,i6 b,i6 c,i6 d,i6 e]::(M)) 1 49 [true] [] [(decide (c≥1),false),(decide (b≤1000),true),(decide (b≥0),true),(decide (a≤9),true),(decide (a≥1),true)] [] [] fun a1 w1 S1 aG ck cV cW=>?_
       refine dA F S1 af aJ aG [] (.bool false) ?_;have e:bu 1 a b c d e=false:=by simp[bu,gF,lc]
       rw[e] at K;exact K w1 S1.au.tail (by omega)
     ·have ub':decide (b≤1000)=false:=by simpa using ub
      refine cJ F hB af aP S0 83 [0,0,0,3] [3,2,3,3,2,3,3,2,3,3,0,1,1,1,1,1] [] [(2,.bool false)] (fun M=>bR (B1) [i6 1,i6 a,i6 b,i6 c,i6 d,i6 e]::(M)) 1 49 [true] [] [(decide (b≤1000),false),(decide (b≥0),true),(decide (a≤9),true),(decide (a≥1),true)] [] [] fun a1 w1 S1 aG ck cV cW=>?_
      refine dA F S1 af aJ aG [] (.bool false) ?_;have e:bu 1 a b c d e=false:=by simp[bu,gF,ub]
      rw[e] at K;exact K w1 S1.au.tail (by omega)
    ·have Ir:decide (b≥0)=false:=by simpa using lb
     refine cJ F hB af aP S0 83 [0,0,0,3] [3,2,3,3,2,3,3,0,1,1,1,1,1,1,1,1] [] [(2,.bool false)] (fun M=>bR (B1) [i6 1,i6 a,i6 b,i6 c,i6 d,i6 e]::(M)) 1 49 [true] [] [(decide (b≥0),false),(decide (a≤9),true),(decide (a≥1),true)] [] [] fun a1 w1 S1 aG ck cV cW=>?_
     refine dA F S1 af aJ aG [] (.bool false) ?_;have e:bu 1 a b c d e=false:=by simp[bu,gF,lb]
     rw[e] at K;exact K w1 S1.au.tail (by omega)
   ·have ua':decide (a≤9)=false:=by simpa using ua
    refine cJ F hB af aP S0 66 [0,0,0,2] [3,2,3,3,0,1,1,1,1,1,1,1,1] [] [(2,.bool false)] (fun M=>bR (B1) [i6 1,i6 a,i6 b,i6 c,i6 d,i6 e]::(M)) 1 49 [true] [] [(decide (a≤9),false),(decide (a≥1),true)] [] [] fun a1 w1 S1 aG ck cV cW=>?_
    refine dA F S1 af aJ aG [] (.bool false) ?_;have e:bu 1 a b c d e=false:=by simp[bu,gF,ua]
    rw[e] at K;exact K w1 S1.au.tail (by omega)
  ·have la':decide (a≥1)=false:=by simpa using la
   refine cJ F hB af aP S0 66 [0,0,0,2] [3,0,1,1,1,1,1,1,1,1,1,1,1] [] [(2,.bool false)] (fun M=>bR (B1) [i6 1,i6 a,i6 b,i6 c,i6 d,i6 e]::(M)) 1 49 [true] [] [(decide (a≥1),false)] [] [] fun a1 w1 S1 aG ck cV cW=>?_
   refine dA F S1 af aJ aG [] (.bool false) ?_;have e:bu 1 a b c d e=false:=by simp[bu,gF,la]
   rw[e] at K;exact K w1 S1.au.tail (by omega)
 ·have Uu:(k==1)=false:=by simpa using k1
  by_cases k2:k=2
  ·subst k2
   refine iT f28 func28 _ rfl 81 (by kernel_rfl) hS fun bb a0 B1 hn af aJ aP S0 dH=>?_
   refine aD F hB af aP S0 37 [0,0,0,1] [1,3] [] [(2,.bool true)] (fun M=>bR (B1) [i6 2,i6 a,i6 b,i6 c,i6 d,i6 e]::(M)) 1 37 [false,true] [] fun a1 w1 S1 aG ck cV cW=>?_
   refine dA F S1 af aJ aG [] (.bool true) ?_;exact K w1 S1.au.tail (by omega)
  ·have Pz:(k==2)=false:=by simpa using k2
   have k3':(k==3)=false:=by simp;omega
   have k4':(k==4)=false:=by simp;omega
   have k5':(k==5)=false:=by simp;omega
   have k6':(k==6)=false:=by simp;omega
   refine iT f28 func28 _ rfl 81 (by kernel_rfl) hS fun bb a0 B1 hn af aJ aP S0 dH=>?_
   refine cJ F hB af aP S0 59 [0,0,0,1] [0,0,0,0,0,0] [] [(2,.bool false)] (fun M=>bR (B1) [i6 k,i6 a,i6 b,i6 c,i6 d,i6 e]::(M)) 1 59 [false,false,false,false,false,false] [] [(k==6,false),(k==5,false),(k==4,false),(k==3,false),(k==2,false),(k==1,false)] [] [] fun a1 w1 S1 aG ck cV cW=>?_
   refine dA F S1 af aJ aG [] (.bool false) ?_;have e:bu k a b c d e=false:=by simp only[bu,if_neg k1,if_neg k2,if_neg (show¬k=3 by omega),if_neg (show¬k=4 by omega),if_neg (show¬k=5 by omega),if_neg (show¬k=6 by omega)]
   rw[e] at K;exact K w1 S1.au.tail (by omega)
theorem F8(F:aC prog main (DX Ok) Ψ)(hB:HB B Ok){bb:Frame}(af:bb.kind=.normal)(aJ:bb.fn=29){cf:Frame}{cs:List Frame}{M:List ah}{x0:Value}{ta:Option Addr}{n tc q1:Nat}{T:Nat→Nat→Int}(hn:n≤12)(jy:0<n→∃a,ta=some a){B1:Nat}(hle:B≤B1):
 ∀(m i:Nat)(a0:Act)(w:World)(B2:Nat),i+m=n→a0.defers=[]→B1≤B2→w.heap.size=B2→St Ok B2 45 [(4,i6 i),(1,ptr q1)] (bR q1 [x0,.slice ta n tc]::fR (ta.getD ⟨0,0,none⟩) 3 (fun j=>[i6 (T j 0),i6 (T j 1),i6 (T j 2)]) n false::M) 0 a0 w→
   (∀w',Sat Ok w' M→w.heap.size≤w'.heap.size→Ψ (G (cf.finish (.bool (fA T m i))) cs) w')→Ψ (G (bb.at a0 (pc prog 29 33 [false] [])) (cf::cs)) w
 |0,i,a0,w,B2,hi,aP,sD,dH,S0,K=>by
  have g1:decide ((i:Int)<(n:Int))=false:=by simp;omega
  refine cJ F hB af aP S0 15 [0,0,1,1] [0] [] [(2,.bool true)] (fun M=>M) 0 48 [false,false] [] [(decide ((↑i:Int)<(↑n:Int)),false)] [] [] fun a1 w1 S1 aG ck cV cW=>?_
  refine dA F S1 af aJ aG [] (.bool true) ?_;exact K w1 S1.au.tail.tail (by omega)
 |m+1,i,a0,w,B2,hi,aP,sD,dH,S0,K=>by
  have g1:decide ((i:Int)<(n:Int))=true:=by simp;omega
  obtain⟨u,rfl⟩:=jy (by omega);refine cJ F hB af aP S0 21 [0,0,1,1,0,0,1,1,1,i,0,101] [2,2] [] [(30,i6 (T i 0)),(4,i6 i),(1,ptr q1)] (fun M=>M) 0 54 [false,true] [] [(decide ((↑i:Int)<(↑n:Int)),true)] [((↑i:Int),n)] [(1,(i,n))] fun a1 w1 S1 aG ck cV cW=>?_
  refine fT F af aG S1 31 42 #[i6 (T i 0),i6 1,i6 4] fun kP bK=>?_
  refine NH F hB (T i 0) 1 4 S1.au (by omega) fun w2 h2 kX=>bK _ _ _ h2 fun a2 B3 S2 aW dV=>?_
  refine cJ F hB af aW S2 10 [0,0,1,1,1,i,2,101] [2] [] [(37,i6 (T i 2)),(5,.bool (gF 1 (T i 0) 4)),(4,i6 i),(1,ptr q1)] (fun M=>M) 0 65 [false,true] [] [] [((↑i:Int),n)] [(1,(i,n))] fun a3 w3 S3 bD eu fS gD=>?_
  refine fT F af bD S3 38 42 #[i6 (T i 2),i6 0,i6 1000] fun vO ij=>?_
  refine NH F hB (T i 2) 0 1000 S3.au (by omega) fun w4 h4 Ay=>ij _ _ _ h4 fun a4 B4 S4 fC oJ=>?_
  have e:fA T (m+1) i=(gF 1 (T i 0) 4&&gF 0 (T i 2) 1000&&fA T m (i+1)):=rfl;rw[e] at K;cases hp:gF 1 (T i 0) 4 with
  |false=>
   rw[hp] at S4 K;refine aD F hB af fC S4 16 [] [3,3,3] [] [(2,.bool false)] (fun M=>M) 0 82 [false,true,true] [] fun a5 w5 S5 dU jT kC rq=>?_
   refine dA F S5 af aJ dU [] (.bool false) ?_;exact K w5 S5.au.tail.tail (by omega)
  |true=>
   rw[hp] at S4 K;cases hq:gF 0 (T i 2) 1000 with
   |false=>
    rw[hq] at S4 K;refine aD F hB af fC S4 16 [] [1,1,3] [] [(2,.bool false)] (fun M=>M) 0 82 [false,true,true] [] fun a5 w5 S5 dU jT kC rq=>?_
    refine dA F S5 af aJ dU [] (.bool false) ?_;exact K w5 S5.au.tail.tail (by omega)
   |true=>
    rw[hq] at S4 K;have hw:IntKind.wrap .i64 ((i:Int)+1)=((i+1:Nat):Int):=by rw[bI (by omega) (by omega)];rfl
    refine aD F hB af fC S4 20 [] [1,1,1] [] [(4,i6 (IntKind.wrap .i64 ((↑i:Int)+1))),(43,.bool false),(42,.bool true),(1,ptr q1)] (fun M=>M) 0 86 [false,true,false] [] fun a5 w5 S5 dU jT kC rq=>?_
    rw[hw] at S5;replace S5:=S5.fZ [(4,i6 ((i+1:Nat):Int)),(1,ptr q1)] rfl;rw[show pc prog 29 86 [false,true,false] []=pc prog 29 33 [false] [] by kernel_rfl];exact F8 F hB af aJ hn jy hle m (i+1) a5 w5 B4 (by omega) dU (by omega) (by omega) S5 fun w' z1 z2=>K w' z1 (by omega)
theorem Ng(F:aC prog main (DX Ok) Ψ)(hB:HB B Ok){cf:Frame}{cs:List Frame}{w:World}{M:List ah}{st:Int}{ta:Option Addr}{n tc:Nat}{T:Nat→Nat→Int}(jy:0<n→∃a,ta=some a∧Has M (fR a 3 (fun j=>[i6 (T j 0),i6 (T j 1),i6 (T j 2)]) n false))(hS:Sat Ok w M)(ey:B≤w.heap.size)(K:∀w',Sat Ok w' M→w.heap.size≤w'.heap.size→Ψ (G (cf.finish (.bool (gN st n T))) cs) w'):Ψ (G (Frame.enter prog 29 #[.agg #[i6 st,.slice ta n tc]] .normal) (cf::cs)) w:=by
 have sC:Sat Ok w (fR (ta.getD ⟨0,0,none⟩) 3 (fun j=>[i6 (T j 0),i6 (T j 1),i6 (T j 2)]) n false::M):=by
  by_cases z:0<n
  ·obtain⟨u,rfl,hh⟩:=jy z;exact hS.get hh
  ·exact hS.iV (by show n=0;omega) rfl
 clear hS;have hS:=sC;clear sC;refine iT f29 func29 _ rfl 45 (by kernel_rfl) hS fun bb a0 B1 hn af aJ aP S0 dH=>?_
 refine aD F hB af aP S0 9 [0,0,0,1] [] [] [(8,i6 st),(1,ptr B1)] (fun M=>bR (B1) [i6 st,.slice ta n tc]::(M)) 1 9 [] [] fun a1 w1 S1 aG ck cV cW=>?_
 refine fT F af aG S1 9 42 #[i6 st,i6 0,i6 1000] fun kP bK=>?_
 refine NH F hB st 0 1000 S1.au (by omega) fun w2 h2 kX=>bK _ _ _ h2 fun a2 B3 S2 aW dV=>?_
 by_cases g0:gF 0 st 1000=true
 ·rw[g0] at S2
  by_cases g1:n≤12
  ·have g1':decide ((n:Int)>12)=false:=by simp;omega
   refine cJ F hB af aW S2 23 [0,0,1,1] [1,1,1,1,0] [] [(4,i6 0),(1,ptr B1)] (fun M=>M) 0 33 [false] [] [(decide ((↑n:Int)>12),false)] [] [] fun a3 w3 S3 bD eu fS gD=>?_
   have e:gN st n T=fA T n 0:=by unfold gN;simp[g0,show¬12<n by omega]
   rw[e] at K;replace S3:=S3.fZ [(4,i6 ((0:Nat):Int)),(1,ptr B1)] rfl;exact F8 F hB af aJ g1 (fun z=>by obtain⟨u,z1,_⟩:=jy z;exact⟨u,z1⟩) (B1:=B3) (by omega) n 0 a3 w3 B3 (Nat.zero_add _) bD (Nat.le_refl _) (by omega) S3 fun w' z1 z2=>K w' z1 (by omega)
  ·have g1':decide ((n:Int)>12)=true:=by simp;omega
   refine cJ F hB af aW S2 19 [0,0,1,1] [1,1,1,1,2] [] [(2,.bool false)] (fun M=>M) 0 29 [true] [] [(decide ((↑n:Int)>12),true)] [] [] fun a3 w3 S3 bD eu fS gD=>?_
   refine dA F S3 af aJ bD [] (.bool false) ?_;have e:gN st n T=false:=by unfold gN;simp[show 12<n by omega]
   rw[e] at K;exact K w3 S3.au.tail.tail (by omega)
 ·have g0':gF 0 st 1000=false:=by simpa using g0
  rw[g0'] at S2;refine aD F hB af aW S2 19 [] [3,3,3,3,3] [] [(2,.bool false)] (fun M=>M) 0 29 [true] [] fun a3 w3 S3 bD eu fS gD=>?_
  refine dA F S3 af aJ bD [] (.bool false) ?_;have e:gN st n T=false:=by unfold gN;simp[g0']
  rw[e] at K;exact K w3 S3.au.tail.tail (by omega)
end
abbrev r8(L:Nat→Nat→Int)(i:Nat):List Value:=[i6 (L i 0),i6 (L i 1),i6 (L i 2),i6 (L i 3),i6 (L i 4),i6 (L i 5)]
section
variable{main:Bool}{B:Nat}{Ok:Addr→Bool→Prop}{Ψ:Goroutine→World→Prop}
theorem Ga(F:aC prog main (DX Ok) Ψ)(hB:HB B Ok){bb:Frame}(af:bb.kind=.normal)(aJ:bb.fn=17){cf:Frame}{cs:List Frame}{M:List ah}{sa:Option Addr}{n cap:Nat}{g:Nat→Cl}(hn:n≤9)(ZF:0<n→∃a,sa=some a)(hg:∀j,j<n→0<(g j).nt→∃a,(g j).ta=some a∧Has M (fR a 3 (fun i=>[i6 ((g j).T i 0),i6 ((g j).T i 1),i6 ((g j).T i 2)]) (g j).nt false)):
 ∀(m i:Nat)(a0:Act)(w:World)(B2:Nat),i+m=n→a0.defers=[]→B≤B2→w.heap.size=B2→St Ok B2 65 [(9,i6 i),(1,.slice sa n cap)] (fR (sa.getD ⟨0,0,none⟩) 2 (fun j=>[i6 (g j).st,.slice (g j).ta (g j).nt (g j).tc]) n false::M) 0 a0 w→
   (∀w',Sat Ok w' M→w.heap.size≤w'.heap.size→Ψ (G (cf.finish (.tuple #[i6 (if gL g m i<n then 4 else 0),i6 (if gL g m i<n then gL g m i else 0)])) cs) w')→Ψ (G (bb.at a0 (pc prog 17 51 [false,false,false] [])) (cf::cs)) w
 |0,i,a0,w,B2,hi,aP,sD,dH,S0,K=>by
  have g1:decide ((i:Int)<(n:Int))=false:=by simp;omega
  refine cJ F hB af aP S0 15 [] [0] [] [(5,i6 0),(4,i6 0)] (fun M=>M) 0 66 [false,false,false,false] [] [(decide ((↑i:Int)<(↑n:Int)),false)] [] [] fun a1 w1 S1 aG ck cV cW=>?_
  refine dA F S1 af aJ aG [] (.tuple #[i6 0,i6 0]) ?_;have e:gL g 0 i=i:=rfl;rw[e,if_neg (show¬i<n by omega),if_neg (show¬i<n by omega)] at K;exact K w1 S1.au.tail (by omega)
 |m+1,i,a0,w,B2,hi,aP,sD,dH,S0,K=>by
  have g1:decide ((i:Int)<(n:Int))=true:=by simp;omega
  obtain⟨u,rfl⟩:=ZF (by omega);refine cJ F hB af aP S0 18 [0,i,0,102] [2,2] [] [(60,.agg #[i6 (g i).st,.slice (g i).ta (g i).nt (g i).tc]),(9,i6 i),(1,.slice (some u) n cap)] (fun M=>M) 0 69 [false,false,false,true] [] [(decide ((↑i:Int)<(↑n:Int)),true)] [((↑i:Int),n)] [(2,(i,n))] fun a1 w1 S1 aG ck cV cW=>?_
  refine fT F af aG S1 61 29 #[.agg #[i6 (g i).st,.slice (g i).ta (g i).nt (g i).tc]] fun kP bK=>?_
  have Cv:=hg i (by omega);refine Ng F hB (fun z=>by obtain⟨a,z1,z2⟩:=Cv z;exact⟨a,z1,z2.cons⟩) S1.au (by omega) fun w2 h2 kX=>bK _ _ _ h2 fun a2 B3 S2 aW dV=>?_
  have e:gL g (m+1) i=if(g i).tU=false then i else gL g m (i+1):=rfl
  have hgo:gN (g i).st (g i).nt (g i).T=(g i).tU:=rfl;rw[hgo] at S2;rw[e] at K;cases hq:(g i).tU with
  |false=>
   rw[hq] at S2;rw[if_pos hq,if_pos (show i<n by omega),if_pos (show i<n by omega)] at K;refine aD F hB af aW S2 14 [] [3] [] [(5,i6 i),(4,i6 4)] (fun M=>M) 0 84 [false,false,false,true,true] [] fun a3 w3 S3 bD eu fS gD=>?_
   refine dA F S3 af aJ bD [] (.tuple #[i6 4,i6 i]) ?_;exact K w3 S3.au.tail (by omega)
  |true=>
   rw[hq] at S2;rw[if_neg (show¬(g i).tU=false by rw[hq];decide)] at K;have hw:IntKind.wrap .i64 ((i:Int)+1)=((i+1:Nat):Int):=by rw[bI (by omega) (by omega)];rfl
   refine aD F hB af aW S2 16 [] [1] [] [(9,i6 (IntKind.wrap .i64 ((↑i:Int)+1))),(1,.slice (some u) n cap)] (fun M=>M) 0 86 [false,false,false,true,false] [] fun a3 w3 S3 bD eu fS gD=>?_
   rw[hw] at S3;rw[show pc prog 17 86 [false,false,false,true,false] []=pc prog 17 51 [false,false,false] [] by kernel_rfl];exact Ga F hB af aJ hn ZF hg m (i+1) a3 w3 B3 (by omega) bD (by omega) (by omega) S3 fun w' z1 z2=>K w' z1 (by omega)
theorem Ah(F:aC prog main (DX Ok) Ψ)(hB:HB B Ok){bb:Frame}(af:bb.kind=.normal)(aJ:bb.fn=17){cf:Frame}{cs:List Frame}{M:List ah}{sL sa:Option Addr}{n cg mm cap:Nat}{L:Nat→Nat→Int}(hn:n≤6)(Wj:0<n→∃a,sL=some a)(h2:∀i,i<n→L i 0≤2):
 ∀(m i:Nat)(r:Int)(a0:Act)(w:World)(B2:Nat),i+m=n→0≤r→r≤2→a0.defers=[]→B≤B2→w.heap.size=B2→St Ok B2 65 [(7,i6 i),(6,i6 r),(0,.slice sL n cg),(1,.slice sa mm cap)] (fR (sL.getD ⟨0,0,none⟩) 6 (r8 L) n false::M) 0 a0 w→
   (∀w',bO L m i r<n→Sat Ok w' M→w.heap.size≤w'.heap.size→Ψ (G (cf.finish (.tuple #[i6 2,i6 (bO L m i r)])) cs) w')→
   (∀a' w' B',¬bO L m i r<n→a'.defers=[]→B≤B'→w.heap.size≤B'→w'.heap.size=B'→St Ok B' 65 [(50,.bool (decide ((mm:Int)>9))),(1,.slice sa mm cap)] M 0 a' w'→Ψ (G (bb.at a' (pc prog 17 42 [false,false] [])) (cf::cs)) w')→Ψ (G (bb.at a0 (pc prog 17 25 [false] [])) (cf::cs)) w
 |0,i,r,a0,w,B2,hi,Wp,hr,aP,sD,dH,S0,K,K2=>by
  have g1:decide ((i:Int)<(n:Int))=false:=by simp;omega
  refine cJ F hB af aP S0 17 [] [0] [] [(50,.bool (decide ((↑mm:Int)>9))),(1,.slice sa mm cap)] (fun M=>M) 0 42 [false,false] [] [(decide ((↑i:Int)<(↑n:Int)),false)] [] [] fun a1 w1 S1 aG ck cV cW=>?_
  exact K2 a1 w1 B2 (by show¬i<n;omega) aG sD (by omega) (by omega) ⟨S1.env,S1.au.tail,S1.sz⟩
 |m+1,i,r,a0,w,B2,hi,Wp,hr,aP,sD,dH,S0,K,K2=>by
  have g1:decide ((i:Int)<(n:Int))=true:=by simp;omega
  obtain⟨u,rfl⟩:=Wj (by omega);refine cJ F hB af aP S0 18 [0,i,0,106] [2,2] [] [(23,.agg #[i6 (L i 0),i6 (L i 1),i6 (L i 2),i6 (L i 3),i6 (L i 4),i6 (L i 5)]),(7,i6 i),(6,i6 r),(0,.slice (some u) n cg),(1,.slice sa mm cap)] (fun M=>M) 0 43 [false,true] [] [(decide ((↑i:Int)<(↑n:Int)),true)] [((↑i:Int),n)] [(6,(i,n))] fun a1 w1 S1 aG ck cV cW=>?_
  refine fT F af aG S1 24 28 #[.agg #[i6 (L i 0),i6 (L i 1),i6 (L i 2),i6 (L i 3),i6 (L i 4),i6 (L i 5)]] fun kP bK=>?_
  refine Nd F hB (L i 0) (L i 1) (L i 2) (L i 3) (L i 4) (L i 5) (h2 i (by omega)) S1.au (by omega) fun w2 qA kX=>bK _ _ _ qA fun a2 B3 S2 aW dV=>?_
  have e:bO L (m+1) i r=if 2<(if L i 0=1 then r+1 else r)∨bu (L i 0) (L i 1) (L i 2) (L i 3) (L i 4) (L i 5)=false then i else bO L m (i+1) (if L i 0=1 then r+1 else r):=rfl
  rw[e] at K K2;have hw:IntKind.wrap .i64 ((i:Int)+1)=((i+1:Nat):Int):=by rw[bI (by omega) (by omega)];rfl
  cases hq:bu (L i 0) (L i 1) (L i 2) (L i 3) (L i 4) (L i 5) with
  |false=>
   rw[hq] at S2;rw[if_pos (.inr hq)] at K;refine aD F hB af aW S2 27 [] [3,3,3,3,3,3,3,3,3] [] [(5,i6 i),(4,i6 2)] (fun M=>M) 0 71 [false,true,true] [] fun a3 w3 S3 bD eu fS gD=>?_
   refine dA F S3 af aJ bD [] (.tuple #[i6 2,i6 i]) ?_;exact K w3 (by omega) S3.au.tail (by omega)
  |true=>
   rw[hq] at S2
   by_cases kE:L i 0=1
   ·have AP:(L i 0==1)=true:=by simpa using kE
    by_cases uu:r=2
    ·subst uu
     rw[if_pos (.inl (by rw[if_pos kE];decide))] at K;refine cJ F hB af aW S2 27 [0,i,0,101] [1,1,1,2,1,1,1,1,2,3,1,3] [] [(5,i6 i),(4,i6 2)] (fun M=>M) 0 71 [false,true,true] [] [(L i 0==1,true)] [((↑i:Int),n)] [(1,(i,n))] fun a3 w3 S3 bD eu fS gD=>?_
     refine dA F S3 af aJ bD [] (.tuple #[i6 2,i6 i]) ?_;exact K w3 (by omega) S3.au.tail (by omega)
    ·have aaf:(r==2)=false:=by simpa using uu
     have LG:IntKind.wrap .i64 (r+1)=r+1:=bI (by omega) (by omega)
     have RX:¬(2<(if L i 0=1 then r+1 else r)∨bu (L i 0) (L i 1) (L i 2) (L i 3) (L i 4) (L i 5)=false):=by
      rw[if_pos kE,hq]
      rintro (z|z)
      ·omega
      ·cases z
     rw[if_neg RX,if_pos kE] at K K2;refine cJ F hB af aW S2 44 [0,i,0,101,0,i,0,101] [1,1,1,2,1,1,1,1,2,3,1,0,2,2] [] [(7,i6 (IntKind.wrap .i64 ((↑i:Int)+1))),(6,i6 (IntKind.wrap .i64 (r+1))),(37,.bool (r==2)),(36,.bool (r==2)),(34,.bool true),(35,i6 r),(33,.bool (L i 0==1)),(32,i6 (L i 0)),(31,.pointer (some (Addr.add (Addr.add u (Int.toNat (↑i:Int)*6)) 0))),(30,.pointer (some (Addr.add u (Int.toNat (↑i:Int)*6)))),(29,i6 i),(28,.slice (some u) n cg),(0,.slice (some u) n cg),(1,.slice sa mm cap)] (fun M=>M) 0 88 [false,true,false,true] [] [(L i 0==1,true),(r==2,false),(L i 0==1,true)] [((↑i:Int),n),((↑i:Int),n)] [(2,(i,n))] fun a3 w3 S3 bD eu fS gD=>?_
     rw[hw,LG] at S3;replace S3:=S3.fZ [(7,i6 ((i+1:Nat):Int)),(6,i6 (r+1)),(0,.slice (some u) n cg),(1,.slice sa mm cap)] rfl;rw[show pc prog 17 88 [false,true,false,true] []=pc prog 17 25 [false] [] by kernel_rfl];exact Ah F hB af aJ hn Wj h2 m (i+1) (r+1) a3 w3 B3 (by omega) (by omega) (by omega) bD (by omega) (by omega) S3 (fun w' z0 z1 z2=>K w' z0 z1 (by omega)) (fun a' w' B' z0 z1 z2 z3 z4 z5=>K2 a' w' B' z0 z1 z2 (by omega) z4 z5)
   ·have AP:(L i 0==1)=false:=by simpa using kE
    have RX:¬(2<(if L i 0=1 then r+1 else r)∨bu (L i 0) (L i 1) (L i 2) (L i 3) (L i 4) (L i 5)=false):=by
     rw[if_neg kE,hq]
     rintro (z|z)
     ·omega
     ·cases z
    rw[if_neg RX,if_neg kE] at K K2;refine cJ F hB af aW S2 40 [0,i,0,101,0,i,0,101] [1,1,1,2,1,1,1,1,0,1,1,1,2,0] [] [(7,i6 (IntKind.wrap .i64 ((↑i:Int)+1))),(37,.bool false),(36,.tuple #[]),(34,.bool false),(35,.tuple #[]),(33,.bool (L i 0==1)),(32,i6 (L i 0)),(31,.pointer (some (Addr.add (Addr.add u (Int.toNat (↑i:Int)*6)) 0))),(30,.pointer (some (Addr.add u (Int.toNat (↑i:Int)*6)))),(29,i6 i),(28,.slice (some u) n cg),(6,i6 r),(0,.slice (some u) n cg),(1,.slice sa mm cap)] (fun M=>M) 0 84 [false,true,false,false] [] [(L i 0==1,false),(L i 0==1,false)] [((↑i:Int),n),((↑i:Int),n)] [(2,(i,n))] fun a3 w3 S3 bD eu fS gD=>?_
    rw[hw] at S3;replace S3:=S3.fZ [(7,i6 ((i+1:Nat):Int)),(6,i6 r),(0,.slice (some u) n cg),(1,.slice sa mm cap)] rfl;rw[show pc prog 17 84 [false,true,false,false] []=pc prog 17 25 [false] [] by kernel_rfl];exact Ah F hB af aJ hn Wj h2 m (i+1) r a3 w3 B3 (by omega) (by omega) (by omega) bD (by omega) (by omega) S3 (fun w' z0 z1 z2=>K w' z0 z1 (by omega)) (fun a' w' B' z0 z1 z2 z3 z4 z5=>K2 a' w' B' z0 z1 z2 (by omega) z4 z5)
theorem F9(F:aC prog main (DX Ok) Ψ)(hB:HB B Ok){cf:Frame}{cs:List Frame}{w:World}{M:List ah}{sL sa:Option Addr}{n cg m cap:Nat}{L:Nat→Nat→Int}{g:Nat→Cl}(h2:∀i,i<n→L i 0≤2)(hl:0<n→∃a,sL=some a∧Has M (fR a 6 (r8 L) n false))(hc:0<m→∃a,sa=some a∧Has M (fR a 2 (fun j=>[i6 (g j).st,.slice (g j).ta (g j).nt (g j).tc]) m false))(hg:∀j,j<m→0<(g j).nt→∃a,(g j).ta=some a∧Has M (fR a 3 (fun i=>[i6 ((g j).T i 0),i6 ((g j).T i 1),i6 ((g j).T i 2)]) (g j).nt false))(hS:Sat Ok w M)(ey:B≤w.heap.size)(K:∀w',Sat Ok w' M→w.heap.size≤w'.heap.size→Ψ (G (cf.finish (.tuple #[i6 (iK n L m g).1,i6 (iK n L m g).2])) cs) w'):Ψ (G (Frame.enter prog 17 #[.slice sL n cg,.slice sa m cap] .normal) (cf::cs)) w:=by
 by_cases h6:6<n
 ·have U0:decide ((n:Int)>6)=true:=by simp;omega
  refine iT f17 func17 _ rfl 65 (by kernel_rfl) hS fun bb a0 B1 hn af aJ aP S0 dH=>?_
  refine cJ F hB af aP S0 18 [] [2] [] [(5,i6 0),(4,i6 1)] (fun M=>M) 0 18 [true] [] [(decide ((↑n:Int)>6),true)] [] [] fun a1 w1 S1 aG ck cV cW=>?_
  refine dA F S1 af aJ aG [] (.tuple #[i6 1,i6 0]) ?_;have e:iK n L m g=(1,0):=by unfold iK;rw[if_pos h6]
  rw[e] at K;exact K w1 S1.au (by omega)
 ·have U0:decide ((n:Int)>6)=false:=by simp;omega
  have sC:Sat Ok w (fR (sL.getD ⟨0,0,none⟩) 6 (r8 L) n false::M):=by
   by_cases z:0<n
   ·obtain⟨u,rfl,hh⟩:=hl z;exact hS.get hh
   ·exact hS.iV (by show n=0;omega) rfl
  clear hS;have hS:=sC;clear sC;refine iT f17 func17 _ rfl 65 (by kernel_rfl) hS fun bb a0 B1 hn af aJ aP S0 dH=>?_
  refine cJ F hB af aP S0 25 [] [0] [] [(7,i6 0),(6,i6 0),(0,.slice sL n cg),(1,.slice sa m cap)] (fun M=>M) 0 25 [false] [] [(decide ((↑n:Int)>6),false)] [] [] fun a1 w1 S1 aG ck cV cW=>?_
  replace S1:=S1.fZ [(7,i6 ((0:Nat):Int)),(6,i6 0),(0,.slice sL n cg),(1,.slice sa m cap)] rfl;refine Ah F hB af aJ (by omega) (fun z=>by obtain⟨u,z1,_⟩:=hl z;exact⟨u,z1⟩) h2 n 0 0 a1 w1 B1 (Nat.zero_add _) (by omega) (by omega) aG (by omega) (by omega) S1 (fun w2 hb h3 h4=>?_) (fun a2 w2 B2 hb aW h3 h4 dV S2=>?_)
  ·have e:iK n L m g=(2,((bO L n 0 0:Nat):Int)):=by unfold iK;rw[if_neg h6,if_pos hb]
   rw[e] at K;exact K w2 h3 (by omega)
  ·by_cases h9:9<m
   ·have h9':decide ((m:Int)>9)=true:=by simp;omega
    refine cJ F hB af aW S2 6 [] [2] [] [(5,i6 0),(4,i6 3)] (fun M=>M) 0 48 [false,false,true] [] [(decide ((↑m:Int)>9),true)] [] [] fun a3 w3 S3 bD eu fS gD=>?_
    refine dA F S3 af aJ bD [] (.tuple #[i6 3,i6 0]) ?_;have e:iK n L m g=(3,0):=by unfold iK;rw[if_neg h6,if_neg hb,if_pos h9]
    rw[e] at K;exact K w3 S3.au (by omega)
   ·have h9':decide ((m:Int)>9)=false:=by simp;omega
    refine cJ F hB af aW S2 9 [] [0] [] [(9,i6 0),(1,.slice sa m cap)] (fun M=>M) 0 51 [false,false,false] [] [(decide ((↑m:Int)>9),false)] [] [] fun a3 w3 S3 bD eu fS gD=>?_
    have h3:Sat Ok w3 (fR (sa.getD ⟨0,0,none⟩) 2 (fun j=>[i6 (g j).st,.slice (g j).ta (g j).nt (g j).tc]) m false::M):=by
     by_cases z:0<m
     ·obtain⟨u,rfl,hh⟩:=hc z;exact S3.au.get hh
     ·exact S3.au.iV (by show m=0;omega) rfl
    refine Ga F hB af aJ (by omega) (fun z=>by obtain⟨u,z1,_⟩:=hc z;exact⟨u,z1⟩) hg m 0 a3 w3 B2 (Nat.zero_add _) bD (by omega) (by omega) ⟨S3.env,h3,S3.sz⟩ fun w' z1 z2=>?_
    by_cases E6:gL g m 0<m
    ·have e:iK n L m g=(4,((gL g m 0:Nat):Int)):=by unfold iK;rw[if_neg h6,if_neg hb,if_neg h9,if_pos E6]
     rw[e] at K;rw[if_pos E6,if_pos E6];exact K w' z1 (by omega)
    ·have e:iK n L m g=(0,0):=by unfold iK;rw[if_neg h6,if_neg hb,if_neg h9,if_neg E6]
     rw[e] at K;rw[if_neg E6,if_neg E6];exact K w' z1 (by omega)
end
end Go.Proofs.YtobagnjnbmgidaaGreatDoor
