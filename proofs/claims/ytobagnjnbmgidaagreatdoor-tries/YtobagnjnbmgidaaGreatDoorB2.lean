import Derived.Test.YtobagnjnbmgidaaGreatDoorB1
import Derived.Test.YtobagnjnbmgidaaGreatDoorD12
set_option linter.all false
set_option maxHeartbeats 8000000
set_option maxRecDepth 100000
namespace Go.Proofs.YtobagnjnbmgidaaGreatDoor
open Go.Conc Go.RowKit Tryz
section
variable{main:Bool}{Ok:Addr→Bool→Prop}
theorem Aq(J:Nat)(sa:Option Addr)(n cap:Nat)(w0:World)(h9:n≤9):
 cj prog main (DX Ok) 47 #[.slice sa n cap,.pointer (some ⟨J,0,none⟩)] w0 fun v w'=>∃B HD,v=.iface 138 (.pointer (some ⟨B,0,none⟩))∧Kp [] w0 w'∧w0.heap.size≤HD∧HD<B∧B<w'.heap.size∧w'.cell? ⟨B,0,none⟩=some .nilIface∧Uc w' B HD J sa n cap:=by
 intro Ψ F c cs hc;rw[enter_at _ func47 rfl];simp only[ntmps47,mV,Nat.reduceAdd,Nat.reduceSub];refine F.bh ?_;refine F.ak ?_;try walk_nrm
 refine F.cI ?_;iterate 5 (refine F.ak ?_;try walk_nrm)
 refine F.op rfl rfl (by decide) (fun d K hK=>?_);go_simp;rw[VJ n h9];go_simp;rw[alloc_at'];refine hK _ _ ⟨DX.alloc _ _ (fun e he=>?_),?_⟩
 ·have hm:=mem_listed he
  simp[go_sem,VJ n h9,Q5 n h9] at hm
 clear hK K d;try walk_nrm
 generalize bJ:World.alloc w0 _=w1;generalize cP:(World.heap w0).size=n1;have v8:=g9 bJ cP;have hz:∀j,j<n→w1.cell? ⟨n1,j,none⟩=some (.int .i64 0)∧w1.frozen? ⟨n1,j,none⟩=false:=fun j hj=>⟨aI (i:=j) bJ cP (by simpa using zQ n j hj),aV bJ cP j⟩
 have kp:Kp [] w0 w1:=Kp.alloc bJ;refine F.ak ?_;try walk_nrm
 refine F.op rfl rfl (by decide) (fun d K hK=>?_);go_simp;rw[alloc_at'];refine hK _ _ ⟨DX.alloc _ _ (fun e he=>?_),?_⟩
 ·have hm:=mem_listed he
  simp[go_sem] at hm
 clear hK K d;try walk_nrm
 generalize c7:World.alloc w1 _=w2;generalize mq:(World.heap w1).size=n2;have Io:=g9 c7 mq;have pJ:=aI (i:=0) c7 mq rfl;have zb0:=aV c7 mq 0;have jM:=aI (i:=1) c7 mq rfl;have zb1:=aV c7 mq 1;have fK:=aI (i:=2) c7 mq rfl;have zb2:=aV c7 mq 2;have uw:=aI (i:=3) c7 mq rfl;have zb3:=aV c7 mq 3;have L8:=aI (i:=4) c7 mq rfl;have zb4:=aV c7 mq 4;try simp only[List.getElem_toArray,List.getElem_cons_zero,List.getElem_cons_succ] at pJ jM fK uw L8
 replace kp:=kp.uA c7;iterate 2 (refine F.oq rfl rfl rfl (fun _=>by first|(simp[go_sem];done)|simp[go_sem,Instr.makeInterface,Instr.makeFunc, *]) fun d K hK=>?_;go_simp;refine hK _ ?_;clear hK K d;try walk_nrm)
 refine F.re ?_;refine F.ctl (fun _=>stepG_ret') ?_;refine F.aF rfl rfl func47 (resultsC_tmp (by rfl) _) ?_;have k2:Kp [] w1 w2:=Kp.alloc c7;exact hc _ _ ⟨n2,n1,rfl,kp,by omega,by omega,aq pJ,pJ,jM,fK,uw,L8,fun j hj=>⟨k2.cell _ _ (by simp) (hz j hj).1,(k2.OG _ _ (by simp) (hz j hj).1).trans (hz j hj).2⟩⟩
end
section
variable{main:Bool}{B:Nat}{Ok:Addr→Bool→Prop}{Ψ:Goroutine→World→Prop}{w w':World}{M:List ah}
theorem Sat.xA(h:Sat Ok w M)(k:Kp [] w w' []){N:List ah}(h1:∀r∈N,um Ok w' r)(h2:N.Pairwise Dj)(h3:∀r∈N,∀j,r.has j→w.heap.size≤(r.ad j).block):Sat Ok w' (N++M):=by
 have hM:=sat_iff.1 (h.JR k);rw[sat_iff];refine⟨fun r hr=>?_,List.pairwise_append.2 ⟨h2,hM.2,fun r hr r' lD _ j j' hj bP e=>?_⟩⟩
 ·rcases List.mem_append.1 hr with z|z
  ·exact h1 r z
  ·exact hM.1 r z
 ·have q1:=h3 r hr j hj
  have q2:=h.blk lD bP;rw[e] at q1;omega
theorem Sat.cut{b:Nat}{xs ys:List Value}(h:Sat Ok w (bR b (xs++ys)::M)):Sat Ok w (oR b 0 xs false::oR b xs.length ys false::M):=by
 rw[sat_iff] at h ⊢;obtain⟨h1,h2⟩:=h;have H:=h1 _ (List.mem_cons_self ..);have hd:=(List.pairwise_cons.1 h2).1
 have gg:∀(b o:Nat)(zs:List Value)(wr:Bool)(j:Ix),j.2<zs.length→(oR b o zs wr).get j=zs.getD j.2 undef:=fun b o zs wr j hj=>by
  cases zs with
  |nil=>cases hj
  |cons z zs=>rfl
 have gb:∀(j:Ix),j.2<(xs++ys).length→(bR b (xs++ys)).get j=(xs++ys).getD j.2 undef:=fun j hj=>by
  generalize hz:xs++ys=zs at hj;cases zs with
  |nil=>cases hj
  |cons z zs=>rfl
 have g1:∀j:Ix,(oR b 0 xs false).has j→(bR b (xs++ys)).has j∧(oR b 0 xs false).ad j=(bR b (xs++ys)).ad j∧(oR b 0 xs false).get j=(bR b (xs++ys)).get j:=fun j hj=>by
  have q1:j.1<1:=hj.1;have q2:j.2<xs.length:=hj.2;have q3:j.2<(xs++ys).length:=by rw[List.length_append];omega
  refine⟨⟨q1,q3⟩,by show(⟨b,0+j.2,none⟩:Addr)=⟨b,j.2,none⟩;rw[Nat.zero_add],?_⟩;rw[gg _ _ _ _ _ q2,gb j q3];simp[List.getD,List.getElem?_append_left q2]
 have g2:∀j:Ix,(oR b xs.length ys false).has j→(bR b (xs++ys)).has (j.1,xs.length+j.2)∧(oR b xs.length ys false).ad j=(bR b (xs++ys)).ad (j.1,xs.length+j.2)∧(oR b xs.length ys false).get j=(bR b (xs++ys)).get (j.1,xs.length+j.2):=fun j hj=>by
  have q1:j.1<1:=hj.1;have q2:j.2<ys.length:=hj.2;have q3:xs.length+j.2<(xs++ys).length:=by rw[List.length_append];omega
  refine⟨⟨q1,q3⟩,rfl,?_⟩;rw[gg _ _ _ _ _ q2,gb (j.1,xs.length+j.2) q3];simp[List.getD,List.getElem?_append_right]
 refine⟨fun r hr=>?_,List.pairwise_cons.2 ⟨fun r hr hw j j' hj bP e=>?_,List.pairwise_cons.2 ⟨fun r hr hw j j' hj bP e=>?_,(List.pairwise_cons.1 h2).2⟩⟩⟩
 ·rcases List.mem_cons.1 hr with rfl|hr
  ·exact⟨fun j hj=>by rw[(g1 j hj).2.1,(g1 j hj).2.2];exact H.val j (g1 j hj).1,fun j hj=>⟨by rw[(g1 j hj).2.1];exact(H.ok j (g1 j hj).1).1,fun z=>(by cases z)⟩,fun z=>(by cases z),fun g e n z=>(by cases z)⟩
  ·rcases List.mem_cons.1 hr with rfl|hr
   ·exact⟨fun j hj=>by rw[(g2 j hj).2.1,(g2 j hj).2.2];exact H.val _ (g2 j hj).1,fun j hj=>⟨by rw[(g2 j hj).2.1];exact(H.ok _ (g2 j hj).1).1,fun z=>(by cases z)⟩,fun z=>(by cases z),fun g e n z=>(by cases z)⟩
   ·exact h1 r (List.mem_cons_of_mem _ hr)
 ·rcases List.mem_cons.1 hr with rfl|hr
  ·rcases hw with z|z<;>cases z
  ·rw[(g1 j hj).2.1] at e
   exact hd r hr (.inl rfl) j j' (g1 j hj).1 bP e
 ·rw[(g2 j hj).2.1] at e
  exact hd r hr (.inl rfl) _ j' (g2 j hj).1 bP e
theorem nZ{b o:Nat}{vs:List Value}(h:∀j,j<vs.length→w.cell? ⟨b,o+j,none⟩=some (vs.getD j undef))(ho:∀j,j<vs.length→Ok ⟨b,o+j,none⟩ false):um Ok w (oR b o vs false):=by
 refine⟨fun j hj=>?_,fun j hj=>⟨ho j.2 hj.2,fun z=>(by cases z)⟩,fun z=>(by cases z),fun g e n z=>(by cases z)⟩;have q2:j.2<vs.length:=hj.2;have:=h j.2 q2;cases vs with
 |nil=>cases q2
 |cons z zs=>exact this
theorem Ac{b k n:Nat}{f:Nat→List Value}(h:∀j,j<n→∀i,i<k→w.cell? ⟨b,j*k+i,none⟩=some ((f j).getD i undef)∧w.frozen? ⟨b,j*k+i,none⟩=false)(ho:∀(a:Addr)(wr:Bool),a.block=b→Ok a wr):um Ok w (fR ⟨b,0,none⟩ k f n true):=by
 have ea:∀j:Ix,(fR ⟨b,0,none⟩ k f n true).ad j=⟨b,j.1*k+j.2,none⟩:=fun j=>by show((⟨b,0,none⟩:Addr).add (j.1*k)).add j.2=_;rw[add_add]
 refine⟨fun j hj=>by rw[ea];exact(h j.1 hj.1 j.2 hj.2).1,fun j hj=>?_,fun _ j j' hj bP e=>?_,fun g e n z=>(by cases z)⟩
 ·rw[ea];exact⟨ho _ _ rfl,fun _=>⟨ho _ _ rfl,(h j.1 hj.1 j.2 hj.2).2⟩⟩
 ·rw[ea,ea] at e
  have q1:j.2<k:=hj.2;have q2:j'.2<k:=bP.2;have e':j.1*k+j.2=j'.1*k+j'.2:=by have:=congrArg Addr.off e;exact this
  have d1:(j.1*k+j.2) / k=j.1:=by rw[Nat.mul_comm,Nat.mul_add_div (by omega),Nat.div_eq_of_lt q1];rfl
  have d2:(j'.1*k+j'.2) / k=j'.1:=by rw[Nat.mul_comm,Nat.mul_add_div (by omega),Nat.div_eq_of_lt q2];rfl
  have d3:j.1=j'.1:=by rw[←d1,←d2,e']
  have d4:j.2=j'.2:=by rw[d3] at e';omega
  exact Prod.ext d3 d4
theorem O5(F:aC prog main (DX Ok) Ψ)(hB:HB B Ok){J n cap:Nat}{sa:Option Addr}{cf:Frame}{cs:List Frame}(hS:Sat Ok w M)(ey:B≤w.heap.size)(h9:n≤9)(K:∀lb HD w',Sat Ok w' (oR lb 0 [.nilIface,i6 (-1),ptr J] false::oR lb 3 [.slice sa n cap,.slice (some ⟨HD,0,none⟩) n n] false::fR ⟨HD,0,none⟩ 1 (fun _=>[i6 0]) n true::M)→w.heap.size≤w'.heap.size→Kp [] w w'→Ψ (G (cf.finish (.iface 138 (ptr lb))) cs) w'):
 Ψ (G (Frame.enter prog 47 #[.slice sa n cap,ptr J] .normal) (cf::cs)) w:=by
 refine Aq J sa n cap w h9 _ F _ _ (fun v w1 hp=>?_);obtain⟨b,HD,rfl,k1,h1,h2,h3,h0,h4⟩:=hp;refine K b HD w1 (hS.xA k1 (N:=[oR b 0 [.nilIface,i6 (-1),ptr J] false,oR b 3 [.slice sa n cap,.slice (some ⟨HD,0,none⟩) n n] false,fR ⟨HD,0,none⟩ 1 (fun _=>[i6 0]) n true]) (fun r hr=>?_) ?_ (fun r hr j hj=>?_)) k1.size k1
 ·simp only[List.mem_cons,List.not_mem_nil,or_false] at hr
  rcases hr with rfl|rfl|rfl
  ·refine nZ (fun j hj=>?_) (fun j hj=>hB _ _ (by show B≤b;omega))
   match j,hj with
   |0,_=>exact h0
   |1,_=>exact h4.b1
   |2,_=>exact h4.b2
  ·refine nZ (fun j hj=>?_) (fun j hj=>hB _ _ (by show B≤b;omega))
   match j,hj with
   |0,_=>exact h4.b3
   |1,_=>exact h4.b4
  ·refine Ac (fun j hj i hi=>?_) (fun a wr ha=>hB _ _ (by omega))
   have:i=0:=by omega
   subst this;have:=h4.h j hj;simp only[Nat.mul_one,Nat.add_zero];exact this
 ·have:∀(o:Nat)(vs:List Value),Dj (oR b o vs false) (fR ⟨HD,0,none⟩ 1 (fun _=>[i6 0]) n true):=fun o vs _ j j' hj bP e=>by
   have e2:(⟨b,o+j.2,none⟩:Addr)=((⟨HD,0,none⟩:Addr).add (j'.1*1)).add j'.2:=e;rw[add_add] at e2;have e3:b=HD:=congrArg Addr.block e2;omega
  refine List.pairwise_cons.2 ⟨fun r hr=>?_,List.pairwise_cons.2 ⟨fun r hr=>?_,List.pairwise_cons.2 ⟨fun r hr=>(by cases hr),List.Pairwise.nil⟩⟩⟩
  ·simp only[List.mem_cons,List.not_mem_nil,or_false] at hr
   rcases hr with rfl|rfl
   ·intro hw;rcases hw with z|z<;>cases z
   ·exact this _ _
  ·simp only[List.mem_cons,List.not_mem_nil,or_false] at hr
   subst hr;exact this _ _
 ·simp only[List.mem_cons,List.not_mem_nil,or_false] at hr
  rcases hr with rfl|rfl|rfl
  ·show w.heap.size≤b;omega
  ·show w.heap.size≤b;omega
  ·show w.heap.size≤(((⟨HD,0,none⟩:Addr).add (j.1*1)).add j.2).block
   rw[add_add];exact h1
end
def wL(x:Ff):List Value:=[i6 x.k,i6 x.a,i6 x.b,i6 x.c,i6 x.d,i6 x.e]
section
variable{main:Bool}{B:Nat}{Ok:Addr→Bool→Prop}{Ψ:Goroutine→World→Prop}{w w':World}{M:List ah}
theorem Q9(F:aC prog main (DX Ok) Ψ)(hB:HB B Ok){J ty b:Nat}{x:Ff}{num:Int}{cf:Frame}{cs:List Frame}(hk:x.k=1∨x.k=2)(hS:Sat Ok w M)(ey:B≤w.heap.size)(K:∀lb w',w.heap.size≤lb→Sat Ok w' (oR lb 0 [.iface ty (ptr b),i6 num,ptr J] false::oR lb 3 (if x.k=1 then[i6 x.a,i6 x.b,i6 x.c,i6 x.d] else[]) false::M)→w.heap.size≤w'.heap.size→Ψ (G (cf.finish (if x.k=1 then .iface 141 (ptr lb) else .iface 144 (ptr lb))) cs) w'):
 Ψ (G (Frame.enter prog 48 #[.agg #[i6 x.k,i6 x.a,i6 x.b,i6 x.c,i6 x.d,i6 x.e],.agg #[.iface ty (ptr b),i6 num,ptr J]] .normal) (cf::cs)) w:=by
 obtain⟨xk,xa,xb,xc,xd,xe⟩:=x
 simp only at hk K ⊢
 rcases hk with rfl|rfl
 ·simp only[if_true] at K
  refine iT f48 func48 _ rfl 69 (by kernel_rfl) hS fun bb a0 B1 hn af aJ aP S0 dH=>?_
  refine aD F hB af aP S0 35 [1,0,0,1,0,0,0,3,1,0,1,4] [3] [] [(4,.iface 141 (ptr (B1+2)))] (fun M=>bR (B1+2) [.iface ty (ptr b),i6 num,ptr J,i6 xa,i6 xb,i6 xc,i6 xd]::(bR (B1+1) [.iface ty (ptr b),i6 num,ptr J]::(bR (B1) [i6 1,i6 xa,i6 xb,i6 xc,i6 xd,i6 xe]::(M)))) 3 35 [true] [] fun a1 w1 S1 aG ck cV cW=>?_
  refine dA F S1 af aJ aG [] (.iface 141 (ptr (B1+2))) ?_;have h1:=Sat.cut (xs:=[.iface ty (ptr b),i6 num,ptr J]) (ys:=[i6 xa,i6 xb,i6 xc,i6 xd]) S1.au;exact K (B1+2) w1 (by omega) (Sat.OP (A:=[_,_]) (X:=[_,_]) h1) (by omega)
 ·simp only[show¬((2:Int)=1) by decide,if_false] at K
  refine iT f48 func48 _ rfl 69 (by kernel_rfl) hS fun bb a0 B1 hn af aJ aP S0 dH=>?_
  refine aD F hB af aP S0 33 [1,0,0,1,0,0,0,3] [1,3] [] [(4,.iface 144 (ptr (B1+2)))] (fun M=>bR (B1+2) [.iface ty (ptr b),i6 num,ptr J]::(bR (B1+1) [.iface ty (ptr b),i6 num,ptr J]::(bR (B1) [i6 2,i6 xa,i6 xb,i6 xc,i6 xd,i6 xe]::(M)))) 3 33 [false,true] [] fun a1 w1 S1 aG ck cV cW=>?_
  refine dA F S1 af aJ aG [] (.iface 144 (ptr (B1+2))) ?_;have h1:=Sat.cut (xs:=[.iface ty (ptr b),i6 num,ptr J]) (ys:=[]) S1.au;exact K (B1+2) w1 (by omega) (Sat.OP (A:=[_,_]) (X:=[_,_]) h1) (by omega)
def tG(V:Ev0)(lb:Nat→Nat)(j:Nat):Value:=if j=V.nl then .iface 138 (ptr (lb j)) else if(V.ly j).k=1 then .iface 141 (ptr (lb j)) else .iface 144 (ptr (lb j))
theorem wK(V:Ev0)(lb:Nat→Nat)(j:Nat):∃ty,tG V lb j=.iface ty (ptr (lb j)):=by
 unfold tG;split
 ·exact⟨_,rfl⟩
 ·split
  ·exact⟨_,rfl⟩
  ·exact⟨_,rfl⟩
structure Bp(V:Ev0)(lb:Nat→Nat)(J j:Nat)(C:List ah):Prop where
 lay:∀i,j≤i→i<V.nl→Has C (Fb (lb i) (tG V lb (i+1)) i J)
 Ip:∀i,j≤i→i<V.nl→(V.ly i).k=1→Has C (oR (lb i) 3 [i6 (V.ly i).a,i6 (V.ly i).b,i6 (V.ly i).c,i6 (V.ly i).d] false)
theorem Bx(F:aC prog main (DX Ok) Ψ)(hB:HB B Ok){bb:Frame}(af:bb.kind=.normal)(aJ:bb.fn=34){cf:Frame}{cs:List Frame}{V:Ev0}{J cap:Nat}{sL:Option Addr}(Eb:V.nl≤6)(LW:∀k,k<V.nl→(V.ly k).k=1∨(V.ly k).k=2){M:List ah}(hL:0<V.nl→∃la,sL=some la∧Has M (fR la 6 (fun i=>wL (V.ly i)) V.nl false)):
 ∀(j:Nat)(jj:Int)(lb:Nat→Nat)(X:List ah)(a0:Act)(w:World)(B1:Nat),jj=(j:Int)-1→j≤V.nl→a0.defers=[]→B≤B1→w.heap.size=B1→Flat X→Bp V lb J j (X++M)→
   St Ok B1 29 [(8,i6 jj),(7,tG V lb j),(0,.slice sL V.nl cap),(2,ptr J)] (X++M) 0 a0 w→
   (∀Ir X' w',Flat X'→Bp V Ir J 0 (X'++M)→Sat Ok w' (X'++M)→(∀i,j≤i→Ir i=lb i)→(∀r,Has X r→Has X' r)→w.heap.size≤w'.heap.size→Ψ (G (cf.finish (tG V Ir 0)) cs) w')→
   Ψ (G (bb.at a0 (pc prog 34 21 [] [])) (cf::cs)) w
 |0,jj,lb,X,a0,w,B1,hjj,hj,aP,hle,dH,zI,hI,S0,K=>by
  obtain⟨ty,qV⟩:=wK V lb 0;rw[qV] at S0;have:jj=-1:=by omega
  subst this;refine aD F hB af aP S0 13 [] [1] [] [(6,.iface ty (ptr (lb 0)))] (fun M=>M) 0 34 [false] [] fun a1 w1 S1 aG ck cV cW=>?_
  refine dA F S1 af aJ aG [] (.iface ty (ptr (lb 0))) ?_;have:=K lb X w1 zI hI S1.au (fun _ _=>rfl) (fun _ h=>h) (by omega);rw[qV] at this;exact this
 |j+1,jj,lb,X,a0,w,B1,hjj,hj,aP,hle,dH,zI,hI,S0,K=>by
  obtain⟨ty,qV⟩:=wK V lb (j+1);rw[qV] at S0;have:jj=(j:Int):=by omega
  subst this;obtain⟨la,AO,hHL⟩:=hL (by omega);have LG:IntKind.wrap .i64 ((j:Int)-1)=(j:Int)-1:=bI (by omega) (by omega);have Qh:=S0.get (hHL.app X);subst AO;have hjb:(j:Int)<(V.nl:Int):=by omega
  have WX:decide ((0:Int)≤(j:Int))=true:=by simp
  clear S0;have S0:=Qh;clear Qh;refine cJ F hB af aP S0 19 [0,j,0,106] [3,2] [] [(26,.agg #[.iface ty (.pointer (some (Addr.mk (lb (j+1)) 0 none))),i6 j,ptr J]),(22,.agg #[i6 (V.ly j).k,i6 (V.ly j).a,i6 (V.ly j).b,i6 (V.ly j).c,i6 (V.ly j).d,i6 (V.ly j).e]),(8,i6 j),(0,.slice (some la) V.nl cap),(2,ptr J)] (fun M=>M) 0 40 [true] [] [] [((↑j:Int),V.nl)] [(6,(j,V.nl))] fun a1 w1 S1 aG ck cV cW=>?_
  refine fT F af aG S1 27 48 #[.agg #[i6 (V.ly j).k,i6 (V.ly j).a,i6 (V.ly j).b,i6 (V.ly j).c,i6 (V.ly j).d,i6 (V.ly j).e],.agg #[.iface ty (.pointer (some (Addr.mk (lb (j+1)) 0 none))),i6 j,ptr J]] fun kP bK=>?_
  refine Q9 F (fun a wr z=>hB a wr (by omega)) (x:=V.ly j) (num:=j) (ty:=ty) (b:=lb (j+1)) (LW j (by omega)) S1.au (Nat.le_refl _) fun xV w2 hlb h2 kX=>bK _ _ _ h2 fun a2 B2 S2 aW dV=>?_
  obtain⟨Ui,e2⟩:∃Ui,(if(V.ly j).k=1 then Value.iface 141 (ptr xV) else .iface 144 (ptr xV))=.iface Ui (ptr xV):=by
   split
   ·exact⟨_,rfl⟩
   ·exact⟨_,rfl⟩
  rw[e2] at S2;generalize UU:oR xV 0 [.iface ty (ptr (lb (j+1))),i6 (j:Int),ptr J] false::oR xV 3 (if(V.ly j).k=1 then[i6 (V.ly j).a,i6 (V.ly j).b,i6 (V.ly j).c,i6 (V.ly j).d] else[]) false::fR la 6 (fun i=>wL (V.ly i)) V.nl false::(X++M)=M2 at S2;refine aD F hB af aW S2 9 [] [] [] [(8,i6 (IntKind.wrap .i64 ((↑j:Int)-1))),(7,.iface Ui (ptr xV)),(0,.slice (some la) V.nl cap),(2,ptr J)] (fun M=>M) 0 50 [true] [] fun a3 w3 S3 bD eu fS gD=>?_
  rw[show pc prog 34 50 [true] []=pc prog 34 21 [] [] by kernel_rfl];rw[LG] at S3;subst UU;have WV:j≠V.nl:=by omega
  have ZK:∀i,i≠j→tG V (upd lb j xV) i=tG V lb i:=fun i hi=>by
   unfold tG upd;rw[if_neg hi]
  have Sb:tG V (upd lb j xV) j=.iface Ui (ptr xV):=by
   unfold tG upd;rw[if_neg WV,if_pos rfl];exact e2
  rw[←Sb] at S3;refine Bx F hB af aJ Eb LW hL j ((j:Int)-1) (upd lb j xV) (oR xV 0 [.iface ty (ptr (lb (j+1))),i6 (j:Int),ptr J] false::oR xV 3 (if(V.ly j).k=1 then[i6 (V.ly j).a,i6 (V.ly j).b,i6 (V.ly j).c,i6 (V.ly j).d] else[]) false::fR la 6 (fun i=>wL (V.ly i)) V.nl false::X) a3 w3 _ rfl (by omega) bD (by omega) eu (((zI.cons rfl).cons rfl).cons rfl) ⟨fun i h1 h2=>?_,fun i h1 h2 h3=>?_⟩ S3 fun Ir X' w' g1 g2 g3 g4 g6 g5=>K Ir X' w' g1 g2 g3 (fun i hi=>?_) (fun r hr=>g6 r hr.cons.cons.cons) (by omega)
  ·by_cases e:i=j
   ·subst e
    rw[ZK (i+1) (by omega),qV];have:upd lb i xV i=xV:=by unfold upd;rw[if_pos rfl]
    rw[this];exact⟨rfl,0,rfl⟩
   ·rw[ZK (i+1) (by omega)]
    have:upd lb j xV i=lb i:=by unfold upd;rw[if_neg e]
    rw[this];exact(hI.lay i (by omega) h2).cons.cons.cons
  ·by_cases e:i=j
   ·subst e
    have:upd lb i xV i=xV:=by unfold upd;rw[if_pos rfl]
    rw[this,if_pos h3];exact⟨rfl,1,rfl⟩
   ·have:upd lb j xV i=lb i:=by unfold upd;rw[if_neg e]
    rw[this];exact(hI.Ip i (by omega) h2 h3).cons.cons.cons
  ·rw[g4 i (by omega)];unfold upd;rw[if_neg (by omega)]
theorem Ji(F:aC prog main (DX Ok) Ψ)(hB:HB B Ok){cf:Frame}{cs:List Frame}{V:Ev0}{J cap n Ia:Nat}{sL sa:Option Addr}(Eb:V.nl≤6)(LW:∀k,k<V.nl→(V.ly k).k=1∨(V.ly k).k=2)(hL:0<V.nl→∃la,sL=some la∧Has M (fR la 6 (fun i=>wL (V.ly i)) V.nl false))(hS:Sat Ok w M)(ey:B≤w.heap.size)(h9:n≤9)(K:∀lb HD X w',Flat X→Bp V lb J 0 (X++(fR ⟨HD,0,none⟩ 1 (fun _=>[i6 0]) n true::M))→Has X (Fb (lb V.nl) .nilIface (-1) J)→Has X (oR (lb V.nl) 3 [.slice sa n Ia,.slice (some ⟨HD,0,none⟩) n n] false)→Sat Ok w' (X++(fR ⟨HD,0,none⟩ 1 (fun _=>[i6 0]) n true::M))→w.heap.size≤w'.heap.size→Ψ (G (cf.finish (tG V lb 0)) cs) w'):
 Ψ (G (Frame.enter prog 34 #[.slice sL V.nl cap,.slice sa n Ia,ptr J] .normal) (cf::cs)) w:=by
 refine iT f34 func34 _ rfl 29 (by kernel_rfl) hS fun bb a0 B1 hn af aJ aP S0 dH=>?_
 refine aD F hB af aP S0 8 [] [] [] [(10,ptr J),(9,.slice sa n Ia),(0,.slice sL V.nl cap),(2,ptr J)] (fun M=>M) 0 8 [] [] fun a1 w1 S1 aG ck cV cW=>?_
 refine fT F af aG S1 11 47 #[.slice sa n Ia,ptr J] fun kP bK=>?_
 refine O5 F hB S1.au (by omega) h9 fun lb HD w2 h2 kX _=>bK _ _ _ h2 fun a2 B2 S2 aW dV=>?_
 have LG:IntKind.wrap .i64 ((V.nl:Int)-1)=(V.nl:Int)-1:=bI (by omega) (by omega);refine aD F hB af aW S2 12 [] [] [] [(8,i6 (IntKind.wrap .i64 ((↑V.nl:Int)-1))),(7,.iface 138 (ptr lb)),(0,.slice sL V.nl cap),(2,ptr J)] (fun M=>M) 0 21 [] [] fun a3 w3 S3 bD eu fS gD=>?_
 rw[LG] at S3;have WT:tG V (fun _=>lb) V.nl=.iface 138 (ptr lb):=by unfold tG;rw[if_pos rfl]
 rw[←WT] at S3;refine Bx F hB af aJ Eb LW (M:=fR ⟨HD,0,none⟩ 1 (fun _=>[i6 0]) n true::M) (fun z=>by obtain⟨la,h1,h2⟩:=hL z;exact⟨la,h1,h2.cons⟩) V.nl _ (fun _=>lb) [oR lb 0 [.nilIface,i6 (-1),ptr J] false,oR lb 3 [.slice sa n Ia,.slice (some ⟨HD,0,none⟩) n n] false] a3 w3 _ rfl (Nat.le_refl _) bD (by omega) eu ((Flat.nil.cons rfl).cons rfl) ⟨fun i h1 h2=>by omega,fun i h1 h2=>by omega⟩ S3 fun Ir X' w' g1 g2 g3 g4 g6 g5=>?_
 have e:Ir V.nl=lb:=g4 V.nl (Nat.le_refl _);exact K Ir HD X' w' g1 g2 (by rw[e];exact g6 _ ⟨rfl,0,rfl⟩) (by rw[e];exact g6 _ ⟨rfl,1,rfl⟩) g3 (by omega)
end
section
variable{main:Bool}{B:Nat}{Ok:Addr→Bool→Prop}{Ψ:Goroutine→World→Prop}
theorem Sat.Tj{C':List Addr}{w w':World}{A:Nat}{x en v:Value}{eb:qP}{es iJ:List (Int×Value)}{M:List ah}(h:Sat Ok w (bR A [x,en]::eR eb::M))(hE:Qk en eb es)(hA:eb.c=1→A<eb.E)(hB:HB w.heap.size Ok)(qj:eb.c=1→∀(a:Addr)(wr:Bool),a.block=eb.E→Ok a wr)(hC1:∀a∈C',a.block=A∧a.off≠0)(hC2:∀i r,nth M i=some r→∀j,r.has j→r.ad j∉C')(hk:Kp (bV en) w w' (⟨A,1,none⟩::C'))(hv:w'.cell? ⟨A,1,none⟩=some v)(hf:w'.frozen? ⟨A,1,none⟩=false)(he:fU (A+1) w' v iJ)(kD:∀g∈bV v,g∈bV en∨w.heap.size≤g)(aN:0<iJ.length)(GY:∀i r g e n,nth M i=some r→r.row=some (g,e,n)→g≠A):
 ∃lS,Sat Ok w' (bR A [x,v]::eR lS::M)∧Qk v lS iJ∧lS.c=1∧A<lS.E∧∀(a:Addr)(wr:Bool),a.block=lS.E→Ok a wr:=by
 obtain⟨ho,⟨_,z⟩|⟨E',off,cap,cur,e1,e2,e3,e4,e5,e6⟩⟩:=he
 ·rw[z] at aN;cases aN
 have uU:∀g,g∈bV en↔eb.c=1∧g=eb.E:=fun g=>by
  rcases hE.2 with ⟨z1,z2,z3⟩|⟨o,c,z1,z2,_⟩
  ·rw[z1,br];simp[Value.ownBlock,z3]
  ·rw[z1,br];simp[Value.ownBlock,z2];exact⟨fun h=>h.symm,fun h=>h.symm⟩
 have Me:(eb.c=1∧E'=eb.E)∨w.heap.size≤E':=by
  rcases kD E' (by rw[e1,br];simp[Value.ownBlock]) with z|z
  ·exact .inl ((uU _).1 z)
  ·exact .inr z
 have AM:∀(a:Addr)(wr:Bool),a.block=E'→Ok a wr:=fun a wr hb=>by
  rcases Me with ⟨z1,z2⟩|z
  ·exact qj z1 a wr (hb.trans z2)
  ·exact hB a wr (by omega)
 have sw:0<cur.size:=by omega
 have Ei:∀j,w'.frozen? ⟨E',j,none⟩=false:=fun j=>by simp[World.frozen?,e4]
 have Hs:∀j,j<cur.size→w'.cell? ⟨E',j,none⟩=some (cur.getD j undef):=fun j hj=>by
  rw[ue e4];simp[Array.getD,hj]
 have lf:∀i r,nth M i=some r→∀j,r.has j→(r.ad j).block∉bV en∧r.ad j∉(⟨A,1,none⟩::C':List Addr):=fun i r hi j hj=>by
  have rK:=h.val (i+2) r hi j hj;refine⟨fun z=>?_,fun z=>?_⟩
  ·obtain⟨z1,z2⟩:=(uU _).1 z
   obtain⟨cu,c1,c2,c3⟩:=tY h (i:=1) rfl z1
   have aT:(r.ad j).off<eb.n∧(r.ad j).spot=none:=by
    unfold World.cell? at rK;rw[z2,c1] at rK
    simp only at rK
    cases eE:(r.ad j).spot with
    |none=>rw[eE] at rK;simp at rK;exact⟨by rw[←c2];exact(Array.getElem?_eq_some_iff.1 rK).1,rfl⟩
    |some q=>rw[eE] at rK;simp at rK
   have qy:r.ad j=⟨eb.E,(r.ad j).off,none⟩:=by
    cases RF:r.ad j with
    |mk bb oo ss=>rw[RF] at z2 aT;simp at z2 aT;rw[z2,aT.2]
   have:=h.sep 1 (eR eb) (i+2) r rfl hi rfl (0,(r.ad j).off) j ⟨by show 0<eb.c;omega,aT.1⟩ hj qy.symm;omega
  ·rcases List.mem_cons.1 z with z|z
   ·have:=h.sep 0 _ (i+2) r rfl hi rfl (0,1) j ⟨Nat.zero_lt_one,Nat.lt_succ_self 1⟩ hj z.symm
    omega
   ·exact hC2 i r hi j hj z
 refine⟨⟨E',cur.size,1,fun j=>cur.getD j undef⟩,?_,⟨ho,.inr ⟨off,cap,e1,rfl,e2,e5,sw,fun j u hu=>?_⟩⟩,rfl,by show A<E';omega,AM⟩
 ·refine h.two (fun i r hi j hj=>?_) (fun i r hi g e n hg hR=>?_) ?_ (fun i r hi j j' hj=>⟨fun bP he=>?_,fun bP he=>?_⟩)
  ·obtain⟨b1,b2⟩:=lf i r hi j hj
   have rK:=h.val (i+2) r hi j hj;exact⟨(hk.cellC _ _ b1 b2 rK).trans rK.symm,hk.jq _ _ b1 b2 rK⟩
  ·obtain⟨cu,c1,c2⟩:=hR
   obtain⟨q1,q2,_⟩:=h.row (i+2) r hi g e n hg;obtain⟨b1,b2⟩:=lf i r hi (0,0) q1;rw[q2] at b1;refine⟨cu,hk.blk g cu e (0,0) b1 (fun x hx=>?_) c1,c2⟩
   have hxA:x.block=A:=by
    rcases List.mem_cons.1 hx with hx|hx
    ·rw[hx]
    ·exact(hC1 x hx).1
   exact fun z=>GY i r g e n hi hg (by rw[←z,hxA])
  ·have nR:w'.cell? ⟨A,0,none⟩=some x∧w'.frozen? ⟨A,0,none⟩=false:=by
    have h0:=h.val 0 _ rfl (0,0) ⟨Nat.zero_lt_one,Nat.zero_lt_succ 1⟩;have hn:A∉bV en:=fun z=>by obtain⟨z1,z2⟩:=(uU _).1 z;have:=hA z1;omega
    have sw:(⟨A,0,none⟩:Addr)∉(⟨A,1,none⟩::C':List Addr):=fun z=>by
     rcases List.mem_cons.1 z with z|z
     ·simp at z
     ·exact(hC1 _ z).2 rfl
    exact⟨hk.cellC _ _ hn sw h0,(hk.jq _ _ hn sw h0).trans ((h.ok 0 _ rfl (0,0) ⟨Nat.zero_lt_one,Nat.zero_lt_succ 1⟩).2 rfl).2⟩
   have HA:∀j,j<2→Ok ⟨A,j,none⟩ false∧Ok ⟨A,j,none⟩ true:=fun j hj=>by
    have:=h.ok 0 _ rfl (0,j) ⟨Nat.zero_lt_one,hj⟩;exact⟨this.1,(this.2 rfl).1⟩
   refine⟨fun i r hi j hj=>?_,fun i r hi j hj=>?_,fun i r i' r' hi dJ hw j j' hj bP he=>?_,fun i r hi g e n hg=>?_⟩
   ·match i,hi with
    |0,hi=>
     cases hi
     obtain⟨j1,j2⟩:=j;have nN:j2<2:=hj.2
     match j2,nN with
     |0,_=>exact nR.1
     |1,_=>exact hv
    |1,hi=>cases hi;exact Hs _ hj.2
   ·match i,hi with
    |0,hi=>
     cases hi
     obtain⟨j1,j2⟩:=j;have nN:j2<2:=hj.2;refine⟨(HA j2 nN).1,fun _=>⟨(HA j2 nN).2,?_⟩⟩
     match j2,nN with
     |0,_=>exact nR.2
     |1,_=>exact hf
    |1,hi=>cases hi;exact⟨AM _ _ rfl,fun _=>⟨AM _ _ rfl,Ei _⟩⟩
   ·have Fa:A≠E':=by omega
    match i,hi,i',dJ with
    |0,hi,0,dJ=>
     cases hi;cases dJ
     obtain⟨j1,j2⟩:=j;obtain⟨k1,k2⟩:=j';have h1:j1<1:=hj.1;have h2:k1<1:=bP.1
     simp at he
     exact⟨rfl,by rw[he];congr 1;omega⟩
    |0,hi,1,dJ=>cases hi;cases dJ;simp at he;exact absurd he.1 Fa
    |1,hi,0,dJ=>cases hi;cases dJ;simp at he;exact absurd he.1.symm Fa
    |1,hi,1,dJ=>
     cases hi;cases dJ
     obtain⟨j1,j2⟩:=j;obtain⟨k1,k2⟩:=j';have h1:j1<1:=hj.1;have h2:k1<1:=bP.1
     simp at he
     exact⟨rfl,by rw[he];congr 1;omega⟩
   ·match i,hi with
    |0,hi=>cases hi;cases hg
    |1,hi=>cases hi;cases hg;exact⟨⟨Nat.zero_lt_one,sw⟩,rfl,cur,e4,rfl⟩
  ·obtain⟨b1,b2⟩:=lf i r hi j hj
   obtain⟨j1,j2⟩:=j';have h1:j1<1:=bP.1;have nN:j2<2:=bP.2;have:=h.sep 0 _ (i+2) r rfl hi rfl (0,j2) j ⟨Nat.zero_lt_one,nN⟩ hj he;omega
  ·obtain⟨b1,b2⟩:=lf i r hi j hj
   have hb:(r.ad j).block=E':=by rw[←he]
   rcases Me with ⟨z1,z2⟩|z
   ·exact b1 ((uU _).2 ⟨z1,hb.trans z2⟩)
   ·have:=aq (h.val (i+2) r hi j hj)
    omega
 ·have hl:j<(flat iJ).length:=(List.getElem?_eq_some_iff.1 hu).1
  rw[gO] at hl;have:=e6 j u hu
  show cur.getD (off+j) undef=u
  rw[Array.getD_eq_getD_getElem?,this];rfl
theorem rV{w:World}{b o:Nat}{vs:List Value}(h:∀j,j<vs.length→w.cell? ⟨b,o+j,none⟩=some (vs.getD j undef)∧w.frozen? ⟨b,o+j,none⟩=false)(ho:∀j,j<vs.length→Ok ⟨b,o+j,none⟩ false∧Ok ⟨b,o+j,none⟩ true):um Ok w (oR b o vs true):=by
 refine⟨fun j hj=>?_,fun j hj=>⟨(ho j.2 hj.2).1,fun z=>⟨(ho j.2 hj.2).2,(h j.2 hj.2).2⟩⟩,fun _ j j' hj bP e=>?_,fun g e n z=>(by cases z)⟩
 ·have q2:j.2<vs.length:=hj.2
  have:=(h j.2 q2).1;cases vs with
  |nil=>cases q2
  |cons z zs=>exact this
 ·have e2:o+j.2=o+j'.2:=congrArg Addr.off e
  have q1:j.1<1:=hj.1;have q2:j'.1<1:=bP.1;exact Prod.ext (by omega) (by omega)
theorem KO(F:aC prog main (DX Ok) Ψ)(hB:HB B Ok){cf:Frame}{cs:List Frame}{w:World}{s:PS}{C:List ah}{es:List (Int×Value)}{k cl bl bo bi:Nat}{at':Int}(hS:Sat Ok w (pM s++(oR s.k.A 2 [i6 k] true::C)))(hv:PV Ok s es)(hC:Flat C)(ey:B≤w.heap.size)(hq:es.length<900)(ZO:k<900)(K:∀ba bw aX T bt en eb i w',i≤es.length→lz es at' i→Sat Ok w' (pM {s with en:=en,eb:=eb}++(oR s.k.A 2 [i6 ((k:Int)+1)] true::oR T 0 [ptr s.k.A,i6 k,i6 cl,.chan (some aX)] false::jw T (.pointer none) false::oR ba 0 [ptr s.k.A] false::oR bw 0 [.func (.func 37) #[] #[ptr bl,ptr bo,ptr bi]] false::oR bt 0 [ptr T] false::C))→
 PV Ok {s with en:=en,eb:=eb} (es.take i++(at',.func (.func 50) #[] #[ptr ba,ptr bt,ptr bw])::es.drop i)→cr w' aX→w.heap.size≤aX→w.heap.size≤w'.heap.size→Kp (bV s.en) w w' [⟨s.k.A,1,none⟩,⟨s.k.A,2,none⟩]→Ψ (G (cf.finish (ptr T)) cs) w'):
 Ψ (G (Frame.enter prog 36 #[ptr s.k.A,i6 cl,i6 at',.func (.func 37) #[] #[ptr bl,ptr bo,ptr bi]] .normal) (cf::cs)) w:=by
 have nR:=hS.ok 0 _ rfl (0,1) ⟨Nat.zero_lt_one,Nat.lt_succ_self 1⟩;have dw:=hS.val 0 _ rfl (0,1) ⟨Nat.zero_lt_one,Nat.lt_succ_self 1⟩;have h7:nth (pM s++(oR s.k.A 2 [i6 k] true::C)) 7=some (oR s.k.A 2 [i6 k] true):=rfl;have eG:=hS.val 7 _ h7 (0,0) ⟨Nat.zero_lt_one,Nat.zero_lt_one⟩;have QX:=hS.ok 7 _ h7 (0,0) ⟨Nat.zero_lt_one,Nat.zero_lt_one⟩;have UY:=aq dw;have he:fU (s.k.A+1) w s.en es:=xD (i:=1) hS rfl hv.en fun z=>(hv.eo z).1
 have UD:∀g,g∈bV s.en→s.eb.c=1∧g=s.eb.E:=fun g hg=>by
  rcases hv.en.2 with ⟨z1,z2,z3⟩|⟨o,c,z1,z2,_⟩
  ·rw[z1,br] at hg;simp[Value.ownBlock] at hg
  ·rw[z1,br] at hg;simp[Value.ownBlock] at hg;exact⟨z2,hg.symm⟩
 refine Ic (s.k.A+1) s.k.A bl bo bi cl k at' s.en es w (by exact UY) (Nat.lt_succ_self _) he hq ZO dw eG (nR.2 rfl).2 (QX.2 rfl).2 nR.1 (nR.2 rfl).1 QX.1 (QX.2 rfl).1 (fun a wr h=>?_) Ψ F cf cs fun v w' hp=>?_
 ·rcases h with h|h
  ·obtain⟨z1,z2⟩:=UD _ h;exact(hv.eo z1).2 a wr z2
  ·exact hB a wr (by omega)
 obtain⟨ba,bw,aX,T,bt,P,p8,i,rfl,hk,⟨n1,n2,n3,n4,n5,n6,n7,n8,n9,n10,n11,n12⟩,gi,eZ,yc,hT,eC,c1,c2,d1,d2,hi,nB,c3,c4⟩:=hp;have hlen:(es.take i++(at',Value.func (.func 50) #[] #[ptr ba,ptr bt,ptr bw])::es.drop i).length=es.length+1:=by simp;omega
 have GY:=mS (b:=s.k.A) hS hv (hC.cons rfl) (i0:=0) (j0:=(0,0)) rfl (by decide) (by decide) ⟨Nat.zero_lt_one,(by decide:0<2)⟩ rfl;have sC:Sat Ok w (bR s.k.A [i6 s.l.now,s.en]::eR s.eb::((pM s).tail.tail++C)):=hS.HQ (A:=pM s)
 have h7d:∀r∈bR s.k.A [i6 s.l.now,s.en]::eR s.eb::((pM s).tail.tail++C),Dj (oR s.k.A 2 [i6 k] true) r:=by
  have:=hS.perm (List.perm_middle (a:=oR s.k.A 2 [i6 k] true) (l₁:=pM s) (l₂:=C));exact(List.pairwise_cons.1 (sat_iff.1 this).2).1
 have h20:∀v:Value,(oR s.k.A 2 [v] true).has (0,0):=fun v=>⟨Nat.zero_lt_one,Nat.zero_lt_one⟩
 obtain⟨lS,q1,q2,q3,q4,q5⟩:=Sat.Tj (C':=[⟨s.k.A,2,none⟩]) sC hv.en (fun z=>(hv.eo z).1) (fun a wr z=>hB a wr (by omega)) (fun z=>(hv.eo z).2) (fun a ha=>by simp at ha;subst ha;exact⟨rfl,(by decide:2≠0)⟩) (fun i r hi j hj z=>by
  simp only[List.mem_cons,List.not_mem_nil,or_false] at z;exact h7d r (List.mem_cons_of_mem _ (List.mem_cons_of_mem _ (ga hi))) (.inl rfl) (0,0) j (h20 _) hj z.symm) hk c1 c2 c3 (fun g hg=>(c4 g hg).imp id fun z=>by omega) (by rw[hlen];omega) (fun i r g e n hi hg=>fun z=>GY r (by
  have:=ga hi;rcases List.mem_append.1 this with z|z
  ·exact List.mem_append_left _ (List.mem_cons_of_mem _ (List.mem_cons_of_mem _ z))
  ·exact List.mem_append_right _ (List.mem_cons_of_mem _ z)) g e n hg z.symm)
 have Me:(lS.E<w.heap.size∨P≤lS.E):=by
  rcases q2.2 with ⟨_,_,z⟩|⟨o,c,z,_⟩
  ·rw[q3] at z;cases z
  ·rcases c4 lS.E (by rw[z,br];simp[Value.ownBlock]) with y|y
   ·obtain⟨y1,y2⟩:=UD _ y
    obtain⟨cu,u1,_⟩:=tY hS (i:=1) rfl y1;rw[y2];exact .inl (Array.getElem?_eq_some_iff.1 u1).1
   ·exact .inr y
 have hwA:s.k.A<w.heap.size:=UY
 have wW:∀(b o:Nat)(vs:List Value)(wr:Bool),w.heap.size≤b→b<P→∀r∈bR s.k.A [i6 s.l.now,p8]::eR lS::((pM s).tail.tail++C),Dj (oR b o vs wr) r:=fun b o vs wr h1 h2 r hr _ j j' hj bP e=>by
  have e1:b=(r.ad j').block:=congrArg Addr.block e;rcases List.mem_cons.1 hr with rfl|hr
  ·have:(b:Nat)=s.k.A:=e1
   omega
  ·rcases List.mem_cons.1 hr with rfl|hr
   ·have:(b:Nat)=lS.E:=e1
    omega
   ·have:=sC.blk (List.mem_cons_of_mem _ (List.mem_cons_of_mem _ hr)) bP
    omega
 have XH:∀r∈bR s.k.A [i6 s.l.now,p8]::eR lS::((pM s).tail.tail++C),Dj (oR s.k.A 2 [i6 ((k:Int)+1)] true) r:=fun r hr hw j j' hj bP e=>by
  rcases List.mem_cons.1 hr with rfl|hr
  ·have e1:2+j.2=j'.2:=congrArg Addr.off e
   have:j'.2<2:=bP.2;omega
  ·rcases List.mem_cons.1 hr with rfl|hr
   ·have e1:s.k.A=lS.E:=congrArg Addr.block e
    omega
   ·exact h7d r (List.mem_cons_of_mem _ (List.mem_cons_of_mem _ hr)) (.inl rfl) j j' hj bP e
 have Qa:∀(r r':ah),r.wr=false→r'.wr=false→Dj r r':=fun r r' h1 h2 hw=>by
  rcases hw with z|z
  ·rw[h1] at z;cases z
  ·rw[h2] at z;cases z
 have Ml:∀(b b' o o':Nat)(vs bA:List Value)(wr Zc:Bool),b≠b'→Dj (oR b o vs wr) (oR b' o' bA Zc):=fun b b' o o' vs bA wr Zc aN _ j j' _ _ e=>aN (congrArg Addr.block e)
 have An:∀(b o:Nat)(wr:Bool),w.heap.size≤b→Ok ⟨b,o,none⟩ wr:=fun b o wr h=>hB _ _ (by show B≤b;omega)
 refine K ba bw aX T bt p8 lS i w' hi nB ?_ ⟨hv.jr,q2,fun _=>⟨q4,q5⟩⟩ eC (by omega) hk.size hk
 have cL:Sat Ok w' ([oR s.k.A 2 [i6 ((k:Int)+1)] true,oR T 0 [ptr s.k.A,i6 k,i6 cl,.chan (some aX)] false,jw T (.pointer none) false,oR ba 0 [ptr s.k.A] false,oR bw 0 [.func (.func 37) #[] #[ptr bl,ptr bo,ptr bi]] false,oR bt 0 [ptr T] false]++(bR s.k.A [i6 s.l.now,p8]::eR lS::((pM s).tail.tail++C))):=by
  have qq:=sat_iff.1 q1;rw[sat_iff];refine⟨fun r hr=>?_,List.pairwise_append.2 ⟨?_,qq.2,fun r hr r' lD=>?_⟩⟩
  ·rcases List.mem_append.1 hr with hr|hr
   ·simp only[List.mem_cons,List.not_mem_nil,or_false] at hr
    rcases hr with rfl|rfl|rfl|rfl|rfl|rfl
    ·refine rV (fun j hj=>?_) (fun j hj=>?_)
     ·have:j=0:=Nat.lt_one_iff.1 hj
      subst this;exact⟨d1,d2⟩
     ·have:j=0:=Nat.lt_one_iff.1 hj
      subst this;exact⟨QX.1,(QX.2 rfl).1⟩
    ·refine nZ (fun j hj=>?_) (fun j hj=>An _ _ _ (by omega))
     match j,hj with
     |0,_=>exact hT.t0
     |1,_=>exact hT.t1
     |2,_=>exact hT.t2
     |3,_=>exact hT.t3
    ·refine rV (fun j hj=>?_) (fun j hj=>⟨An _ _ _ (by omega),An _ _ _ (by omega)⟩)
     match j,hj with
     |0,_=>exact⟨hT.t4,hT.z4⟩
     |1,_=>exact⟨hT.t5,hT.z5⟩
     |2,_=>exact⟨hT.t6,hT.z6⟩
     |3,_=>exact⟨hT.t7,hT.z7⟩
    ·exact nZ (fun j hj=>by have:j=0:=Nat.lt_one_iff.1 hj
                            subst this;exact gi) (fun j hj=>An _ _ _ (by omega))
    ·exact nZ (fun j hj=>by have:j=0:=Nat.lt_one_iff.1 hj
                            subst this;exact eZ) (fun j hj=>An _ _ _ (by omega))
    ·exact nZ (fun j hj=>by have:j=0:=Nat.lt_one_iff.1 hj
                            subst this;exact yc) (fun j hj=>An _ _ _ (by omega))
   ·exact qq.1 r hr
  ·simp only[List.pairwise_cons,List.mem_cons,List.not_mem_nil,or_false,forall_eq_or_imp,forall_eq,false_implies,implies_true,and_true,List.Pairwise.nil]
   refine⟨⟨Ml _ _ _ _ _ _ _ _ (by omega),Ml _ _ _ _ _ _ _ _ (by omega),Ml _ _ _ _ _ _ _ _ (by omega),Ml _ _ _ _ _ _ _ _ (by omega),Ml _ _ _ _ _ _ _ _ (by omega)⟩,⟨?_,Qa _ _ rfl rfl,Qa _ _ rfl rfl,Qa _ _ rfl rfl⟩,⟨Ml _ _ _ _ _ _ _ _ (by omega),Ml _ _ _ _ _ _ _ _ (by omega),Ml _ _ _ _ _ _ _ _ (by omega)⟩,⟨Qa _ _ rfl rfl,Qa _ _ rfl rfl⟩,Qa _ _ rfl rfl⟩;intro _ j j' hj bP e;have e1:0+j.2=4+j'.2:=congrArg Addr.off e;have:j.2<4:=hj.2;omega
  ·simp only[List.mem_cons,List.not_mem_nil,or_false] at hr
   rcases hr with rfl|rfl|rfl|rfl|rfl|rfl
   ·exact XH r' (by simpa using lD)
   ·exact wW _ _ _ _ (by omega) (by omega) r' (by simpa using lD)
   ·exact wW _ _ _ _ (by omega) (by omega) r' (by simpa using lD)
   ·exact wW _ _ _ _ (by omega) (by omega) r' (by simpa using lD)
   ·exact wW _ _ _ _ (by omega) (by omega) r' (by simpa using lD)
   ·exact wW _ _ _ _ (by omega) (by omega) r' (by simpa using lD)
 exact cL.perm (List.perm_append_comm_assoc _ (pM {s with en:=p8,eb:=lS}) C)
end
def Gz(o:Oper)(s d t:Nat):Bool:=o.guard.isNone&&(match o.dst with|some d'=>d'==d|none=>false)&&(match o.op with
 |.makeSlice t' (.tmp a) (.tmp b)=>t'==t&&a==s&&b==s
 |_=>false)
theorem BR{o:Oper}{s d t:Nat}(h:Gz o s d t=true):o.guard=none∧o.dst=some d∧o.op=.makeSlice t (.tmp s) (.tmp s):=by
 unfold Gz at h;simp only[Bool.and_eq_true] at h;obtain⟨⟨h1,h2⟩,h3⟩:=h;refine⟨by simpa using h1,?_,?_⟩
 ·split at h2
  ·rename_i d' hd;rw[hd];simp at h2;rw[h2]
  ·cases h2
 ·split at h3
  ·rename_i t' a b ho
   simp only[Bool.and_eq_true,beq_iff_eq] at h3;obtain⟨⟨a1,a2⟩,a3⟩:=h3;subst a1;subst a2;subst a3;exact ho
  ·cases h3
section
variable{main:Bool}{B:Nat}{Ok:Addr→Bool→Prop}{Ψ:Goroutine→World→Prop}
theorem LA(F:aC prog main (DX Ok) Ψ)(hB:HB B Ok){b:Frame}(hk:b.kind=.normal){N c:Nat}{E:Env}{M:List ah}{a:Act}{cs:List Frame}{w:World}{t:List Item}(s d:Nat){n:Nat}(ho:ow t=true)(aQ:Gz (aU t) s d 32=true)(hd:d<N)(hs:look E s=some (i6 n))(h9:n≤9)(S:St Ok B N E M c a w)(K:∀a' w',Sat Ok w' (fR ⟨w.heap.size,0,none⟩ 4 (fun _=>[i6 0,i6 0,i6 0,.slice none 0 0]) n true::M)→aO ((d,.slice (some ⟨w.heap.size,0,none⟩) n n)::E) N a'→a'.defers=a.defers→w'.heap.size=w.heap.size+1→Kp [] w w'→Ψ (G (b.at a' (nL t)) cs) w'):Ψ (G (b.at a t) cs) w:=by
 obtain⟨ops,i,r,kk,ht,eF,hn⟩:=eX ho;obtain⟨g1,g2,g3⟩:=BR aQ;have dS:a.eval (.tmp s)=i6 n:=by rw[S.env.eval (by simp[kn,hs])];simp[ev,hs]
 have ey:B≤w.heap.size:=by rw[S.sz];exact Nat.le_add_right _ _
 have fM:∀d,(execOp a.eval (aU t)).run prog (w.at d)=.ok (.value (.slice (some ⟨w.heap.size,0,none⟩) n n)) ((w.at d).alloc (.cells (K5 n).toArray 46)):=fun d=>by
  unfold execOp;rw[g3];simp only[dS];have:=Zr n h9 (w.at d);simp[this]
  rfl
 have NX:∀d,raw prog a (aU t) (w.at d)=#[]:=fun d=>by
  unfold raw execOp;rw[g3];simp only[dS];have h1:=Zr n h9 (w.at d);have h2:=VI n h9 (w.at d) #[];simp[h1,h2]
 rw[ht];refine F.op eF (by simp[Region.wanted,g1]) (by rw[hk];decide) (fun d' K' zL=>?_);rw[fM d',alloc_at'];generalize ew:World.alloc w _=w1;have k1:Kp [] w w1:=Kp.alloc ew;have dH:=g9 ew rfl;have ck:w1.heap.size=w.heap.size+1:=by omega
 refine zL _ w1 ⟨?_,?_⟩
 ·rw[NX,←ew,←alloc_at']
  exact DX.alloc _ _ (by simp)
 ·rw[←hn,g2]
  refine K _ w1 (S.au.xA k1 (N:=[_]) (fun r hr=>?_) (List.pairwise_singleton ..) (fun r hr j hj=>?_)) (S.env.put hd) (put_defers _ _ _) ck k1
  ·simp only[List.mem_cons,List.not_mem_nil,or_false] at hr
   subst hr;refine Ac (fun j hj i hi=>?_) (fun a wr ha=>hB _ _ (by omega));obtain⟨z0,z1,z2,z3⟩:=Fh n j hj;refine⟨?_,aV ew rfl _⟩
   match i,hi with
   |0,_=>exact aI (i:=j*4+0) ew rfl (by simpa using z0)
   |1,_=>exact aI (i:=j*4+1) ew rfl (by simpa using z1)
   |2,_=>exact aI (i:=j*4+2) ew rfl (by simpa using z2)
   |3,_=>exact aI (i:=j*4+3) ew rfl (by simpa using z3)
  ·simp only[List.mem_cons,List.not_mem_nil,or_false] at hr
   subst hr
   show w.heap.size≤(((⟨w.heap.size,0,none⟩:Addr).add (j.1*4)).add j.2).block
   rw[add_add];exact Nat.le_refl _
end
end Go.Proofs.YtobagnjnbmgidaaGreatDoor
