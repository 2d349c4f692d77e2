import Derived.Test.YtobagnjnbmgidaaGreatDoorB1
import Derived.Test.YtobagnjnbmgidaaGreatDoorD0
set_option linter.all false
set_option maxHeartbeats 0
set_option maxRecDepth 100000
namespace Go.Proofs.YtobagnjnbmgidaaGreatDoor
open Go.Conc Go.RowKit Tryz
variable{V:Ev0}{L Lf:LS}{HD J N O b bi bl bo cap cr bE j k m n o rs bI:Nat}{s:PS}{r:aJ}{C X:aX}{bb cf:aE}{en:ay}{q:aP}{dH:ru}{st:oX}{lb dU:cm}{cs:cW}{sL sa:eN}{vs xs ys zs:iG}
variable{main:Bool}{Ok:dw}{B A ng:Nat}{Ψ:gi}{w w' w0:aj}{M:aX}{Post:qG}{cc l:aP}{es:dL}{P:aI}
theorem Ah(J:Nat)(sa:eN)(n cap:Nat)(w0:aj)(R:n<=9):
 eC prog main (DX Ok) 47 #[.slice sa n cap,.pointer (some ⟨J,0,none⟩)] w0 λv w'=>∃B HD,v=.iface 138 (.pointer (some ⟨B,0,none⟩))/\Kp [] w0 w'/\w0.heap.size<=HD/\HD<B/\B<w'.heap.size/\w'.cell? ⟨B,0,none⟩=some .nilIface/\UT w' B HD J sa n cap:=by
 intro Ψ F c cs hc;rw[enter_at _ func47 rfl];simp only[ntmps47,oP,Nat.reduceAdd,Nat.reduceSub];refine F.cw ?_;refine F.aF ?_;try walk_nrm
 refine F.dh ?_;iterate 5 (refine F.aF ?_;try walk_nrm)
 refine F.op rfl rfl (by decide) (λd K h=>?_);go_simp;rw[Wl n R];go_simp;rw[alloc_at'];refine h _ _ ⟨DX.alloc _ _ (λe Q=>?_),?_⟩
 .have I:=mem_listed Q
  simp[go_sem,Wl n R,RG n R]at I
 clear h K d;try walk_nrm
 generalize g:World.alloc w0 _=u;generalize p:(World.heap w0).size=E;have Lg:=gr g p;have H:∀j,j<n->u.cell? ⟨E,j,none⟩=some (.int .i64 0)/\u.frozen? ⟨E,j,none⟩=false:=λj hj=>⟨aV (i:=j) g p (by simpa using zG n j hj),bY g p j⟩
 have G:Kp [] w0 u:=Kp.alloc g;refine F.aF ?_;try walk_nrm
 refine F.op rfl rfl (by decide) (λd K h=>?_);go_simp;rw[alloc_at'];refine h _ _ ⟨DX.alloc _ _ (λe Q=>?_),?_⟩
 .have I:=mem_listed Q
  simp[go_sem]at I
 clear h K d;try walk_nrm
 generalize a:World.alloc u _=w2;generalize f:(World.heap u).size=n2;have P6:=gr a f;have t:=aV (i:=0) a f rfl;have Z:=bY a f 0;have D:=aV (i:=1) a f rfl;have Y:=bY a f 1;have z:=aV (i:=2) a f rfl;have W:=bY a f 2;have y:=aV (i:=3) a f rfl;have U:=bY a f 3;have x:=aV (i:=4) a f rfl;have T:=bY a f 4;try simp only[rz,rD,rC]at t D z y x
 replace G:=G.zb a;iterate 2 (refine F.oq rfl rfl rfl (λ_=>by first|(simp[go_sem];done)|simp[go_sem,Instr.makeInterface,Instr.makeFunc, *]) λd K h=>?_;go_simp;refine h _ ?_;clear h K d;try walk_nrm)
 refine F.re ?_;refine F.ctl (λ_=>stepG_ret') ?_;refine F.bJ rfl rfl func47 (resultsC_tmp (by rfl) _) ?_;have S:Kp [] u w2:=Kp.alloc a;exact hc _ _ ⟨n2,E,rfl,G,by omega,by omega,au t,t,D,z,y,x,λj hj=>⟨S.cell _ _ (by simp) (H j hj).1,(S.O2 _ _ (by simp) (H j hj).1).trans (H j hj).2⟩⟩
theorem Sat.sJ(h:Sat Ok w M)(k:Kp [] w w' []){N:aX}(t:∀r∈N,uq Ok w' r)(p:N.Pairwise Dj)(i:∀r∈N,∀j,r.has j->w.heap.size<=(r.ad j).block):Sat Ok w' (N++M):=by
 have f:=sat_iff.1 (h.RP k);rw[sat_iff];refine⟨λr c=>?_,xu.2 ⟨p,f.2,λr c r' a _ j j' hj d e=>?_⟩⟩
 .rcases dZ.1 c with z|z
  .exact t r z
  .exact f.1 r z
 .have g:=i r c j hj
  have u:=h.blk a d;rw[e]at g;omega
theorem pJ{wr:Bool}{j:Ix}(hj:j.2<zs.length):(oR b o zs wr).get j=zs.getD j.2 undef:=by
 cases zs with
 |nil=>cases hj
 |cons z zs=>rfl
theorem Sat.Ub(h:Sat Ok w (bR b (xs++zs)::M)):Sat Ok w (oR b 0 xs false::oR b xs.length zs true::M):=by
 rw[sat_iff]at h ⊢;obtain⟨v,u⟩:=h;have H:=v _ (bS ..);have t:=(dI.1 u).1
 have gb:∀(j:Ix),j.2<(xs++zs).length->(bR b (xs++zs)).get j=(xs++zs).getD j.2 undef:=λj hj=>by
  generalize xs++zs=ys at hj;cases ys with
  |nil=>cases hj
  |cons z ys=>rfl
 have f:∀j:Ix,(oR b 0 xs false).has j->(bR b (xs++zs)).has j/\(oR b 0 xs false).ad j=(bR b (xs++zs)).ad j/\(oR b 0 xs false).get j=(bR b (xs++zs)).get j:=λj hj=>by
  have p:j.2<xs.length:=hj.2;have i:j.2<(xs++zs).length:=by rw[qt];omega
  refine⟨⟨hj.1,i⟩,by show(⟨b,0+j.2,none⟩:Addr)=⟨b,j.2,none⟩;rw[bD],?_⟩;rw[pJ p,gb j i];simp[List.getD,oZ p]
 have d:∀j:Ix,(oR b xs.length zs true).has j->(bR b (xs++zs)).has (j.1,xs.length+j.2)/\(oR b xs.length zs true).ad j=(bR b (xs++zs)).ad (j.1,xs.length+j.2)/\(oR b xs.length zs true).get j=(bR b (xs++zs)).get (j.1,xs.length+j.2):=λj hj=>by
  have p:j.2<zs.length:=hj.2;have i:xs.length+j.2<(xs++zs).length:=by rw[qt];omega
  refine⟨⟨hj.1,i⟩,rfl,?_⟩;rw[pJ p,gb (j.1,xs.length+j.2) i];simp[List.getD,rH]
 refine⟨λr c=>?_,dI.2 ⟨λr c x j j' hj a e=>?_,dI.2 ⟨λr c x j j' hj a e=>?_,(dI.1 u).2⟩⟩⟩
 .rcases ak.1 c with rfl|c
  .exact⟨λj hj=>by rw[(f j hj).2.1,(f j hj).2.2];exact H.val j (f j hj).1,λj hj=>⟨by rw[(f j hj).2.1];exact(H.ok j (f j hj).1).1,λz=>(by cases z)⟩,λz=>(by cases z),λg e n z=>(by cases z)⟩
  .rcases ak.1 c with rfl|c
   .exact⟨λj hj=>by rw[(d j hj).2.1,(d j hj).2.2];exact H.val _ (d j hj).1,λj hj=>by rw[(d j hj).2.1];exact H.ok _ (d j hj).1,λ_ j j' hj a e=>by
     have:=H.inj rfl _ _ (d j hj).1 (d j' a).1 (by rw[<-(d j hj).2.1,<-(d j' a).2.1];exact e);simp only[Prod.mk.injEq]at this;exact uu this.1 (by omega),λg e n z=>(by cases z)⟩
   .exact v r (aO _ c)
 .rcases ak.1 c with rfl|c
  .have y:j.2<xs.length:=hj.2
   have D:0+j.2=xs.length+j'.2:=cP Addr.off e;omega
  .rw[(f j hj).2.1]at e
   exact t r c (.inl rfl) j j' (f j hj).1 a e
 .rw[(d j hj).2.1]at e
  exact t r c (.inl rfl) _ j' (d j hj).1 a e
theorem Sat.cut(h:Sat Ok w (bR b (xs++ys)::M)):Sat Ok w (oR b 0 xs false::oR b xs.length ys false::M):=
 h.Ub.Ic 1 rfl (oR b xs.length ys false) (λj hj=>⟨hj,rfl,rfl⟩) (λz=>by cases z) rfl
theorem nj(h:∀j,j<vs.length->w.cell? ⟨b,o+j,none⟩=some (vs.getD j undef))(ho:∀j,j<vs.length->Ok ⟨b,o+j,none⟩ false):uq Ok w (oR b o vs false):=by
 refine⟨λj hj=>?_,λj hj=>⟨ho j.2 hj.2,λz=>(by cases z)⟩,λz=>(by cases z),λg e n z=>(by cases z)⟩;have a:j.2<vs.length:=hj.2;have:=h j.2 a;cases vs with
 |nil=>cases a
 |cons z zs=>exact this
theorem Pu(F:aC prog main (DX Ok) Ψ)(hB:HB B Ok)(u:Sat Ok w M)(x:B<=w.heap.size)(y:n<=9)(K:∀lb HD w',Sat Ok w' (oR lb 0 [.nilIface,i6 (-1),ptr J] false::oR lb 3 [.slice sa n cap,.slice (some ⟨HD,0,none⟩) n n] false::fR ⟨HD,0,none⟩ 1 (λ_=>[i6 0]) n true::M)->w.heap.size<=w'.heap.size->Kp [] w w'->Ψ (G (cf.finish (.iface 138 (ptr lb))) cs) w'):
 Ψ (G (Frame.enter prog 47 #[.slice sa n cap,ptr J] .normal) (cf::cs)) w:=by
 refine Ah J sa n cap w y _ F _ _ (λv g p=>?_);obtain⟨b,HD,rfl,f,D,R,Q,E,d⟩:=p;refine K b HD g (u.sJ f (N:=[oR b 0 [.nilIface,i6 (-1),ptr J] false,oR b 3 [.slice sa n cap,.slice (some ⟨HD,0,none⟩) n n] false,fR ⟨HD,0,none⟩ 1 (λ_=>[i6 0]) n true]) (λr c=>?_) ?_ (λr c j hj=>?_)) f.size f
 .simp only[ak,bB,or_false]at c
  rcases c with rfl|rfl|rfl
  .refine nj (λj hj=>?_) (λj hj=>hB _ _ (by show B<=b;omega))
   match j,hj with
   |0,_=>exact E
   |1,_=>exact d.b1
   |2,_=>exact d.b2
  .refine nj (λj hj=>?_) (λj hj=>hB _ _ (by show B<=b;omega))
   match j,hj with
   |0,_=>exact d.b3
   |1,_=>exact d.b4
  .refine rX (λj hj i H=>?_) (λa wr I=>hB _ _ (by omega))
   have:i=0:=by omega
   subst this;have:=d.h j hj;simp only[mN,iO];exact this
 .have:∀(o:Nat)(vs:iG),Dj (oR b o vs false) (fR ⟨HD,0,none⟩ 1 (λ_=>[i6 0]) n true):=λo vs _ j j' hj t e=>by
   have e2:(⟨b,o+j.2,none⟩:Addr)=((⟨HD,0,none⟩:Addr).add (j'.1*1)).add j'.2:=e;rw[add_add]at e2;have S:b=HD:=cP Addr.block e2;omega
  refine dI.2 ⟨λr c=>?_,dI.2 ⟨λr c=>?_,dI.2 ⟨λr c=>(by cases c),List.Pairwise.nil⟩⟩⟩
  .simp only[ak,bB,or_false]at c
   rcases c with rfl|rfl
   .intro h;rcases h with z|z<;>cases z
   .exact this _ _
  .simp only[ak,bB,or_false]at c
   subst c;exact this _ _
 .simp only[ak,bB,or_false]at c
  rcases c with rfl|rfl|rfl
  .show w.heap.size<=b;omega
  .show w.heap.size<=b;omega
  .show w.heap.size<=(((⟨HD,0,none⟩:Addr).add (j.1*1)).add j.2).block
   rw[add_add];exact D
def ym(x:ko):List Value:=[i6 x.k,i6 x.a,i6 x.b,i6 x.c,i6 x.d,i6 x.e]
theorem Sat.Uc(h:Sat Ok w (bR b ((xs++ys)++zs)::M)):Sat Ok w (oR b 0 xs false::oR b xs.length ys false::oR b (xs++ys).length zs true::M):=by
 have g:=h.Ub;have f:=g.dup (i:=0) rfl rfl
 have e:=f.U2 (r':=oR b 0 xs false) rfl rfl λj hj=>by
  have c:j.2<xs.length:=hj.2;have a:j.2<(xs++ys).length:=by rw[qt];omega
  exact⟨j,⟨hj.1,a⟩,rfl,by rw[pJ c,pJ a];simp[List.getD,oZ c]⟩
 have d:=(e.perm (.swap ..)).U2 (r':=oR b xs.length ys false) rfl rfl λj hj=>by
  have c:j.2<ys.length:=hj.2;have a:xs.length+j.2<(xs++ys).length:=by rw[qt];omega
  exact⟨(j.1,xs.length+j.2),⟨hj.1,a⟩,by show(⟨b,xs.length+j.2,none⟩:Addr)=⟨b,0+(xs.length+j.2),none⟩;rw[bD],by rw[pJ c,pJ (j:=(j.1,xs.length+j.2)) a];simp[List.getD,rH]⟩
 exact d.perm (.swap ..)
def gz:Gt:=⟨false,0,0,0,0,[],0⟩
def El(x:ko):List Value:=if x.k=1 then[i6 x.a,i6 x.b,i6 x.c,i6 x.d]else if x.k=3 then[i6 x.a,i6 x.b]else if x.k=4 then[i6 x.a,i6 x.b,i6 x.c,i6 x.d,i6 x.e]else[]
def U7(k:Int)(lb:Nat):Value:=if k=1 then .iface 141 (ptr lb)else if k=3 then .iface 147 (ptr lb)else if k=4 then .iface 150 (ptr lb)else .iface 144 (ptr lb)
theorem Gh(k:Int)(lb:Nat):∃ty,U7 k lb=.iface ty (ptr lb):=by
 unfold U7;split
 .exact⟨_,rfl⟩
 .split
  .exact⟨_,rfl⟩
  .split
   .exact⟨_,rfl⟩
   .exact⟨_,rfl⟩
theorem RO(F:aC prog main (DX Ok) Ψ)(hB:HB B Ok){ty:Nat}{x:ko}{num:Int}(hk:x.k=1\/x.k=2\/x.k=3\/x.k=4)(E:Sat Ok w M)(Q:B<=w.heap.size)(K:∀lb w',w.heap.size<=lb->Sat Ok w' (oR lb 0 [.iface ty (ptr b),i6 num,ptr J] false::oR lb 3 (El x) false::(gR x lb gz kN++M))->w.heap.size<=w'.heap.size->Ψ (G (cf.finish (U7 x.k lb)) cs) w'):
 Ψ (G (Frame.enter prog 48 #[.agg #[i6 x.k,i6 x.a,i6 x.b,i6 x.c,i6 x.d,i6 x.e],.agg #[.iface ty (ptr b),i6 num,ptr J]] .normal) (cf::cs)) w:=by
 obtain⟨S,f,e,h,g,D⟩:=x
 simp only at hk K ⊢
 rcases hk with rfl|rfl|rfl|rfl
 .refine dg f48 func48 _ rfl 69 (by kernel_rfl) E λbb I B1 H c d a z t=>?_
  refine bP F hB c d a z 35 [1,0,0,1,0,0,0,3,1,0,1,4] [3] [] 4 (.iface 141 (ptr (B1+2))) (λM=>bR (B1+2) [.iface ty (ptr b),i6 num,ptr J,i6 f,i6 e,i6 h,i6 g]::(bR (B1+1) [.iface ty (ptr b),i6 num,ptr J]::(bR (B1) [i6 1,i6 f,i6 e,i6 h,i6 g,i6 D]::(M)))) 3 35 [true] [] λi y p u=>?_
  have v:=Sat.cut (xs:=[.iface ty (ptr b),i6 num,ptr J]) (ys:=[i6 f,i6 e,i6 h,i6 g]) y.sat;exact K (B1+2) i (by omega) (Sat.HC (A:=[_,_]) (X:=[_,_]) v) (by omega)
 .refine dg f48 func48 _ rfl 69 (by kernel_rfl) E λbb I B1 H c d a z t=>?_
  refine bP F hB c d a z 33 [1,0,0,1,0,0,0,3] [1,3] [] 4 (.iface 144 (ptr (B1+2))) (λM=>bR (B1+2) [.iface ty (ptr b),i6 num,ptr J]::(bR (B1+1) [.iface ty (ptr b),i6 num,ptr J]::(bR (B1) [i6 2,i6 f,i6 e,i6 h,i6 g,i6 D]::(M)))) 3 33 [false,true] [] λi y p u=>?_
  have v:=Sat.cut (xs:=[.iface ty (ptr b),i6 num,ptr J]) (ys:=[]) y.sat;exact K (B1+2) i (by omega) (Sat.HC (A:=[_,_]) (X:=[_,_]) v) (by omega)
 .refine dg f48 func48 _ rfl 69 (by kernel_rfl) E λbb I B1 H c d a z t=>?_
  refine bP F hB c d a z 43 [1,0,0,1,0,0,0,3,1,0,1,2] [1,1,3] [] 4 (.iface 147 (ptr (B1+2))) (λM=>bR (B1+2) [.iface ty (ptr b),i6 num,ptr J,i6 f,i6 e,i6 0]::(bR (B1+1) [.iface ty (ptr b),i6 num,ptr J]::(bR (B1) [i6 3,i6 f,i6 e,i6 h,i6 g,i6 D]::(M)))) 3 43 [false,false,true] [] λi y p u=>?_
  have v:=Sat.Uc (xs:=[.iface ty (ptr b),i6 num,ptr J]) (ys:=[i6 f,i6 e]) (zs:=[i6 0]) y.sat;exact K (B1+2) i (by omega) (Sat.HC (A:=[_,_,_]) (X:=[_,_]) v) (by omega)
 .refine dg f48 func48 _ rfl 69 (by kernel_rfl) E λbb I B1 H c d a z t=>?_
  refine bP F hB c d a z 55 [1,0,0,1,0,0,0,3,1,0,1,5] [1,1,1,3] [] 4 (.iface 150 (ptr (B1+2))) (λM=>bR (B1+2) [.iface ty (ptr b),i6 num,ptr J,i6 f,i6 e,i6 h,i6 g,i6 D,i6 0,i6 0,i6 0,i6 0,.slice none 0 0]::(bR (B1+1) [.iface ty (ptr b),i6 num,ptr J]::(bR (B1) [i6 4,i6 f,i6 e,i6 h,i6 g,i6 D]::(M)))) 3 55 [false,false,false,true] [] λi y p u=>?_
  have v:=Sat.Uc (xs:=[.iface ty (ptr b),i6 num,ptr J]) (ys:=[i6 f,i6 e,i6 h,i6 g,i6 D]) (zs:=[i6 0,i6 0,i6 0,i6 0,.slice none 0 0]) y.sat;have R:=Sat.HC (A:=[_,_,_]) (X:=[_,_]) v;refine K (B1+2) i (by omega) ?_ (by omega);exact(R.ff (r:=fR ⟨kN.g,0,none⟩ 1 kN.v (kN.o+kN.c) true) rfl rfl).perm (iQ (l₁:=[_,_,_])).symm
def qQ(V:Ev0)(lb:cm)(j:Nat):Value:=if j=V.nl then .iface 138 (ptr (lb j))else U7 (V.ly j).k (lb j)
theorem vW(V:Ev0)(lb:cm)(j:Nat):∃ty,qQ V lb j=.iface ty (ptr (lb j)):=by
 unfold qQ;split
 .exact⟨_,rfl⟩
 .exact Gh ..
def gT(V:Ev0)(lb:cm)(j:Nat):List aJ:=(List.range' j (V.nl-j)).flatMap λi=>gR (V.ly i) (lb i) gz kN
theorem TN(V:Ev0)(lb:cm):gT V lb V.nl=[]:=by unfold gT;rw[Nat.sub_self];rfl
theorem J9{a:Nat}(hj:j<V.nl):gT V (upd lb j a) j=gR (V.ly j) a gz kN++gT V lb (j+1):=by
 unfold gT;rw[show V.nl-j=(V.nl-(j+1))+1 by omega,List.range'_succ,EC]
 congr 1
 .simp[upd]
 .rw[List.flatMap_def,List.flatMap_def]
  congr 1
  refine zA λi c=>?_
  have:=(List.mem_range'_1.1 c).1;have e:i≠j:=by omega
  simp[upd,e]
theorem OZ(V:Ev0)(lb:cm)(j:Nat):∀r∈gT V lb j,r.row=none:=λr a=>by
 obtain⟨i,_,h⟩:=nV.1 a;exact Hi _ _ _ _ r h
structure um(V:Ev0)(lb:cm)(J j:Nat)(C:aX):Prop where
 lay:∀i,j<=i->i<V.nl->Has C (uj (lb i) (qQ V lb (i+1)) i J)
 Jd:∀i,j<=i->i<V.nl->(V.ly i).k=1->Has C (oR (lb i) 3 [i6 (V.ly i).a,i6 (V.ly i).b,i6 (V.ly i).c,i6 (V.ly i).d] false)
 Ns:∀i,j<=i->i<V.nl->(V.ly i).k=3->Has C (oR (lb i) 3 [i6 (V.ly i).a,i6 (V.ly i).b] false)
 Ms:∀i,j<=i->i<V.nl->(V.ly i).k=4->Has C (oR (lb i) 3 [i6 (V.ly i).a,i6 (V.ly i).b,i6 (V.ly i).c,i6 (V.ly i).d,i6 (V.ly i).e] false)
theorem um.up{C':aX}(h:um V lb J j C)(d:∀r,Has C r->Has C' r):um V lb J j C':=⟨λi a b=>d _ (h.lay i a b),λi a b c=>d _ (h.Jd i a b c),λi a b c=>d _ (h.Ns i a b c),λi a b c=>d _ (h.Ms i a b c)⟩
theorem Rr(A G X T M:aX):(A++(G++(X++(T++M)))).Perm ((A++X)++((G++T)++M)):=by
 rw[fM,fM];exact kv A (iP G X (T++M))
theorem Bu(F:aC prog main (DX Ok) Ψ)(hB:HB B Ok){bb:aE}(g:bb.kind=.normal)(T:bb.fn=34){cf:aE}{cs:cW}{V:Ev0}{J cap:Nat}{sL:eN}(LM:V.nl<=6)(R:∀k,k<V.nl->(V.ly k).k=1\/(V.ly k).k=2\/(V.ly k).k=3\/(V.ly k).k=4){M:aX}(hL:0<V.nl->∃la,sL=some la/\Has M (fR la 6 (λi=>ym (V.ly i)) V.nl false)):
 ∀(j:Nat)(D:Int)(lb:cm)(X:aX)(U:Act)(w:aj)(B1:Nat),D=(j:Int)-1->j<=V.nl->U.defers=[]->B<=B1->w.heap.size=B1->Flat X->um V lb J j X->
   St Ok B1 29 [(8,i6 D),(7,qQ V lb j),(0,.slice sL V.nl cap),(2,ptr J)] (X++(gT V lb j++M)) 0 U w->
   (∀d H w',Flat H->um V d J 0 H->Sat Ok w' (H++(gT V d 0++M))->(∀i,j<=i->d i=lb i)->(∀r,Has X r->Has H r)->w.heap.size<=w'.heap.size->Ψ (G (cf.finish (qQ V d 0)) cs) w')->
   Ψ (G (bb.at U (pc prog 34 21 [] [])) (cf::cs)) w
 |0,D,lb,X,U,w,B1,hjj,hj,y,hle,iI,v,E,u,K=>by
  obtain⟨ty,f⟩:=vW V lb 0;rw[f]at u;have:D=-1:=by omega
  subst this;refine bP F hB g T y u 13 [] [1] [] 6 (.iface ty (ptr (lb 0))) (λM=>M) 0 34 [false] [] λw1 S1 iH jA=>?_
  have:=K lb X w1 v E S1.sat (λ_ _=>rfl) (λ_ h=>h) (by omega);rw[f]at this;exact this
 |j+1,D,lb,X,U,w,B1,hjj,hj,y,hle,iI,v,E,u,K=>by
  obtain⟨ty,f⟩:=vW V lb (j+1);rw[f]at u;have:D=(j:Int):=by omega
  subst this;obtain⟨la,LP,hHL⟩:=hL (by omega);have Sb:IntKind.wrap .i64 ((j:Int)-1)=(j:Int)-1:=aA (by omega) (by omega);have Y:=u.get ((hHL.app _).app X);subst LP;have hjb:(j:Int)<(V.nl:Int):=by omega
  have hj0:decide ((0:Int)<=(j:Int))=true:=by simp
  clear u;have u:=Y;clear Y;refine bA F hB g y u 19 [0,j,0,106] [3,2] [] [(26,.agg #[.iface ty (.pointer (some (Addr.mk (lb (j+1)) 0 none))),i6 j,ptr J]),(22,.agg #[i6 (V.ly j).k,i6 (V.ly j).a,i6 (V.ly j).b,i6 (V.ly j).c,i6 (V.ly j).d,i6 (V.ly j).e]),(8,i6 j),(0,.slice (some la) V.nl cap),(2,ptr J)] (λM=>M) 0 40 [true] [] [] [((↑j:Int),V.nl)] [(6,(j,V.nl))] λa1 w1 S1 kJ iH jA dS=>?_
  refine bK F g kJ S1 27 48 #[.agg #[i6 (V.ly j).k,i6 (V.ly j).a,i6 (V.ly j).b,i6 (V.ly j).c,i6 (V.ly j).d,i6 (V.ly j).e],.agg #[.iface ty (.pointer (some (Addr.mk (lb (j+1)) 0 none))),i6 j,ptr J]] λgJ S=>?_
  refine RO F (λa wr z=>hB a wr (by omega)) (x:=V.ly j) (num:=j) (ty:=ty) (b:=lb (j+1)) (R j (by omega)) S1.sat (az _) λc w2 ZW p je=>S _ _ _ p λa2 B2 S2 jQ fV=>?_
  obtain⟨I,e2⟩:=Gh (V.ly j).k c;rw[e2]at S2;generalize Ym:oR c 0 [.iface ty (ptr (lb (j+1))),i6 (j:Int),ptr J] false::oR c 3 (El (V.ly j)) false::(gR (V.ly j) c gz kN++fR la 6 (λi=>ym (V.ly i)) V.nl false::(X++(gT V lb (j+1)++M)))=M2 at S2;refine aq F hB g jQ S2 9 [] [] [] [(8,i6 (IntKind.wrap .i64 ((↑j:Int)-1))),(7,.iface I (ptr c)),(0,.slice (some la) V.nl cap),(2,ptr J)] (λM=>M) 0 50 [true] [] λa3 w3 W jF gQ ji dX=>?_
  rw[show pc prog 34 50 [true] []=pc prog 34 21 [] [] by kernel_rfl];rw[Sb]at W;subst Ym;have hjn:j≠V.nl:=by omega
  have Q:∀i,i≠j->qQ V (upd lb j c) i=qQ V lb i:=λi Z=>by
   unfold qQ upd;rw[af Z]
  have hlj:qQ V (upd lb j c) j=.iface I (ptr c):=by
   unfold qQ upd;rw[af hjn,ah rfl];exact e2
  rw[<-hlj]at W;have ul:upd lb j c j=c:=by unfold upd;rw[ah rfl]
  have un:∀i,i≠j->upd lb j c i=lb i:=λi Z=>by unfold upd;rw[af Z]
  have h5:Sat Ok w3 ((oR c 0 [.iface ty (ptr (lb (j+1))),i6 (j:Int),ptr J] false::oR c 3 (El (V.ly j)) false::X)++(gT V (upd lb j c) j++M)):=by
   rw[J9 (by omega)];have h6:=W.sat.sub (M':=oR c 0 [.iface ty (ptr (lb (j+1))),i6 (j:Int),ptr J] false::oR c 3 (El (V.ly j)) false::(gR (V.ly j) c gz kN++(X++(gT V lb (j+1)++M)))) (.cons_cons _ (.cons_cons _ (nR (.cons _ (.refl _)) _)));exact h6.perm (Rr [oR c 0 [.iface ty (ptr (lb (j+1))),i6 (j:Int),ptr J] false,oR c 3 (El (V.ly j)) false] ..)
  refine Bu F hB g T LM R hL j ((j:Int)-1) (upd lb j c) (oR c 0 [.iface ty (ptr (lb (j+1))),i6 (j:Int),ptr J] false::oR c 3 (El (V.ly j)) false::X) a3 w3 _ rfl (by omega) jF (by omega) gQ ((v.cons rfl).cons rfl) ⟨λi h1 p=>?_,λi h1 p t=>?_,λi h1 p t=>?_,λi h1 p t=>?_⟩ ⟨W.env,h5,W.sz⟩ λd H w' g1 g2 g3 g4 g6 g5=>K d H w' g1 g2 g3 (λi Z=>?_) (λr hr=>g6 r hr.cons.cons) (by omega)
  .by_cases e:i=j
   .subst e
    rw[Q (i+1) (by omega),f,ul];exact⟨rfl,0,rfl⟩
   .rw[Q (i+1) (by omega),un i e]
    exact(E.lay i (by omega) p).cons.cons
  .by_cases e:i=j
   .subst e
    rw[ul,show[i6 (V.ly i).a,i6 (V.ly i).b,i6 (V.ly i).c,i6 (V.ly i).d]=El (V.ly i) by unfold El;rw[ah t]];exact⟨rfl,1,rfl⟩
   .rw[un i e]
    exact(E.Jd i (by omega) p t).cons.cons
  .by_cases e:i=j
   .subst e
    rw[ul,show[i6 (V.ly i).a,i6 (V.ly i).b]=El (V.ly i) by unfold El;rw[af (by omega),ah t]];exact⟨rfl,1,rfl⟩
   .rw[un i e]
    exact(E.Ns i (by omega) p t).cons.cons
  .by_cases e:i=j
   .subst e
    rw[ul,show[i6 (V.ly i).a,i6 (V.ly i).b,i6 (V.ly i).c,i6 (V.ly i).d,i6 (V.ly i).e]=El (V.ly i) by unfold El;rw[af (by omega),af (by omega),ah t]];exact⟨rfl,1,rfl⟩
   .rw[un i e]
    exact(E.Ms i (by omega) p t).cons.cons
  .rw[g4 i (by omega)];exact un i (by omega)
theorem IW(F:aC prog main (DX Ok) Ψ)(hB:HB B Ok){a:Nat}(u:V.nl<=6)(x:∀k,k<V.nl->(V.ly k).k=1\/(V.ly k).k=2\/(V.ly k).k=3\/(V.ly k).k=4)(hL:0<V.nl->∃la,sL=some la/\Has M (fR la 6 (λi=>ym (V.ly i)) V.nl false))(hS:Sat Ok w M)(gp:B<=w.heap.size)(h9:n<=9)(K:∀lb HD X w',Flat X->um V lb J 0 X->Has X (uj (lb V.nl) .nilIface (-1) J)->Has X (oR (lb V.nl) 3 [.slice sa n a,.slice (some ⟨HD,0,none⟩) n n] false)->Sat Ok w' (X++(gT V lb 0++(fR ⟨HD,0,none⟩ 1 (λ_=>[i6 0]) n true::M)))->w.heap.size<=w'.heap.size->Ψ (G (cf.finish (qQ V lb 0)) cs) w'):
 Ψ (G (Frame.enter prog 34 #[.slice sL V.nl cap,.slice sa n a,ptr J] .normal) (cf::cs)) w:=by
 refine dg f34 func34 _ rfl 29 (by kernel_rfl) hS λbb a0 B1 hn c I H S0 Y=>?_
 refine aq F hB c H S0 8 [] [] [] [(10,ptr J),(9,.slice sa n a),(0,.slice sL V.nl cap),(2,ptr J)] (λM=>M) 0 8 [] [] λa1 w1 S E W jA dS=>?_
 refine bK F c E S 11 47 #[.slice sa n a,ptr J] λgJ g=>?_
 refine Pu F hB S.sat (by omega) h9 λlb HD w2 d je _=>g _ _ _ d λa2 B2 S2 D U=>?_
 have t:IntKind.wrap .i64 ((V.nl:Int)-1)=(V.nl:Int)-1:=aA (by omega) (by omega);refine aq F hB c D S2 12 [] [] [] [(8,i6 (IntKind.wrap .i64 ((↑V.nl:Int)-1))),(7,.iface 138 (ptr lb)),(0,.slice sL V.nl cap),(2,ptr J)] (λM=>M) 0 21 [] [] λa3 T Q y p Z dX=>?_
 rw[t]at Q;have v:qQ V (λ_=>lb) V.nl=.iface 138 (ptr lb):=by unfold qQ;rw[ah rfl]
 rw[<-v]at Q;refine Bu F hB c I u x (M:=fR ⟨HD,0,none⟩ 1 (λ_=>[i6 0]) n true::M) (λz=>by obtain⟨la,h,d⟩:=hL z;exact⟨la,h,d.cons⟩) V.nl _ (λ_=>lb) [oR lb 0 [.nilIface,i6 (-1),ptr J] false,oR lb 3 [.slice sa n a,.slice (some ⟨HD,0,none⟩) n n] false] a3 T _ rfl (az _) y (by omega) p ((Flat.nil.cons rfl).cons rfl) ⟨λi h d=>by omega,λi h d=>by omega,λi h d=>by omega,λi h d=>by omega⟩ (by rw[TN];exact Q) λf X' w' g1 g2 g3 g4 R g5=>?_
 have e:f V.nl=lb:=g4 V.nl (az _);exact K f HD X' w' g1 g2 (by rw[e];exact R _ ⟨rfl,0,rfl⟩) (by rw[e];exact R _ ⟨rfl,1,rfl⟩) g3 (by omega)
theorem qJ(h:∀j,j<vs.length->w.cell? ⟨b,o+j,none⟩=some (vs.getD j undef)/\w.frozen? ⟨b,o+j,none⟩=false)(ho:∀j,j<vs.length->Ok ⟨b,o+j,none⟩ false/\Ok ⟨b,o+j,none⟩ true):uq Ok w (oR b o vs true):=by
 refine⟨λj hj=>?_,λj hj=>⟨(ho j.2 hj.2).1,λz=>⟨(ho j.2 hj.2).2,(h j.2 hj.2).2⟩⟩,λ_ j j' hj c e=>?_,λg e n z=>(by cases z)⟩
 .have a:j.2<vs.length:=hj.2
  have:=(h j.2 a).1;cases vs with
  |nil=>cases a
  |cons z zs=>exact this
 .have e2:o+j.2=o+j'.2:=cP Addr.off e
  have d:j.1<1:=hj.1;have a:j'.1<1:=c.1;exact uu (by omega) (by omega)
theorem KC(F:aC prog main (DX Ok) Ψ)(hB:HB B Ok){es:jg}{cl:Nat}{at':Int}(R:Sat Ok w (pM s++(oR s.k.A 2 [i6 k] true::C)))(I:PV Ok s es)(hC:Flat C)(gp:B<=w.heap.size)(hq:es.length<900)(Z0:k<900)(K:∀ba bw aR T bt en eb i w',i<=es.length->kP es at' i->Sat Ok w' (pM {s with en:=en,eb:=eb}++(oR s.k.A 2 [i6 ((k:Int)+1)] true::oR T 0 [ptr s.k.A,i6 k,i6 cl,.chan (some aR)] false::fI T (.pointer none) false::oR ba 0 [ptr s.k.A] false::oR bw 0 [.func (.func 37) #[] #[ptr bl,ptr bo,ptr bi]] false::oR bt 0 [ptr T] false::C))->
 PV Ok {s with en:=en,eb:=eb} (es.take i++(at',.func (.func 50) #[] #[ptr ba,ptr bt,ptr bw])::es.drop i)->b8 w' aR->w.heap.size<=aR->w.heap.size<=w'.heap.size->Kp (bU s.en) w w' [⟨s.k.A,1,none⟩,⟨s.k.A,2,none⟩]->Ψ (G (cf.finish (ptr T)) cs) w'):
 Ψ (G (Frame.enter prog 36 #[ptr s.k.A,i6 cl,i6 at',.func (.func 37) #[] #[ptr bl,ptr bo,ptr bi]] .normal) (cf::cs)) w:=by
 have S:=R.ok 0 _ rfl (0,1) ⟨aG,ij 1⟩;have Ip:=R.val 0 _ rfl (0,1) ⟨aG,ij 1⟩;have h7:nth (pM s++(oR s.k.A 2 [i6 k] true::C)) 7=some (oR s.k.A 2 [i6 k] true):=rfl;have Qv:=R.val 7 _ h7 (0,0) ⟨aG,aG⟩;have E:=R.ok 7 _ h7 (0,0) ⟨aG,aG⟩;have Vy:=au Ip;have he:eX (s.k.A+1) w s.en es:=wC (i:=1) R rfl I.en λz=>(I.eo z).1
 have Y:∀g,g∈bU s.en->s.eb.c=1/\g=s.eb.E:=λg Q=>by
  rcases I.en.2 with ⟨U,z2,z3⟩|⟨o,c,U,z2,_⟩
  .rw[U,bq]at Q;simp[Value.ownBlock]at Q
  .rw[U,bq]at Q;simp[Value.ownBlock]at Q;exact⟨z2,Q.symm⟩
 refine HU (s.k.A+1) s.k.A bl bo bi cl k at' s.en es w (by exact Vy) (ij _) he hq Z0 Ip Qv (S.2 rfl).2 (E.2 rfl).2 S.1 (S.2 rfl).1 E.1 (E.2 rfl).1 (λa wr h=>?_) Ψ F cf cs λv w' hp=>?_
 .rcases h with h|h
  .obtain⟨U,z2⟩:=Y _ h;exact(I.eo U).2 a wr z2
  .exact hB a wr (by omega)
 obtain⟨ba,bw,aR,T,bt,P,oU,i,rfl,hk,⟨n1,n2,n3,n4,n5,n6,n7,n8,n9,n10,n11,n12⟩,Qq,Vt,G4,D,gI,c1,c2,d1,d2,hi,Oj,c3,c4⟩:=hp;have Z:(es.take i++(at',Value.func (.func 50) #[] #[ptr ba,ptr bt,ptr bw])::es.drop i).length=es.length+1:=by simp;omega
 have Of:=mj (b:=s.k.A) R I (hC.cons rfl) (i0:=0) (j0:=(0,0)) rfl (by decide) (by decide) ⟨aG,(by decide:0<2)⟩ rfl;have Qr:Sat Ok w (bR s.k.A [i6 s.l.now,s.en]::eR s.eb::((pM s).tail.tail++C)):=R.D6 (A:=pM s)
 have h7d:∀r∈bR s.k.A [i6 s.l.now,s.en]::eR s.eb::((pM s).tail.tail++C),Dj (oR s.k.A 2 [i6 k] true) r:=by
  have:=R.perm (iQ (a:=oR s.k.A 2 [i6 k] true) (l₁:=pM s) (l₂:=C));exact(dI.1 (sat_iff.1 this).2).1
 have h20:∀v:Value,(oR s.k.A 2 [v] true).has (0,0):=λv=>⟨aG,aG⟩
 obtain⟨lC,q1,q2,q3,q4,q5⟩:=Sat.Mi (C':=[⟨s.k.A,2,none⟩]) Qr I.en (λz=>(I.eo z).1) (λa wr z=>hB a wr (by omega)) (λz=>(I.eo z).2) (λa ha=>by simp at ha;subst ha;exact⟨rfl,(by decide:2≠0)⟩) (λi r hi j hj z=>by
  simp only[ak,bB,or_false]at z;exact h7d r (aO _ (aO _ (gH hi))) (.inl rfl) (0,0) j (h20 _) hj z.symm) hk c1 c2 c3 (λg Q=>(c4 g Q).imp id λz=>by omega) (by rw[Z];omega) (λi r g e n hi Q=>λz=>Of r (by
  have:=gH hi;rcases dZ.1 this with z|z
  .exact lE _ (aO _ (aO _ z))
  .exact kX _ (aO _ z)) g e n Q z.symm)
 have Tx:(lC.E<w.heap.size\/P<=lC.E):=by
  rcases q2.2 with ⟨_,_,z⟩|⟨o,c,z,_⟩
  .rw[q3]at z;cases z
  .rcases c4 lC.E (by rw[z,bq];simp[Value.ownBlock])with y|y
   .obtain⟨y1,y2⟩:=Y _ y
    obtain⟨cu,u1,_⟩:=wD R (i:=1) rfl y1;rw[y2];exact .inl (cH.1 u1).1
   .exact .inr y
 have hwA:s.k.A<w.heap.size:=Vy
 have f:∀(b o:Nat)(vs:iG)(wr:Bool),w.heap.size<=b->b<P->∀r∈bR s.k.A [i6 s.l.now,oU]::eR lC::((pM s).tail.tail++C),Dj (oR b o vs wr) r:=λb o vs wr h1 h2 r d _ j j' hj H e=>by
  have e1:b=(r.ad j').block:=cP Addr.block e;rcases ak.1 d with rfl|d
  .have:(b:Nat)=s.k.A:=e1
   omega
  .rcases ak.1 d with rfl|d
   .have:(b:Nat)=lC.E:=e1
    omega
   .have:=Qr.blk (aO _ (aO _ d)) H
    omega
 have Yy:∀r∈bR s.k.A [i6 s.l.now,oU]::eR lC::((pM s).tail.tail++C),Dj (oR s.k.A 2 [i6 ((k:Int)+1)] true) r:=λr d hw j j' hj H e=>by
  rcases ak.1 d with rfl|d
  .have e1:2+j.2=j'.2:=cP Addr.off e
   have:j'.2<2:=H.2;omega
  .rcases ak.1 d with rfl|d
   .have e1:s.k.A=lC.E:=cP Addr.block e
    omega
   .exact h7d r (aO _ (aO _ d)) (.inl rfl) j j' hj H e
 have x:∀(r r':aJ),r.wr=false->r'.wr=false->Dj r r':=λr r' h1 h2 hw=>by
  rcases hw with z|z
  .rw[h1]at z;cases z
  .rw[h2]at z;cases z
 have p:∀(b b' o o':Nat)(vs vs':iG)(wr W:Bool),b≠b'->Dj (oR b o vs wr) (oR b' o' vs' W):=λb b' o o' vs vs' wr W ny _ j j' _ _ e=>ny (cP Addr.block e)
 have t:∀(b o:Nat)(wr:Bool),w.heap.size<=b->Ok ⟨b,o,none⟩ wr:=λb o wr h=>hB _ _ (by show B<=b;omega)
 refine K ba bw aR T bt oU lC i w' hi Oj ?_ ⟨I.jr,q2,λ_=>⟨q4,q5⟩,I.fb⟩ gI (by omega) hk.size hk
 have wj:Sat Ok w' ([oR s.k.A 2 [i6 ((k:Int)+1)] true,oR T 0 [ptr s.k.A,i6 k,i6 cl,.chan (some aR)] false,fI T (.pointer none) false,oR ba 0 [ptr s.k.A] false,oR bw 0 [.func (.func 37) #[] #[ptr bl,ptr bo,ptr bi]] false,oR bt 0 [ptr T] false]++(bR s.k.A [i6 s.l.now,oU]::eR lC::((pM s).tail.tail++C))):=by
  have qq:=sat_iff.1 q1;rw[sat_iff];refine⟨λr d=>?_,xu.2 ⟨?_,qq.2,λr d r' u=>?_⟩⟩
  .rcases dZ.1 d with d|d
   .simp only[ak,bB,or_false]at d
    rcases d with rfl|rfl|rfl|rfl|rfl|rfl
    .refine qJ (λj hj=>?_) (λj hj=>?_)
     .have:j=0:=xz.1 hj
      subst this;exact⟨d1,d2⟩
     .have:j=0:=xz.1 hj
      subst this;exact⟨E.1,(E.2 rfl).1⟩
    .refine nj (λj hj=>?_) (λj hj=>t _ _ _ (by omega))
     match j,hj with
     |0,_=>exact D.t0
     |1,_=>exact D.t1
     |2,_=>exact D.t2
     |3,_=>exact D.t3
    .refine qJ (λj hj=>?_) (λj hj=>⟨t _ _ _ (by omega),t _ _ _ (by omega)⟩)
     match j,hj with
     |0,_=>exact⟨D.t4,D.z4⟩
     |1,_=>exact⟨D.t5,D.z5⟩
     |2,_=>exact⟨D.t6,D.z6⟩
     |3,_=>exact⟨D.t7,D.z7⟩
    .exact nj (λj hj=>by have:j=0:=xz.1 hj
                         subst this;exact Qq) (λj hj=>t _ _ _ (by omega))
    .exact nj (λj hj=>by have:j=0:=xz.1 hj
                         subst this;exact Vt) (λj hj=>t _ _ _ (by omega))
    .exact nj (λj hj=>by have:j=0:=xz.1 hj
                         subst this;exact G4) (λj hj=>t _ _ _ (by omega))
   .exact qq.1 r d
  .simp only[dI,ak,bB,or_false,forall_eq_or_imp,forall_eq,false_implies,implies_true,and_true,List.Pairwise.nil]
   refine⟨⟨p _ _ _ _ _ _ _ _ (by omega),p _ _ _ _ _ _ _ _ (by omega),p _ _ _ _ _ _ _ _ (by omega),p _ _ _ _ _ _ _ _ (by omega),p _ _ _ _ _ _ _ _ (by omega)⟩,⟨?_,x _ _ rfl rfl,x _ _ rfl rfl,x _ _ rfl rfl⟩,⟨p _ _ _ _ _ _ _ _ (by omega),p _ _ _ _ _ _ _ _ (by omega),p _ _ _ _ _ _ _ _ (by omega)⟩,⟨x _ _ rfl rfl,x _ _ rfl rfl⟩,x _ _ rfl rfl⟩;intro _ j j' hj H e;have e1:0+j.2=4+j'.2:=cP Addr.off e;have:j.2<4:=hj.2;omega
  .simp only[ak,bB,or_false]at d
   rcases d with rfl|rfl|rfl|rfl|rfl|rfl
   .exact Yy r' (by simpa using u)
   .exact f _ _ _ _ (by omega) (by omega) r' (by simpa using u)
   .exact f _ _ _ _ (by omega) (by omega) r' (by simpa using u)
   .exact f _ _ _ _ (by omega) (by omega) r' (by simpa using u)
   .exact f _ _ _ _ (by omega) (by omega) r' (by simpa using u)
   .exact f _ _ _ _ (by omega) (by omega) r' (by simpa using u)
 exact wj.perm (iP _ (pM {s with en:=oU,eb:=lC}) C)
def Dy(o:Oper)(s d t:Nat):Bool:=o.guard.isNone&&(match o.dst with|some d'=>d'==d|none=>false)&&(match o.op with
 |.makeSlice t' (.tmp a) (.tmp b)=>t'==t&&a==s&&b==s
 |_=>false)
theorem BT{o:Oper}{s d t:Nat}(h:Dy o s d t=true):o.guard=none/\o.dst=some d/\o.op=.makeSlice t (.tmp s) (.tmp s):=by
 unfold Dy at h;simp only[cq]at h;obtain⟨⟨g,e⟩,c⟩:=h;refine⟨by simpa using g,?_,?_⟩
 .split at e
  .rename_i x f;rw[f];simp at e;rw[e]
  .cases e
 .split at c
  .rename_i v a b ho
   simp only[cq,beq_iff_eq]at c;obtain⟨⟨u,p⟩,i⟩:=c;subst u;subst p;subst i;exact ho
  .cases c
theorem LB(F:aC prog main (DX Ok) Ψ)(hB:HB B Ok){b:aE}(hk:b.kind=.normal){c:Nat}{E:Env}{a:Act}{t:eF}(s d:Nat)(ho:lm t=true)(x:Dy (aQ t) s d 32=true)(hd:d<N)(I:look E s=some (i6 n))(D:n<=9)(S:St Ok B N E M c a w)(K:∀a' w',Sat Ok w' (fR ⟨w.heap.size,0,none⟩ 4 (λ_=>[i6 0,i6 0,i6 0,.slice none 0 0]) n true::M)->aN ((d,.slice (some ⟨w.heap.size,0,none⟩) n n)::E) N a'->a'.defers=a.defers->w'.heap.size=w.heap.size+1->Kp [] w w'->Ψ (G (b.at a' (jY t)) cs) w'):Ψ (G (b.at a t) cs) w:=by
 obtain⟨Y,i,r,kk,ht,y,hn⟩:=dO ho;obtain⟨g1,g2,Q⟩:=BT x;have p:a.eval (.tmp s)=i6 n:=by rw[S.env.eval (by simp[kn,I])];simp[ev,I]
 have gp:B<=w.heap.size:=by rw[S.sz];exact Bm _ _
 have f:∀d,(execOp a.eval (aQ t)).run prog (w.at d)=.ok (.value (.slice (some ⟨w.heap.size,0,none⟩) n n)) ((w.at d).alloc (.cells (KZ n).toArray 46)):=λd=>by
  unfold execOp;rw[Q];simp only[p];have:=ZJ n D (w.at d);simp[this]
  rfl
 have g:∀d,raw prog a (aQ t) (w.at d)=#[]:=λd=>by
  unfold raw execOp;rw[Q];simp only[p];have h1:=ZJ n D (w.at d);have h2:=Wk n D (w.at d) #[];simp[h1,h2]
 rw[ht];refine F.op y (by simp[Region.wanted,g1]) (by rw[hk];decide) (λd' K' z=>?_);rw[f d',alloc_at'];generalize e:World.alloc w _=u;have H:Kp [] w u:=Kp.alloc e;have Z:=gr e rfl;have v:u.heap.size=w.heap.size+1:=by omega
 refine z _ u ⟨?_,?_⟩
 .rw[g,<-e,<-alloc_at']
  exact DX.alloc _ _ (by simp)
 .rw[<-hn,g2]
  refine K _ u (S.sat.sJ H (N:=[_]) (λr h=>?_) (MO ..) (λr h j hj=>?_)) (S.env.put hd) (put_defers _ _ _) v H
  .simp only[ak,bB,or_false]at h
   subst h;refine rX (λj hj i hi=>?_) (λa wr ha=>hB _ _ (by omega));obtain⟨W,U,T,R⟩:=ES n j hj;refine⟨?_,bY e rfl _⟩
   match i,hi with
   |0,_=>exact aV (i:=j*4+0) e rfl (by simpa using W)
   |1,_=>exact aV (i:=j*4+1) e rfl (by simpa using U)
   |2,_=>exact aV (i:=j*4+2) e rfl (by simpa using T)
   |3,_=>exact aV (i:=j*4+3) e rfl (by simpa using R)
  .simp only[ak,bB,or_false]at h
   subst h
   show w.heap.size<=(((⟨w.heap.size,0,none⟩:Addr).add (j.1*4)).add j.2).block
   rw[add_add];exact az _
def K2(w0:aj)(A:Nat)(cc:aP)(w:aj):Prop:=Old w0 w/\KL [] cc w/\(w.cell? ⟨A,5,none⟩=some (.int .u64 0)/\w.frozen? ⟨A,5,none⟩=false)/\QD A w
theorem Gr:∀w d,K2 w0 A cc w->K2 w0 A cc (w.at d):=λ_ _ h=>h
theorem RX(c:A∈l):∀w w' es,DX (cJ w0.heap.size l []) w w' es->K2 w0 A cc w->K2 w0 A cc w':=λw w' es D h=>by
 have f:¬cJ w0.heap.size l [] ⟨A,5,none⟩ true:=λo=>o.1 ⟨A,c,.inl rfl⟩
 obtain⟨e,d⟩:=D.cell _ f (au h.2.2.1.1);exact⟨Ae (λa o=>(o.2 rfl).1) _ _ _ D h.1,LD (λp g=>by cases g) _ _ _ D h.2.1,⟨e.trans h.2.2.1.1,d.trans h.2.2.1.2⟩,Lq c D h.2.2.2⟩
theorem O1(a:A∈l)(n:Nat):aC prog true (DX (cJ w0.heap.size l [])) (nQ prog Post (K2 w0 A cc) (jl l) n):=
 HW (h:=0) Gr (HA (λad z=>z.elim) (λad wr z o=>o.1 z) (RX a)) DX.idle wE rfl
theorem Rz(F:aC prog main (DX Ok) Ψ)(hB:∀(a:Addr)(wr:Bool),B<=a.block->(a.off=5\/a.off=6)\/Ok a wr)(x:Sat Ok w M)(y:B<=w.heap.size)(K:∀wc ec w',Sat Ok w' (bR (w.heap.size+2) [i6 0,.slice none 0 0]::oR (w.heap.size+2) 2 [i6 0] true::oR (w.heap.size+2) 3 [.chan (some wc),.chan (some ec)] false::M)->b8 w' wc->b8 w' ec->w.heap.size<=wc->w.heap.size<=ec->wc≠ec->w'.heap.size=w.heap.size+3->Kp [] w w'->CR w' (w.heap.size+2) wc ec->Ψ (G (cf.finish (ptr (w.heap.size+2))) cs) w'):
 Ψ (G (Frame.enter prog 35 #[] .normal) (cf::cs)) w:=by
 refine vT w _ F _ _ (λv i u=>?_);obtain⟨wc,ec,rfl,p,t,Q,U,I,T,H,o1,o2,ag⟩:=u
 have c:∀(o:Nat)(wr:Bool),o≠5->o≠6->Ok ⟨w.heap.size+2,o,none⟩ wr:=λo wr E D=>by
  rcases hB ⟨w.heap.size+2,o,none⟩ wr (by show B<=w.heap.size+2;omega)with (z|z)|z
  .exact absurd z E
  .exact absurd z D
  .exact z
 refine K wc ec i (x.sJ p (N:=[_,_,_]) (λr f=>?_) ?_ (λr f j hj=>?_)) o1 o2 Q I H t p ag
 .simp only[ak,bB,or_false]at f
  rcases f with rfl|rfl|rfl
  .have:=qJ (Ok:=Ok) (w:=i) (b:=w.heap.size+2) (o:=0) (vs:=[i6 0,.slice none 0 0]) (λj hj=>?_) (λj hj=>?_)
   .refine⟨λj hj=>?_,λj hj=>?_,λ_ j j' hj d e=>?_,λg e n z=>(by cases z)⟩
    .have h:=this.val j hj;rw[show(oR (w.heap.size+2) 0 [i6 0,.slice none 0 0] true).ad j=⟨w.heap.size+2,j.2,none⟩ by show(⟨_,0+j.2,none⟩:Addr)=_;rw[bD]]at h;exact h
    .have h:=this.ok j hj;rw[show(oR (w.heap.size+2) 0 [i6 0,.slice none 0 0] true).ad j=⟨w.heap.size+2,j.2,none⟩ by show(⟨_,0+j.2,none⟩:Addr)=_;rw[bD]]at h;exact h
    .have e2:j.2=j'.2:=cP Addr.off e
     have S:j.1<1:=hj.1;have R:j'.1<1:=d.1;exact uu (by omega) e2
   .match j,hj with
    |0,_=>exact⟨ag.a0,ag.z _⟩
    |1,_=>exact⟨ag.a1,ag.z _⟩
   .match j,hj with
    |0,_=>exact⟨c _ _ (by decide) (by decide),c _ _ (by decide) (by decide)⟩
    |1,_=>exact⟨c _ _ (by decide) (by decide),c _ _ (by decide) (by decide)⟩
  .refine qJ (λj hj=>?_) (λj hj=>?_)
   .match j,hj with
    |0,_=>exact⟨ag.a2,ag.z _⟩
   .match j,hj with
    |0,_=>exact⟨c _ _ (by decide) (by decide),c _ _ (by decide) (by decide)⟩
  .refine nj (λj hj=>?_) (λj hj=>?_)
   .match j,hj with
    |0,_=>exact ag.a3
    |1,_=>exact ag.a4
   .match j,hj with
    |0,_=>exact c _ _ (by decide) (by decide)
    |1,_=>exact c _ _ (by decide) (by decide)
 .simp only[dI,ak,bB,or_false,forall_eq_or_imp,forall_eq,false_implies,implies_true,and_true,List.Pairwise.nil]
  refine⟨⟨λ_ j j' hj d e=>?_,λ_ j j' hj d e=>?_⟩,λ_ j j' hj d e=>?_⟩
  .have e1:j.2=2+j'.2:=cP Addr.off e
   have:j.2<2:=hj.2;omega
  .have e1:j.2=3+j'.2:=cP Addr.off e
   have:j.2<2:=hj.2;omega
  .have e1:2+j.2=3+j'.2:=cP Addr.off e
   have:j.2<1:=hj.2;omega
 .simp only[ak,bB,or_false]at f
  rcases f with rfl|rfl|rfl
  .show w.heap.size<=w.heap.size+2;omega
  .show w.heap.size<=w.heap.size+2;omega
  .show w.heap.size<=w.heap.size+2;omega
theorem Rk(F:aC prog true (DX Ok) Ψ)(hB:HB B Ok)(hV:vf V)(hL:0<V.nl->∃la,sL=some la/\Has M (fR la 6 (λi=>ym (V.ly i)) V.nl false))(hS:Sat Ok w M)(gp:B<=w.heap.size)(XU:QO Ok Ψ B M 16 #[.slice sL V.nl cr,.slice sa V.nc cap] (.tuple #[i6 0,i6 0]))(K:∀(bb:aE)(v:Act)(f:aj)(B7:Nat)(lb:cm)(HD J O bl bo rs:Nat)(X:aX),bb.kind=.normal->bb.fn=24->v.defers=[]->f.heap.size=B7->w.heap.size<=B7->Flat X->um V lb J 0 (X++M)->Has X (uj (lb V.nl) .nilIface (-1) J)->Has X (oR (lb V.nl) 3 [.slice sa V.nc cap,.slice (some ⟨HD,0,none⟩) V.nc V.nc] false)->
 St Ok B7 53 [(11,ptr bo),(10,ptr bl),(9,ptr J),(4,ptr rs),(1,.slice sa V.nc cap)] (bR bo [.slice (some ⟨O,0,none⟩) V.nc V.nc]::fR ⟨O,0,none⟩ 4 (λ_=>[i6 0,i6 0,i6 0,.slice none 0 0]) V.nc true::bR bl [qQ V lb 0]::fR ⟨HD,0,none⟩ 1 (λ_=>[i6 0]) V.nc true::bR J [.slice none 0 0]::bR rs [.slice none 0 0,.slice none 0 0]::(gT V lb 0++(X++M))) 0 v f->
 Ψ (G (bb.at v (pc prog 24 47 [false] [])) (cf::cs)) f):
 Ψ (G (Frame.enter prog 24 #[.slice sL V.nl cr,.slice sa V.nc cap] .normal) (cf::cs)) w:=by
 have h9:=hV.nc;have h6:=hV.nl;refine dg f24 func24 _ rfl 53 (by kernel_rfl) hS λbb a0 B1 hn c iK Z S0 iI=>?_
 refine aq F hB c Z S0 11 [] [] [] [(17,.slice sa V.nc cap),(16,.slice sL V.nl cr),(4,ptr B1),(0,.slice sL V.nl cr),(1,.slice sa V.nc cap)] (λM=>bR (B1) [.slice none 0 0,.slice none 0 0]::(M)) 1 11 [] [] λa1 w1 S1 Y iH jA dS=>?_
 refine bK F c Y S1 18 16 #[.slice sL V.nl cr,.slice sa V.nc cap] λgJ u=>?_
 refine XU _ _ _ _ (λr I=>I.cons) S1.sat (by omega) λw2 h2 U8=>u _ _ _ h2 λa2 e S2 W fV=>?_
 refine aq F hB c W S2 21 [] [1] [] [(27,.slice sa V.nc cap),(26,.slice sL V.nl cr),(9,ptr e),(4,ptr B1),(1,.slice sa V.nc cap)] (λM=>bR (e) [.slice none 0 0]::(M)) 1 33 [false] [] λa3 w3 S3 U gQ ji dX=>?_
 refine bK F c U S3 28 34 #[.slice sL V.nl cr,.slice sa V.nc cap,ptr e] λlq t=>?_
 refine IW F hB h6 hV.kd (λz=>by obtain⟨la,e1,e2⟩:=hL z;exact⟨la,e1,e2.cons.cons⟩) S3.sat (by omega) h9 λlb HD X w4 Q hI Av uf h4 oB=>t _ _ _ h4 λa4 x S4 T jP=>?_
 obtain⟨ty,g⟩:=vW V lb 0;rw[g]at S4;generalize hX:X++(gT V lb 0++(fR ⟨HD,0,none⟩ 1 (λ_=>[i6 0]) V.nc true::bR e [.slice none 0 0]::bR B1 [.slice none 0 0,.slice none 0 0]::M))=M4 at S4;refine aq F hB c T S4 7 [0,0,0,1] [] [] [(30,i6 V.nc),(10,ptr x),(9,ptr e),(4,ptr B1),(1,.slice sa V.nc cap)] (λM=>bR (x) [.iface ty (ptr (lb 0))]::(M)) 1 41 [false] [] λa5 w5 S5 S mz kT jv=>?_
 refine LB F (λa wr z=>hB a wr (by omega)) c 30 31 (by kernel_rfl) (by kernel_rfl) (by decide) rfl h9 S5 λa6 D H Qt d oS k6=>?_
 rw[show jY (pc prog 24 41 [false] [])=pc prog 24 42 [false] [] by kernel_rfl];have S6:St Ok D.heap.size 53 _ _ 0 a6 D:=⟨Qt,H,rfl⟩;have p:a6.defers=[]:=d.trans S;clear d;have d:=p;generalize hB6:D.heap.size=y at*;generalize hO:w5.heap.size=O at*;refine aq F hB c d S6 5 [0,0,0,1] [] [] [(11,ptr y),(10,ptr x),(9,ptr e),(4,ptr B1),(1,.slice sa V.nc cap)] (λM=>bR (y) [.slice (some ⟨O,0,none⟩) V.nc V.nc]::(M)) 1 47 [false] [] λv f S7 R oA oT tu=>?_
 subst hX
 have E:Sat Ok f (bR y [.slice (some ⟨O,0,none⟩) V.nc V.nc]::fR ⟨O,0,none⟩ 4 (λ_=>[i6 0,i6 0,i6 0,.slice none 0 0]) V.nc true::bR x [qQ V lb 0]::fR ⟨HD,0,none⟩ 1 (λ_=>[i6 0]) V.nc true::bR e [.slice none 0 0]::bR B1 [.slice none 0 0,.slice none 0 0]::(gT V lb 0++(X++M))):=by
  rw[g];refine S7.sat.perm (List.Perm.cons _ (List.Perm.cons _ (List.Perm.cons _ ?_)));have h:=iP (X++gT V lb 0) [fR ⟨HD,0,none⟩ 1 (λ_=>[i6 0]) V.nc true,bR e [.slice none 0 0],bR B1 [.slice none 0 0,.slice none 0 0]] M;rw[fM,fM]at h;exact h.trans (kv _ (iP ..))
 exact K bb v f _ lb HD e O x y B1 X c iK R rfl (by omega) Q (hI.up λr I=>I.pre _) Av uf ⟨S7.env,E,rfl⟩
structure Bg where
 T:Nat->Nat
 aR:Nat->Nat
 ba:Nat->Nat
 bt:Nat->Nat
 bw:Nat->Nat
 bi:Nat->Nat
def Bg.put(f:Bg)(k T aR ba bt bw bi:Nat):Bg:=⟨upd f.T k T,upd f.aR k aR,upd f.ba k ba,upd f.bt k bt,upd f.bw k bw,upd f.bi k bi⟩
def AZ(A bl bo:Nat)(f:Bg)(j:Nat):List aJ:=[oR (f.T j) 0 [ptr A,i6 j,i6 j,.chan (some (f.aR j))] false,oR (f.ba j) 0 [ptr A] false,oR (f.bw j) 0 [.func (.func 37) #[] #[ptr bl,ptr bo,ptr (f.bi j)]] false,oR (f.bt j) 0 [ptr (f.T j)] false,oR (f.bi j) 0 [i6 j] false]
def tD(A bl bo:Nat)(f:Bg)(k:Nat):List aJ:=(List.range k).flatMap (AZ A bl bo f)
def qv(f:Bg)(k:Nat):List aJ:=(List.range k).flatMap λj=>[fI (f.T j) (.pointer none) false]
def Nq(f:Bg)(j:Nat):Value:=.func (.func 50) #[] #[ptr (f.ba j),ptr (f.bt j),ptr (f.bw j)]
theorem kD(f:Bg)(h:j<k)(T aR ba bt bw bi:Nat):(f.put k T aR ba bt bw bi).T j=f.T j/\(f.put k T aR ba bt bw bi).aR j=f.aR j/\(f.put k T aR ba bt bw bi).ba j=f.ba j/\(f.put k T aR ba bt bw bi).bt j=f.bt j/\(f.put k T aR ba bt bw bi).bw j=f.bw j/\(f.put k T aR ba bt bw bi).bi j=f.bi j:=by
 simp[Bg.put,upd,xx h]
theorem r9(f:Bg)(k T aR ba bt bw bi:Nat):(f.put k T aR ba bt bw bi).T k=T/\(f.put k T aR ba bt bw bi).aR k=aR/\(f.put k T aR ba bt bw bi).ba k=ba/\(f.put k T aR ba bt bw bi).bt k=bt/\(f.put k T aR ba bt bw bi).bw k=bw/\(f.put k T aR ba bt bw bi).bi k=bi:=by
 simp[Bg.put,upd]
theorem sK(f g:Nat->List aJ):∀k,(∀j,j<k->f j=g j)->(List.range k).flatMap f=(List.range k).flatMap g
 |0,_=>rfl
 |k+1,h=>by
  rw[uz,CV,CV,sK f g k λj hj=>h j (by omega)];simp[h k (by omega)]
theorem KB(A bl bo:Nat)(f:Bg)(k T aR ba bt bw bi:Nat):tD A bl bo (f.put k T aR ba bt bw bi) (k+1)=tD A bl bo f k++[oR T 0 [ptr A,i6 k,i6 k,.chan (some aR)] false,oR ba 0 [ptr A] false,oR bw 0 [.func (.func 37) #[] #[ptr bl,ptr bo,ptr bi]] false,oR bt 0 [ptr T] false,oR bi 0 [i6 k] false]:=by
 unfold tD;rw[uz,CV,sK (AZ A bl bo (f.put k T aR ba bt bw bi)) (AZ A bl bo f) k λj hj=>?_]
 .obtain⟨h,g,e,d,c,a⟩:=r9 f k T aR ba bt bw bi
  simp[AZ,h,g,e,d,c,a]
 .obtain⟨h,g,e,d,c,a⟩:=kD f hj T aR ba bt bw bi
  simp only[AZ,h,g,e,d,c,a]
theorem IJ(f:Bg)(k T aR ba bt bw bi:Nat):qv (f.put k T aR ba bt bw bi) (k+1)=qv f k++[fI T (.pointer none) false]:=by
 unfold qv;rw[uz,CV,sK (λj=>[fI ((f.put k T aR ba bt bw bi).T j) (.pointer none) false]) (λj=>[fI (f.T j) (.pointer none) false]) k λj hj=>?_]
 .obtain⟨a,_⟩:=r9 f k T aR ba bt bw bi
  simp[a]
 .obtain⟨a,_⟩:=kD f hj T aR ba bt bw bi
  simp only[a]
structure zg(V:Ev0)(L:LS):Prop where
 now:L.now=0
 al:L.al=V.nc
 ag:∀i,i<V.nc->(L.ag i).a=V.st i/\(L.ag i).t=(i:Int)/\(L.ag i).c=0/\(L.ag i).o=false
 us:∀i,L.us i=0
 ou:∀i,L.ou i=⟨0,⟨0,0,[]⟩⟩
 el:L.el=0
 gt:∀k,L.gt k=gz
abbrev gC(kk:PK)(L:LS)(f:Bg)(k:Nat)(q:aP)(en:ay)(eb:oV):PS:=
 {k:={kk with T:=f.T,aR:=f.aR,sc:=Nq f},en:=en,eb:=eb,ea:=none,ec:=0,vv:=λ_=>[],oh:=λ_=>.slice none 0 0,q:=q,wb:=λ_=>0,f:=λ_=>kN,l:={L with al:=k}}
structure US(V:Ev0)(bI bE:Nat)(f:Bg)(k:Nat)(w:aj):Prop where
 lt:∀j,j<k->f.aR j<w.heap.size/\bI<f.aR j/\bE<f.aR j
 inj:∀i,i<k->∀j,j<k->f.aR i=f.aR j->i=j
 wl:bI<w.heap.size/\bE<w.heap.size
theorem Nz{kk:PK}(K:zg V L){f:Bg}{oU:ay}{eb lC:oV}(Q:QI (gC kk L f k q en eb))(hk:k<V.nc){i:Nat}(hi:i<=q.length){T aR ba bt bw:Nat}(W:kP (bQ (gC kk L f k q en eb)) (V.st k) i):
 QI (gC kk L (f.put k T aR ba bt bw bi) (k+1) (q.take i++k::q.drop i) oU lC)/\bQ (gC kk L (f.put k T aR ba bt bw bi) (k+1) (q.take i++k::q.drop i) oU lC)=(bQ (gC kk L f k q en eb)).take i++(V.st k,.func (.func 50) #[] #[ptr ba,ptr bt,ptr bw])::(bQ (gC kk L f k q en eb)).drop i:=by
 have ql:∀j∈q,j<k:=λj hj=>(Q.lt j hj).1
 have c:∀j,j∈q.take i++k::q.drop i↔j=k\/j∈q:=λj=>by
  conv=>rhs;rhs;rw[<-zB i q]
  simp only[dZ,ak]
  constructor
  .rintro (h|h|h)
   .exact .inr (.inl h)
   .exact .inl h
   .exact .inr (.inr h)
  .rintro (h|h|h)
   .exact .inr (.inl h)
   .exact .inl h
   .exact .inr (.inr h)
 have Y:∀j∈q,ia (gC kk L (f.put k T aR ba bt bw bi) (k+1) (q.take i++k::q.drop i) oU lC) j=ia (gC kk L f k q en eb) j:=λj hj=>by
  have F:=ql j hj;obtain⟨a1,a2,Z,a4⟩:=K.ag j (by omega);unfold ia
  show((L.ag j).a,if(L.ag j).c=0 then Nq (f.put k T aR ba bt bw bi) (L.ag j).t.toNat else _)=((L.ag j).a,if(L.ag j).c=0 then Nq f (L.ag j).t.toNat else _)
  rw[ah Z,ah Z,a2,tE];obtain⟨t,y,u,S,R,h6⟩:=kD f F T aR ba bt bw bi;simp only[Nq,u,S,R]
 have a:=K.ag k hk
 have H:ia (gC kk L (f.put k T aR ba bt bw bi) (k+1) (q.take i++k::q.drop i) oU lC) k=(V.st k,.func (.func 50) #[] #[ptr ba,ptr bt,ptr bw]):=by
  unfold ia
  show((L.ag k).a,if(L.ag k).c=0 then Nq (f.put k T aR ba bt bw bi) (L.ag k).t.toNat else _)=_
  rw[ah a.2.2.1,a.2.1,tE,a.1];obtain⟨t,y,u,S,R,h6⟩:=r9 f k T aR ba bt bw bi;simp only[Nq,u,S,R]
 refine⟨⟨λj hj=>?_,λj t y=>?_,?_,λj hj=>?_⟩,?_⟩
 .rcases(c j).1 hj with rfl|hj
  .exact⟨ij _,a.2.2.2⟩
  .exact⟨CU (ql j hj),(Q.lt j hj).2⟩
 .refine(c j).2 ?_
  have d:j<k+1:=t
  by_cases e:j=k
  .exact .inl e
  .exact .inr (Q.all j (by show j<k;omega) y)
 .show(q.take i++k::q.drop i).Pairwise (fU L.ag)
  have v:q.Pairwise (fU L.ag):=Q.Bw;rw[<-zB i q,xu]at v;obtain⟨p1,p2,p3⟩:=v
  have U:∀j∈q.drop i,V.st k<(L.ag j).a:=λj hj=>by
   obtain⟨n,D⟩:=CW hj;rw[EE]at D;have:=W.gt (i+n) (ia (gC kk L f k q en eb) j) (by omega) (by simp[bQ,D]);exact this
  have E:∀j∈q.take i,(L.ag j).a<=V.st k:=λj hj=>by
   have G:0<i:=by
    cases i with
    |zero=>simp at hj
    |succ i=>omega
   have x:i-1<q.length:=by omega
   have p:q[i-1]? =some q[i-1]:=oY x;have t:=W.le (ia (gC kk L f k q en eb) q[i-1]) G (by simp[bQ,p]);have d:(L.ag q[i-1]).a<=V.st k:=t;obtain⟨n,D,g⟩:=List.getElem_of_mem hj;rw[rJ]at D;rw[List.getElem_take]at g
   by_cases e:n=i-1
   .subst e;rw[<-g];exact d
   .have hs:q.Pairwise (fU L.ag):=Q.Bw
    have u:=xZ hs (i:=n) (j:=i-1) (by omega) x;rw[g]at u;rcases u with z|z
    .exact Int.le_of_lt (Int.lt_of_lt_of_le z d)
    .rw[z.1];exact d
  rw[xu,dI];refine⟨p1,⟨λj hj=>?_,p2⟩,λj hj b I=>?_⟩
  .left;rw[a.1];exact U j hj
  .rcases ak.1 I with rfl|I
   .have t:=E j hj
    have y:=ql j (CY hj);unfold fU;rw[a.1];rcases Int.lt_or_eq_of_le t with z|z
    .exact .inl z
    .exact .inr ⟨z,y⟩
   .exact p3 j hj b I
 .rcases(c j).1 hj with rfl|hj
  .exact .inl a.2.2.1
  .exact .inl (K.ag j (by have:=ql j hj;omega)).2.2.1
 .unfold bQ
  show(q.take i++k::q.drop i).map _=_
  rw[List.map_append,nT,H,<-List.map_take,<-List.map_drop]
  congr 1
  .exact zA λj hj=>Y j (CY hj)
  .congr 1
   exact zA λj hj=>Y j (CX hj)
abbrev CG(bI bE:Nat)(f:Bg)(k:Nat):List Nat:=bI::bE::(List.range k).map f.aR
theorem Ci(A bl bo:Nat)(f:Bg)(k:Nat):Flat (tD A bl bo f k):=by
 rw[bN];intro r a;obtain⟨j,_,a⟩:=nV.1 a;simp only[AZ,ak,bB,or_false]at a;rcases a with rfl|rfl|rfl|rfl|rfl<;>rfl
theorem Ch(f:Bg)(k:Nat):Flat (qv f k):=by
 rw[bN];intro r a;obtain⟨j,_,a⟩:=nV.1 a;simp only[ak,bB,or_false]at a;subst a;rfl
theorem Gi{kk:PK}{L:LS}(hV:vf kk.V)(hL:zg kk.V L)(hA:kk.A∈l){B:Nat}(hB:∀(a:Addr)(wr:Bool),B<=a.block->cJ w0.heap.size l [] a wr){bb:aE}(g:bb.kind=.normal)(iK:bb.fn=24){cf:aE}{cs:cW}{cap rs bl bo bI bE:Nat}{sa:eN}{M:aX}(hM:Flat M){dH:ru}{dU:cm}(hC:0<kk.V.nc->∃ca,sa=some ca/\Has M (fR ca 2 (λj=>[i6 (kk.V.st j),.slice (dH j) (kk.V.nt j) (dU j)]) kk.V.nc false))(K:∀(f:Bg)(q:aP)(en:ay)(eb:oV)(I:Act)(t:aj)(B1:Nat),I.defers=[]->B<=B1->t.heap.size=B1->US kk.V bI bE f kk.V.nc t->K2 w0 kk.A (CG bI bE f kk.V.nc) t->PV (cJ w0.heap.size l []) (gC kk L f kk.V.nc q en eb) (bQ (gC kk L f kk.V.nc q en eb))->QI (gC kk L f kk.V.nc q en eb)->q.length=kk.V.nc->
 St (cJ w0.heap.size l []) B1 53 [(47,ptr kk.A),(11,ptr bo),(9,ptr kk.J),(4,ptr rs)] (pM (gC kk L f kk.V.nc q en eb)++(oR kk.A 2 [i6 kk.V.nc] true::(qv f kk.V.nc++(tD kk.A bl bo f kk.V.nc++M)))) 0 I t->
 nQ prog Post (K2 w0 kk.A (CG bI bE f kk.V.nc)) (jl l) ng (G (bb.at I (pc prog 24 69 [false,false] [])) (cf::cs)) t):
 ∀(left k:Nat)(f:Bg)(q:aP)(en:ay)(eb:oV)(U:Act)(w:aj)(B1:Nat),left+k=kk.V.nc->U.defers=[]->B<=B1->w.heap.size=B1->US kk.V bI bE f k w->PV (cJ w0.heap.size l []) (gC kk L f k q en eb) (bQ (gC kk L f k q en eb))->QI (gC kk L f k q en eb)->q.length=k->
   St (cJ w0.heap.size l []) B1 53 [(35,i6 k),(34,i6 kk.V.nc),(33,.slice sa kk.V.nc cap),(12,ptr kk.A),(11,ptr bo),(10,ptr bl),(9,ptr kk.J),(4,ptr rs)] (pM (gC kk L f k q en eb)++(oR kk.A 2 [i6 k] true::(qv f k++(tD kk.A bl bo f k++M)))) 0 U w->
   nQ prog Post (K2 w0 kk.A (CG bI bE f k)) (jl l) ng (G (bb.at U (pc prog 24 59 [false] [])) (cf::cs)) w
 |0,k,f,q,en,eb,U,w,B1,hk,D,hle,iI,x,hP,hQ,hq,H=>by
  have:k=kk.V.nc:=by omega
  subst this;have F:=O1 (Post:=Post) (w0:=w0) (A:=kk.A) (cc:=CG bI bE f kk.V.nc) hA ng;generalize p:pM (gC kk L f kk.V.nc q en eb)++(oR kk.A 2 [i6 kk.V.nc] true::(qv f kk.V.nc++(tD kk.A bl bo f kk.V.nc++M)))=MM at H;refine bA F hB g D H 10 [] [0] [] [(47,ptr kk.A),(11,ptr bo),(9,ptr kk.J),(4,ptr rs)] (λM=>M) 0 69 [false,false] [] [(decide ((↑kk.V.nc:Int)<(↑kk.V.nc:Int)),false)] [] [] λI t W y iH jA dS=>?_
  subst p;exact At.assume Gr λv=>K f q en eb I t _ y (by omega) rfl ⟨λj hj=>by have:=x.lt j hj;exact⟨by omega,this.2⟩,x.inj,by have:=x.wl;exact⟨by omega,by omega⟩⟩ v hP hQ hq ⟨W.env,W.sat,rfl⟩
 |left+1,k,f,q,en,eb,U,w,B1,hk,D,hle,iI,x,hP,hQ,hq,H=>by
  have F:=O1 (Post:=Post) (w0:=w0) (A:=kk.A) (cc:=CG bI bE f k) hA ng;have h9:=hV.nc;have ZY:k<kk.V.nc:=by omega
  obtain⟨ca,LZ,hHC⟩:=hC (by omega);have E:=H.get (((hHC.app (tD kk.A bl bo f k)).app (qv f k)).cons.app (pM (gC kk L f k q en eb)));subst LZ;generalize p:pM (gC kk L f k q en eb)++(oR kk.A 2 [i6 k] true::(qv f k++(tD kk.A bl bo f k++M)))=MM at E;clear H;have H:=E;clear E;have Sb:IntKind.wrap .i64 ((k:Int)+1)=(k:Int)+1:=aA (by omega) (by omega);refine bA F hB g D H 25 [0,k,0,102,1,0,0,1,0,0,0,2,1,0,0,1,0,0,0,1] [2,2] [] [(44,.func (Fn.func 37) #[] #[ptr bl,ptr bo,ptr B1]),(43,i6 (kk.V.st k)),(41,i6 k),(40,ptr kk.A),(35,i6 k),(34,i6 kk.V.nc),(33,.slice (some ca) kk.V.nc cap),(12,ptr kk.A),(11,ptr bo),(10,ptr bl),(9,ptr kk.J),(4,ptr rs)] (λM=>bR (B1+1) [i6 (kk.V.st k),.slice (dH k) (kk.V.nt k) (dU k)]::(bR (B1) [i6 k]::(M))) 2 84 [false,true] [] [(decide ((↑k:Int)<(↑kk.V.nc:Int)),true)] [((↑k:Int),kk.V.nc)] [(2,(k,kk.V.nc))] λI t W y iH jA dS=>?_
  refine bK F g y W 45 36 #[ptr kk.A,i6 k,i6 (kk.V.st k),.func (Fn.func 37) #[] #[ptr bl,ptr bo,ptr B1]] λgJ S=>?_
  subst p
  have hSb:Sat (cJ w0.heap.size l []) t (pM (gC kk L f k q en eb)++(oR kk.A 2 [i6 k] true::(oR B1 0 [i6 k] false::(qv f k++(tD kk.A bl bo f k++M))))):=by
   have h1:=(W.sat.tail).fix;have h2:=Sat.D6 (A:=[oR B1 0 [i6 k] false]) h1;refine h2.perm ?_;have:=iP [oR B1 0 [i6 (k:Int)] false] (pM (gC kk L f k q en eb)++[oR kk.A 2 [i6 k] true]) (qv f k++(tD kk.A bl bo f k++M))
   simpa using this
  refine KC (s:=gC kk L f k q en eb) (k:=k) (cl:=k) (bl:=bl) (bo:=bo) (bi:=B1) (at':=kk.V.st k) F hB hSb hP (((Ch f k).app ((Ci _ _ _ f k).app hM)).cons rfl) (by omega) (by rw[oG];show q.length<900;omega) (by omega) λba bw aR T bt oU lC i w2 hi Oj h2 h gI htc je k2=>?_
  rw[oG]at hi;obtain⟨Yj,R⟩:=Nz (oU:=oU) (lC:=lC) (T:=T) (aR:=aR) (ba:=ba) (bt:=bt) (bw:=bw) (bi:=B1) hL hQ ZY hi Oj;rw[<-R]at h
  have h3:Sat (cJ w0.heap.size l []) w2 (pM (gC kk L (f.put k T aR ba bt bw B1) (k+1) (q.take i++k::q.drop i) oU lC)++(oR kk.A 2 [i6 ((k+1:Nat):Int)] true::(qv (f.put k T aR ba bt bw B1) (k+1)++(tD kk.A bl bo (f.put k T aR ba bt bw B1) (k+1)++M)))):=by
   rw[IJ,KB];refine h2.perm (kv (pM (gC kk L f k q oU lC)) (List.Perm.cons _ ?_));simp only[fM,xC,List.nil_append];refine List.Perm.trans ?_ (iQ (a:=fI T (.pointer none) false) (l₁:=qv f k)).symm;refine List.Perm.trans (List.Perm.swap _ _ _) (List.Perm.cons _ ?_);have:=iP [oR T 0 [ptr kk.A,i6 (k:Int),i6 (k:Int),.chan (some aR)] false,oR ba 0 [ptr kk.A] false,oR bw 0 [.func (.func 37) #[] #[ptr bl,ptr bo,ptr B1]] false,oR bt 0 [ptr T] false,oR B1 0 [i6 (k:Int)] false] (qv f k++tD kk.A bl bo f k) M
   simpa using this
  refine S _ _ _ h3 λa2 B2 S2 jQ fV=>?_
  generalize p:pM (gC kk L (f.put k T aR ba bt bw B1) (k+1) (q.take i++k::q.drop i) oU lC)++(oR kk.A 2 [i6 ((k+1:Nat):Int)] true::(qv (f.put k T aR ba bt bw B1) (k+1)++(tD kk.A bl bo (f.put k T aR ba bt bw B1) (k+1)++M)))=MM at S2;refine aq F hB g jQ S2 7 [] [] [] [(35,i6 (IntKind.wrap .i64 ((↑k:Int)+1))),(34,i6 kk.V.nc),(33,.slice (some ca) kk.V.nc cap),(12,ptr kk.A),(11,ptr bo),(10,ptr bl),(9,ptr kk.J),(4,ptr rs)] (λM=>M) 0 92 [false,true] [] λa3 Y Z jF gQ ji dX=>?_
  rw[show pc prog 24 92 [false,true] []=pc prog 24 59 [false] [] by kernel_rfl];rw[Sb]at Z;have ek:(k:Int)+1=((k+1:Nat):Int):=by simp
  rw[ek]at Z;subst p;have u:b8 Y aR:=dX.obj _ _ gI (λ_ _ _ z=>by cases z);have WH:aR<Y.heap.size:=(cH.1 u).1;have Q:∀j,j<k->f.aR j<aR:=λj hj=>by have:=(x.lt j hj).1;omega
  have JI:=x.wl;refine At.assume Gr λv=>At.keep (K':=K2 w0 kk.A (CG bI bE (f.put k T aR ba bt bw B1) (k+1))) (λd=>⟨v.1,⟨v.2.1.1,λc hc=>?_⟩,v.2.2⟩) (Gi hV hL hA hB g iK hM hC K left (k+1) (f.put k T aR ba bt bw B1) (q.take i++k::q.drop i) oU lC a3 Y _ (by omega) jF (by omega) rfl ⟨λj hj=>?_,λa ha b hb e=>?_,⟨by omega,by omega⟩⟩ ⟨h.jr,h.en,h.eo,h.fb⟩ Yj ?_ ⟨Z.env,Z.sat,rfl⟩)
  .show∃k',Y.heap[c]? =_
   rcases ak.1 hc with rfl|hc
   .exact v.2.1.2 _ (bS ..)
   .rcases ak.1 hc with rfl|hc
    .exact v.2.1.2 _ (aO _ (bS ..))
    .obtain⟨j,hj,rfl⟩:=gL.1 hc
     have tj:=bp.1 hj
     by_cases e:j=k
     .rw[e,(r9 f k T aR ba bt bw B1).2.1];exact⟨0,u⟩
     .rw[(kD f (by omega:j<k) T aR ba bt bw B1).2.1]
      exact v.2.1.2 _ (aO _ (aO _ (gL.2 ⟨j,bp.2 (by omega),rfl⟩)))
  .by_cases e:j=k
   .rw[e,(r9 f k T aR ba bt bw B1).2.1];exact⟨WH,by omega,by omega⟩
   .rw[(kD f (by omega:j<k) T aR ba bt bw B1).2.1]
    have:=x.lt j (by omega);exact⟨by omega,this.2⟩
  .by_cases e1:a=k
   .by_cases e2:b=k
    .rw[e1,e2]
    .rw[e1,(r9 f k T aR ba bt bw B1).2.1,(kD f (by omega:b<k) T aR ba bt bw B1).2.1]at e
     have:=Q b (by omega);omega
   .by_cases e2:b=k
    .rw[e2,(r9 f k T aR ba bt bw B1).2.1,(kD f (by omega:a<k) T aR ba bt bw B1).2.1]at e
     have:=Q a (by omega);omega
    .rw[(kD f (by omega:a<k) T aR ba bt bw B1).2.1,(kD f (by omega:b<k) T aR ba bt bw B1).2.1]at e
     exact x.inj a (by omega) b (by omega) e
  .simp only[qt,eG,rJ,Bj];omega
theorem At.V4{K:cF}{Shun qn Still:dr}{Mem:qo}{Inb:Nat->Option Seat}{h:Nat}{g:aW}(f:∀x,Shun x->qn x)(e:∀x,qn x->Shun x\/UH w.heap.size x)(H:At P Post K qn Still Mem Inb h n g w):At P Post K Shun Still Mem Inb h n g w:=
 λd i T q sl a c C=>H d i T q sl a c (R2.grow C (λ_ x=>x) (λ_ x=>.inl x) f e)
theorem NG{α:Type}(sR vR eR A d c bo e bl a J rs:α)(T:List α):(sR::vR::eR::A::d::c::bo::e::bl::a::J::rs::T).Perm (A::eR::J::vR::sR::a::e::d::c::bo::bl::rs::T):=
 (iQ (l₁:=[sR,vR,eR])).trans (.cons _ ((iQ (l₁:=[sR,vR])).trans (.cons _ ((iQ (l₁:=[sR,vR,d,c,bo,e,bl,a])).trans (.cons _ ((iQ (l₁:=[sR])).trans (.cons _ (.cons _ ((iQ (l₁:=[d,c,bo,e,bl])).trans (.cons _ ((iQ (l₁:=[d,c,bo])).trans (.cons _ (.refl _)))))))))))))
abbrev lB(A J HD O:Nat)(V:Ev0)(lb:cm)(sa:eN)(cap:Nat)(dH:ru)(dU:cm)(bI bE:Nat):PK:={A:=A,J:=J,HD:=HD,O:=O,sc:=λ_=>.nilIface,V:=V,lb:=lb,T:=λ_=>0,aR:=λ_=>0,ca:=sa.getD ⟨0,0,none⟩,cc:=cap,dH:=dH,dU:=dU,bI:=bI,bE:=bE}
def QE:Bg:=⟨λ_=>0,λ_=>0,λ_=>0,λ_=>0,λ_=>0,λ_=>0⟩
def T2:oV:=⟨0,0,0,λ_=>undef⟩
theorem Rj(hV:vf V)(I:zg V L)(hl:∀x∈l,x<w0.heap.size){a7:Act}{w7:aj}{g:Nat}(T:bb.kind=.normal)(iK:bb.fn=24)(lW:a7.defers=[])(y:w7.heap.size=g)(oT:w0.heap.size<=g)(hX:Flat (X++M))(hC:0<V.nc->∃ca,sa=some ca/\Has M (fR ca 2 (λj=>[i6 (V.st j),.slice (dH j) (V.nt j) (dU j)]) V.nc false))(D:St (cJ w0.heap.size l []) g 53 [(11,ptr bo),(10,ptr bl),(9,ptr J),(4,ptr rs),(1,.slice sa V.nc cap)] (bR bo [.slice (some ⟨O,0,none⟩) V.nc V.nc]::fR ⟨O,0,none⟩ 4 (λ_=>[i6 0,i6 0,i6 0,.slice none 0 0]) V.nc true::bR bl [qQ V lb 0]::fR ⟨HD,0,none⟩ 1 (λ_=>[i6 0]) V.nc true::bR J [.slice none 0 0]::bR rs [.slice none 0 0,.slice none 0 0]::(X++M)) 0 a7 w7)(K:∀(bI bE:Nat)(f:Bg)(q:aP)(en:ay)(eb:oV)(a1:Act)(R:aj)(B1:Nat),w0.heap.size<=bI->w0.heap.size<=bE->bI≠bE->a1.defers=[]->g+3<=B1->R.heap.size=B1->US V bI bE f V.nc R->K2 w0 (g+2) (CG bI bE f V.nc) R->PV (cJ w0.heap.size ((g+2)::l) []) (gC (lB (g+2) J HD O V lb sa cap dH dU bI bE) L f V.nc q en eb) (bQ (gC (lB (g+2) J HD O V lb sa cap dH dU bI bE) L f V.nc q en eb))->QI (gC (lB (g+2) J HD O V lb sa cap dH dU bI bE) L f V.nc q en eb)->q.length=V.nc->
 St (cJ w0.heap.size ((g+2)::l) []) B1 53 [(47,ptr (g+2)),(11,ptr bo),(9,ptr J),(4,ptr rs)] (pM (gC (lB (g+2) J HD O V lb sa cap dH dU bI bE) L f V.nc q en eb)++(oR (g+2) 2 [i6 V.nc] true::(qv f V.nc++(tD (g+2) bl bo f V.nc++(oR (g+2) 3 [.chan (some bI),.chan (some bE)] false::oR bo 0 [.slice (some ⟨O,0,none⟩) V.nc V.nc] false::oR bl 0 [qQ V lb 0] false::bR rs [.slice none 0 0,.slice none 0 0]::(X++M)))))) 0 a1 R->
 nQ prog Post (K2 w0 (g+2) (CG bI bE f V.nc)) (jl ((g+2)::l)) ng (G (bb.at a1 (pc prog 24 69 [false,false] [])) (cf::cs)) R):
 nQ prog Post (Old w0) (jl l) ng (G (bb.at a7 (pc prog 24 47 [false] [])) (cf::cs)) w7:=by
 refine At.V4 (qn:=jl ((g+2)::l)) (λx h=>Fo h) (λx h=>(I5 h).imp id fun⟨a,e1,e2⟩=>⟨a,e1,by omega⟩) ?_;have F:=nD (P:=prog) (Post:=Post) (wI:=w0) (l:=(g+2)::l) ng
 have H:∀(a:Addr)(wr:Bool),a.block<g->cJ w0.heap.size l [] a wr->cJ w0.heap.size ((g+2)::l) [] a wr:=λa wr hb o=>⟨fun⟨A',v,t⟩=>by
  rcases ak.1 v with rfl|v
  .rcases t with t|t<;>(cases t;simp only at hb;omega)
  .exact o.1 ⟨A',v,t⟩,o.2⟩
 have QL:St (cJ w0.heap.size ((g+2)::l) []) g 53 _ _ 0 a7 w7:=⟨D.env,D.sat.P9 (λr hr j hj o=>H _ _ (by have:=D.sat.blk hr hj;rw[y]at this;exact this) o) (λr hr _ j hj o=>H _ _ (by have:=D.sat.blk hr hj;rw[y]at this;exact this) o),D.sz⟩;clear D;have D:=QL;clear QL
 have hBn:∀(a:Addr)(wr:Bool),w0.heap.size<=a.block->(a.off=5\/a.off=6)\/cJ w0.heap.size ((g+2)::l) [] a wr:=λa wr hb=>by
  by_cases h5:a.off=5\/a.off=6
  .exact .inl h5
  .refine .inr ⟨fun⟨A',v,t⟩=>?_,λ_=>⟨hb,fun⟨p,hp,_⟩=>by cases hp⟩⟩
   rcases t with t|t
   .cases t;exact h5 (.inl rfl)
   .cases t;exact h5 (.inr rfl)
 obtain⟨ty,Z⟩:=vW V lb 0;rw[Z]at D;refine bK F T lW D 32 35 #[] λQC G3=>?_
 refine Rz F hBn D.sat (by omega) λwc ec Y h8 o1 o2 tZ DE ny yt k8 ag=>G3 _ _ _ (by rw[y]at h8;exact h8) λa8 B8 S8 Et aad=>?_
 have hB:∀(a:Addr)(wr:Bool),g+3<=a.block->cJ w0.heap.size ((g+2)::l) [] a wr:=λa wr hb=>⟨fun⟨A',v,t⟩=>by
  have hA':A'<g+3:=by
   rcases ak.1 v with rfl|v
   .omega
   .have:=hl A' v;omega
  rcases t with t|t<;>(cases t;simp only at hb;omega),λ_=>⟨by omega,fun⟨p,hp,_⟩=>by cases hp⟩⟩
 rw[y]at S8;refine aq F hB T Et S8 11 [] [] [] [(35,i6 0),(34,i6 V.nc),(33,.slice sa V.nc cap),(12,ptr (g+2)),(11,ptr bo),(10,ptr bl),(9,ptr J),(4,ptr rs)] (λM=>M) 0 59 [false] [] λa9 Q S9 OD An DD U=>?_
 have hpm:pM (gC (lB (g+2) J HD O V lb sa cap dH dU wc ec) L QE 0 [] (.slice none 0 0) T2)=[bR (g+2) [i6 0,.slice none 0 0],eR T2,bR J [.slice none 0 0],vR none 5 (λj=>yR (L.ev j)) 0 0 55,sR none 5 (λ_=>[]) 0 0,fR ⟨HD,0,none⟩ 1 (λ_=>[i6 0]) V.nc true,fR ⟨O,0,none⟩ 4 (λ_=>[i6 0,i6 0,i6 0,.slice none 0 0]) V.nc true]:=by
  simp only[pM,I.now,I.el,I.us,I.ou];rfl
 have hs9:Sat (cJ w0.heap.size ((g+2)::l) []) Q (pM (gC (lB (g+2) J HD O V lb sa cap dH dU wc ec) L QE 0 [] (.slice none 0 0) T2)++(oR (g+2) 2 [i6 ((0:Nat):Int)] true::(qv QE 0++(tD (g+2) bl bo QE 0++(oR (g+2) 3 [.chan (some wc),.chan (some ec)] false::oR bo 0 [.slice (some ⟨O,0,none⟩) V.nc V.nc] false::oR bl 0 [qQ V lb 0] false::bR rs [.slice none 0 0,.slice none 0 0]::(X++M)))))):=by
  rw[hpm,Z];have p1:=Sat.AK (A:=[_,_,_]) S9.sat;have p2:=Sat.AK (A:=[_,_,_,_,_]) p1;have p3:=Sat.ff (Sat.ff (Sat.ff p2 (r:=eR T2) rfl rfl) (r:=vR none 5 (λj=>yR (L.ev j)) 0 0 55) rfl rfl) (r:=sR none 5 (λ_=>[]) 0 0) rfl rfl;exact p3.perm (NG ..)
 have u:∀{c:Nat},b8 Y c->c<Y.heap.size:=λh=>(cH.1 h).1
 have E:∀o,o=5\/o=6->Q.cell? ⟨g+2,o,none⟩=Y.cell? ⟨g+2,o,none⟩/\Q.frozen? ⟨g+2,o,none⟩=Y.frozen? ⟨g+2,o,none⟩:=λo ho=>U.cell _ (by show g+2<Y.heap.size;omega) (fun⟨i,r,j,v,t,h3,h4⟩=>by
  have:=((S8.sat.ok i r v j h3).2 t).1.1;rw[h4]at this;exact this ⟨g+2,bS ..,by rcases ho with rfl|rfl;exact .inl rfl;exact .inr rfl⟩)
 rw[y]at ag;have ag5:=ag.a5;have ag6:=ag.a6;refine At.assume gF λhO=>At.keep (K':=K2 w0 (g+2) (CG wc ec QE 0)) (λd=>⟨hO,⟨λp hp=>(by cases hp),λc hc=>?_⟩,⟨?_,?_⟩,⟨?_,?_⟩⟩) (Gi (kk:=lB (g+2) J HD O V lb sa cap dH dU wc ec) hV I (bS ..) hB T iK (M:=oR (g+2) 3 [.chan (some wc),.chan (some ec)] false::oR bo 0 [.slice (some ⟨O,0,none⟩) V.nc V.nc] false::oR bl 0 [qQ V lb 0] false::bR rs [.slice none 0 0,.slice none 0 0]::(X++M)) ((((hX.cons rfl).cons rfl).cons rfl).cons rfl) (dH:=dH) (dU:=dU) (λz=>?_) ?_ V.nc 0 QE [] (.slice none 0 0) T2 a9 Q _ rfl OD (by omega) rfl ⟨λj hj=>by omega,λi W=>by omega,?_⟩ ?_ ?_ rfl ⟨S9.env,hs9,rfl⟩)
 .show∃k',Q.heap[c]? =_
  have q1:b8 Q wc:=U.obj _ _ o1 (λ_ _ _ z=>by cases z);have q2:b8 Q ec:=U.obj _ _ o2 (λ_ _ _ z=>by cases z);simp only[CG,List.range_zero,uw,ak,bB,or_false]at hc;rcases hc with rfl|rfl
  .exact⟨0,q1⟩
  .exact⟨0,q2⟩
 .exact(E 5 (.inl rfl)).1.trans ag5
 .exact(E 5 (.inl rfl)).2.trans (ag.z 5)
 .exact(E 6 (.inr rfl)).1.trans ag6
 .exact(E 6 (.inr rfl)).2.trans (ag.z 6)
 .obtain⟨ca,e1,e2⟩:=hC z
  exact⟨ca,e1,(e2.app X).cons.cons.cons.cons⟩
 .intro f q en eb a1 R B1 v t h3 h4 h5 h6 h7 h8 S
  exact K wc ec f q en eb a1 R B1 (by omega) (by omega) ny v t h3 h4 h5 h6 h7 h8 S
 .exact⟨by have:=u o1;omega,by have:=u o2;omega⟩
 .refine⟨⟨.inl ⟨rfl,I.el,rfl⟩,?_,iN _,λa ha=>(by cases ha)⟩,⟨λe he=>(by cases he),.inl ⟨rfl,rfl,rfl⟩⟩,λz=>(by cases z),λk _ _=>by show qF _ (L.gt k).la kN;rw[I.gt];exact AL⟩
  show L.el<=0
  rw[I.el];exact az _
 .exact⟨λi W=>(by cases W),λi W=>absurd W (uA _),List.Pairwise.nil,λi W=>(by cases W)⟩
abbrev Lm(w0:aj)(l:aP)(kk:PK)(f:Bg)(cR:aE)(nG:cW)(X M:aX)(rs bl bo:Nat)(Lf:LS):RN:=
 {wI:=w0,l:=kk.A::l,k:={kk with T:=f.T,aR:=f.aR,sc:=Nq f},cR:=cR,nG:=nG,S:=tD kk.A bl bo f kk.V.nc++(oR kk.A 3 [.chan (some kk.bI),.chan (some kk.bE)] false::oR bo 0 [.slice (some ⟨kk.O,0,none⟩) kk.V.nc kk.V.nc] false::oR bl 0 [qQ kk.V kk.lb 0] false::(X++M)),W:=[bR rs [.slice none 0 0,.slice none 0 0]],Lf:=Lf,ba:=f.ba,bt:=f.bt,bw:=f.bw,bi:=f.bi,bl:=bl,bo:=bo}
structure UJ(V:Ev0)(sa:eN)(dH:ru)(dU:cm)(M:aX):Prop where
 ro:∀r∈M,r.wr=false
 fl:Flat M
 QB:0<V.nc->∃ca,sa=some ca/\Has M (fR ca 2 (λj=>[i6 (V.st j),.slice (dH j) (V.nt j) (dU j)]) V.nc false)
 xH:∀c,c<V.nc->0<V.nt c->∃ta,dH c=some ta/\Has M (fR ta 3 (λj=>tL (V.tr c j)) (V.nt c) false)
 err:Has M (oR 0 0 [.iface 217 (.agg #[.pointer (some ⟨1,121,none⟩)])] false)
theorem ON{f:Bg}(hj:j<k)(a:r∈AZ A bl bo f j):Has (tD A bl bo f k) r:=by
 have c:r∈tD A bl bo f k:=nV.2 ⟨j,bp.2 hj,a⟩;obtain⟨i,d⟩:=lV c;refine⟨?_,i,d⟩;simp only[AZ,ak,bB,or_false]at a;rcases a with rfl|rfl|rfl|rfl|rfl<;>rfl
theorem T7(R:vf V)(hl:∀x∈l,x<w0.heap.size){f:Bg}{cR:aE}{nG:cW}{F:aj}(S:w0.heap.size<=A)(H:w0.heap.size<=bI)(Q:w0.heap.size<=bE)(p:bI≠bE)(E:US V bI bE f V.nc F)(d:UJ V sa dH dU M)(D:Flat X)(z:∀r∈X,r.wr=false)(e:um V lb J 0 (X++M))(y:Has X (uj (lb V.nl) .nilIface (-1) J))(v:Has X (oR (lb V.nl) 3 [.slice sa V.nc cap,.slice (some ⟨HD,0,none⟩) V.nc V.nc] false)):
 vk (Lm w0 l (lB A J HD O V lb sa cap dH dU bI bE) f cR nG X M rs bl bo Lf):=by
 have up:∀{r},Has (X++M) r->Has (Lm w0 l (lB A J HD O V lb sa cap dH dU bI bE) f cR nG X M rs bl bo Lf).S r:=λh=>h.cons.cons.cons.app _
 have bg:∀{j r},j<V.nc->r∈AZ A bl bo f j->Has (Lm w0 l (lB A J HD O V lb sa cap dH dU bI bE) f cR nG X M rs bl bo Lf).S r:=λhj a=>(ON hj a).pre _
 refine⟨R,bS ..,λx g=>?_,S,H,Q,λj hj=>?_,p,λj hj=>?_,E.inj,λj hj=>rfl,λI=>?_,?_,?_,?_,?_,λj hj=>bg hj (by simp[AZ]),λj hj=>bg hj (by simp[AZ]),λj hj=>bg hj (by simp[AZ]),λj hj=>bg hj (by simp[AZ]),?_,?_⟩
 .rcases ak.1 g with rfl|g
  .exact az _
  .have:=hl x g
   show x<=A
   omega
 .have:=(E.lt j hj).2.1
  show w0.heap.size<=f.aR j
  omega
 .have:=(E.lt j hj).2
  show f.aR j≠bI/\f.aR j≠bE
  exact⟨by omega,by omega⟩
 .obtain⟨ca,u,t⟩:=d.QB I
  subst u
  exact⟨λj hj=>up (e.lay j (iN _) hj),λj hj hk=>up (e.Jd j (iN _) hj hk),λj hj hk=>up (e.Ns j (iN _) hj hk),λj hj hk=>up (e.Ms j (iN _) hj hk),up (y.pre _),up (v.pre _),up (t.app _),λc hc G=>by
   obtain⟨ta,U,T⟩:=d.xH c hc G;exact⟨ta,U,up (T.app _)⟩,λi K=>bg K (by simp[AZ]),up (d.err.app _)⟩
 .exact(Ci _ _ _ f _).app ((((D.app d.fl).cons rfl).cons rfl).cons rfl)
 .exact Flat.nil.cons rfl
 .intro r a
  rcases dZ.1 a with a|a
  .obtain⟨j,_,a⟩:=nV.1 a
   simp only[AZ,ak,bB,or_false]at a;rcases a with rfl|rfl|rfl|rfl|rfl<;>rfl
  .rcases ak.1 a with rfl|a
   .rfl
   .rcases ak.1 a with rfl|a
    .rfl
    .rcases ak.1 a with rfl|a
     .rfl
     .rcases dZ.1 a with a|a
      .exact z r a
      .exact d.ro r a
 .exact Has.app (C:=_::_) ⟨rfl,0,rfl⟩ _
 .exact Has.app (C:=_::_::_) ⟨rfl,1,rfl⟩ _
 .exact Has.app (C:=_::_::_::_) ⟨rfl,2,rfl⟩ _
theorem Sat.zM(h:Sat (cJ N l []) w M)(c:∀p∈st,∃r∈M,r.wr=false/\∃j,r.has j/\r.ad j=p.1):Sat (cJ N l st) w M:=by
 refine h.P9 (λr _ j _ o=>⟨o.1,λz=>by cases z⟩) (λr f a j hj o=>⟨o.1,λ_=>⟨(o.2 rfl).1,fun⟨p,d,e⟩=>?_⟩⟩);obtain⟨r',u,t,j',i,g⟩:=c p d;simp only[Loc.cell.injEq]at e;exact h.dj f u a t hj i (by rw[e,g])
theorem PV.zM{es:jg}(P:PV (cJ N l []) s es)(f:s.ea=none)(d:∀k,(s.f k).s=false)(t:s.eb.c=1->∀p∈st,p.1.block≠s.eb.E):PV (cJ N l st) s es:=by
 refine⟨⟨P.jr.row,P.jr.le,P.jr.mx,λa h=>?_⟩,P.en,λhc=>⟨(P.eo hc).1,λa wr g=>?_⟩,λk hk c=>⟨(P.fb k hk c).nil,(P.fb k hk c).len,λz=>(by rw[d]at z;cases z),(P.fb k hk c).val⟩⟩
 .rw[f]at h;cases h
 .have o:=(P.eo hc).2 a wr g
  refine⟨o.1,λz=>⟨(o.2 z).1,fun⟨p,i,e⟩=>?_⟩⟩;simp only[Loc.cell.injEq]at e;exact t hc p i (by rw[<-e];exact g)
theorem YC(a:zg V L){f:Bg}{eb:oV}:gS (gC (lB A J HD O V lb sa cap dH dU bI bE) L f k q en eb)=gT V lb 0:=by
 unfold gS gT;rw[List.range_eq_range',A8];simp only[a.gt]
theorem Ri(hV:vf V)(hL:zg V L)(hf:Fin V Lf m none L)(Qi:0<ng)(hl:∀x∈l,x<w0.heap.size){f:Bg}{a1:Act}{I:aj}{B1:Nat}{eb:oV}(OL:bb.kind=.normal)(iK:bb.fn=24)(hA:w0.heap.size<=A)(hAB:A<B1)(hw:w0.heap.size<=bI)(he:w0.heap.size<=bE)(ny:bI≠bE)(kJ:a1.defers=[])(iH:I.heap.size=B1)(hI:US V bI bE f V.nc I)(hM:UJ V sa dH dU M)(hXf:Flat X)(hXr:∀r∈X,r.wr=false)(hS:um V lb J 0 (X++M))(Av:Has X (uj (lb V.nl) .nilIface (-1) J))(uf:Has X (oR (lb V.nl) 3 [.slice sa V.nc cap,.slice (some ⟨HD,0,none⟩) V.nc V.nc] false))(hK:K2 w0 A (CG bI bE f V.nc) I)(hP:PV (cJ w0.heap.size (A::l) []) (gC (lB A J HD O V lb sa cap dH dU bI bE) L f V.nc q en eb) (bQ (gC (lB A J HD O V lb sa cap dH dU bI bE) L f V.nc q en eb)))(hQ:QI (gC (lB A J HD O V lb sa cap dH dU bI bE) L f V.nc q en eb))(hq:q.length=V.nc)(S1:St (cJ w0.heap.size (A::l) []) B1 53 [(47,ptr A),(11,ptr bo),(9,ptr J),(4,ptr rs)] (pM (gC (lB A J HD O V lb sa cap dH dU bI bE) L f V.nc q en eb)++(oR A 2 [i6 V.nc] true::(qv f V.nc++(tD A bl bo f V.nc++(oR A 3 [.chan (some bI),.chan (some bE)] false::oR bo 0 [.slice (some ⟨O,0,none⟩) V.nc V.nc] false::oR bl 0 [qQ V lb 0] false::bR rs [.slice none 0 0,.slice none 0 0]::(gT V lb 0++(X++M))))))) 0 a1 I)(K:∀(cR:aE)(v:Nat)(s:PS)(Y:aX)(w':aj),0<v->s.k=(Lm w0 l (lB A J HD O V lb sa cap dH dU bI bE) f cR (cf::cs) X M rs bl bo Lf).k->s.l=Lf->Old w0 w'->Sat (cJ w0.heap.size (A::l) []) w' (bR rs [.slice (some ⟨O,0,none⟩) V.nc V.nc,.slice s.ea s.l.el s.ec]::(pM s++(Y++(Lm w0 l (lB A J HD O V lb sa cap dH dU bI bE) f cR (cf::cs) X M rs bl bo Lf).S)))->PV (cJ w0.heap.size (A::l) []) s (bQ s)->(∀j,j<V.nc->eY (Y++(Lm w0 l (lB A J HD O V lb sa cap dH dU bI bE) f cR (cf::cs) X M rs bl bo Lf).S) (s.oh j) (Lf.ou j).b.ch)->
 nQ prog Post (Old w0) (jl (A::l)) v (G (cf.finish (.tuple #[.agg #[.slice (some ⟨O,0,none⟩) V.nc V.nc,.slice s.ea s.l.el s.ec],i6 0,i6 0])) cs) w'):
 nQ prog Post (K2 w0 A (CG bI bE f V.nc)) (jl (A::l)) ng (G (bb.at a1 (pc prog 24 69 [false,false] [])) (cf::cs)) I:=by
 have F:=O1 (Post:=Post) (w0:=w0) (A:=A) (cc:=CG bI bE f V.nc) (l:=A::l) (bS ..) ng;refine AX F OL 48 39 #[ptr A] (by kernel_rfl) (by kernel_rfl) (by decide) S1 λcR XY=>?_
 refine At.keep (K':=Old w0) (λd=>hK.1) ?_;have H:=T7 (cR:=cR) (nG:=cf::cs) (rs:=rs) (bl:=bl) (bo:=bo) (Lf:=Lf) (O:=O) hV hl hA hw he ny hI hM hXf hXr hS Av uf
 have Z:Sat (cJ w0.heap.size (A::l) []) I (pM (gC (lB A J HD O V lb sa cap dH dU bI bE) L f V.nc q en eb)++(gS (gC (lB A J HD O V lb sa cap dH dU bI bE) L f V.nc q en eb)++(qv f V.nc++([bR rs [.slice none 0 0,.slice none 0 0]]++(Lm w0 l (lB A J HD O V lb sa cap dH dU bI bE) f cR (cf::cs) X M rs bl bo Lf).S)))):=by
  rw[show gS (gC (lB A J HD O V lb sa cap dH dU bI bE) L f V.nc q en eb)=gT V lb 0 from YC hL];refine(S1.sat.D6 (A:=pM (gC (lB A J HD O V lb sa cap dH dU bI bE) L f V.nc q en eb))).perm (kv _ ?_);have y:=iP (tD A bl bo f V.nc++[oR A 3 [.chan (some bI),.chan (some bE)] false,oR bo 0 [.slice (some ⟨O,0,none⟩) V.nc V.nc] false,oR bl 0 [qQ V lb 0] false]) [bR rs [.slice none 0 0,.slice none 0 0]] (gT V lb 0++(X++M));have E:=iP (qv f V.nc++([bR rs [.slice none 0 0,.slice none 0 0]]++(tD A bl bo f V.nc++[oR A 3 [.chan (some bI),.chan (some bE)] false,oR bo 0 [.slice (some ⟨O,0,none⟩) V.nc V.nc] false,oR bl 0 [qQ V lb 0] false]))) (gT V lb 0) (X++M);have h3:=(kv (qv f V.nc) y).trans (by simpa using E)
  simpa using h3
 generalize c:Lm w0 l (lB A J HD O V lb sa cap dH dU bI bE) f cR (cf::cs) X M rs bl bo Lf=R at*;have Q:R.k.A=A:=by rw[<-c]
 have eI:R.wI=w0:=by rw[<-c]
 have el:R.l=A::l:=by rw[<-c]
 have eV:R.k.V=V:=by rw[<-c]
 have eT:R.k.T=f.T:=by rw[<-c]
 have etc:R.k.aR=f.aR:=by rw[<-c]
 have ew:R.k.bI=bI:=by rw[<-c]
 have ee:R.k.bE=bE:=by rw[<-c]
 have eL:R.Lf=Lf:=by rw[<-c]
 have YJ:cO R (yH R ng) (gC (lB A J HD O V lb sa cap dH dU bI bE) L f V.nc q en eb)=gS (gC (lB A J HD O V lb sa cap dH dU bI bE) L f V.nc q en eb)++(qv f V.nc++([bR rs [.slice none 0 0,.slice none 0 0]]++R.S)):=by rw[<-c];rfl
 have oU:R.n=V.nc:=by rw[<-c]
 have S:∀{r},Has R.S r->Has (pM (gC (lB A J HD O V lb sa cap dH dU bI bE) L f V.nc q en eb)++(gS (gC (lB A J HD O V lb sa cap dH dU bI bE) L f V.nc q en eb)++(qv f V.nc++([bR rs [.slice none 0 0,.slice none 0 0]]++R.S)))) r:=λh=>(((h.app _).app _).app _).app _
 obtain⟨_,ich,SO⟩:=S H.ch
 have DF:∀p∈P7 R,∃r∈pM (gC (lB A J HD O V lb sa cap dH dU bI bE) L f V.nc q en eb)++(gS (gC (lB A J HD O V lb sa cap dH dU bI bE) L f V.nc q en eb)++(qv f V.nc++([bR rs [.slice none 0 0,.slice none 0 0]]++R.S))),r.wr=false/\∃j,r.has j/\r.ad j=p.1/\r.get j=p.2:=λp u=>by
  rcases dZ.1 u with u|u
  .simp only[qy,ak,bB,or_false]at u
   rcases u with rfl|rfl
   .exact⟨_,gH SO,rfl,(0,0),⟨aG,(by decide:0<2)⟩,rfl,rfl⟩
   .exact⟨_,gH SO,rfl,(0,1),⟨aG,(by decide:1<2)⟩,rfl,rfl⟩
  .obtain⟨j,hj,rfl⟩:=gL.1 u
   have tj:=bp.1 hj;obtain⟨_,i,U⟩:=S ((H.fJ (xj tj)).nL j tj);exact⟨_,gH U,rfl,(0,3),⟨aG,(by decide:3<4)⟩,rfl,rfl⟩
 have XG:Flat (gS (gC (lB A J HD O V lb sa cap dH dU bI bE) L f V.nc q en eb)++(qv f V.nc++([bR rs [.slice none 0 0,.slice none 0 0]]++R.S))):=Flat.app (bN.2 (AG _))<|(Ch f V.nc).app ((Flat.nil.cons rfl).app H.fl);have hTb:∀j,j<R.n->R.k.T j<I.heap.size:=λj hj=>au (Has.sat Z (S ((H.fJ (xj hj)).nL j hj)))
 have hTE:∀j,j<R.n->eb.c=1->R.k.T j≠eb.E:=λj hj hc=>by
  obtain⟨_,i,U⟩:=S ((H.fJ (xj hj)).nL j hj);refine mj (b:=R.k.T j) Z hP XG U (λz=>by subst z;have h9:=cP (λo=>o.map aJ.wr) U;cases h9) (λz=>by subst z;have h9:=cP (λo=>o.map aJ.wr) U;cases h9) (j0:=(0,0)) ⟨aG,(by decide:0<4)⟩ rfl (eR eb) (lE _ (by simp[pM])) eb.E 128 eb.n ?_
  show(match eb.c with|0=>none|_+1=>some (eb.E,128,eb.n))=_
  rw[hc]
 have hl0:({L with al:=V.nc}:LS)=L:=by rw[<-hL.al]
 have c0:Co R (yH R ng) (gC (lB A J HD O V lb sa cap dH dU bI bE) L f V.nc q en eb) I.heap.size:=by
  refine YR H (by rw[<-c]) Qi (by rw[eI];omega) (by rw[Q];omega) hTb (λi U=>?_) (λi U=>(hQ.lt i U).1) (λt ht=>?_) ?_ (by rw[oU];exact hq)
  .have T:i<V.nc:=(hQ.lt i U).1
   have:=hL.ag i T;exact⟨i,by rw[oU];exact T,this.2.1,this.2.2.1⟩
  .rw[oU]at ht
   have:=hL.ag t ht;exact⟨t,hQ.all t ht this.2.2.2,this.2.1⟩
  .have hs:q.Pairwise (fU L.ag):=hQ.Bw
   refine EM (fun{a b} ha hb h=>?_) hs;have y:=(hL.ag a (hQ.lt a ha).1).2.1;have E:=(hL.ag b (hQ.lt b hb).1).2.1
   show(L.ag a).t≠(L.ag b).t
   rw[y,E];intro e;have:a=b:=by omega
   subst this;exact nH h h
 have hKD:KD R.wI R.k.A R.cc (P7 R) I:=by
  refine⟨by rw[eI];exact hK.1,⟨λp u=>?_,?_⟩,⟨_,by rw[Q];exact hK.2.2.1.1⟩,by rw[Q];exact hK.2.2.1.2,⟨_,by rw[Q];exact hK.2.2.2.1⟩⟩
  .obtain⟨r,y,_,j,h3,h4,h5⟩:=DF p u
   rw[<-h4,<-h5];exact(Z.mem y).val j h3
  .have:R.cc=CG bI bE f V.nc:=by rw[<-c]
   rw[this];exact hK.2.1.2
 have hSg:Sat (jN R (yH R ng)) I (pM (gC (lB A J HD O V lb sa cap dH dU bI bE) L f V.nc q en eb)++cO R (yH R ng) (gC (lB A J HD O V lb sa cap dH dU bI bE) L f V.nc q en eb)):=by
  rw[YJ]
  show Sat (cJ R.wI.heap.size R.l (P7 R)) _ _
  rw[eI,el];exact Z.zM λp u=>by obtain⟨r,y,E,j,h3,h4,_⟩:=DF p u;exact⟨r,y,E,j,h3,h4⟩
 have hPg:PV (jN R (yH R ng)) (gC (lB A J HD O V lb sa cap dH dU bI bE) L f V.nc q en eb) (bQ (gC (lB A J HD O V lb sa cap dH dU bI bE) L f V.nc q en eb)):=by
  show PV (cJ R.wI.heap.size R.l (P7 R)) _ _
  rw[eI,el];refine hP.zM rfl (λ_=>rfl) λhc p u=>?_
  have TA:A<eb.E:=(hP.eo hc).1;rcases dZ.1 u with u|u
  .simp only[qy,ak,bB,or_false]at u
   rcases u with rfl|rfl
   .show R.k.A≠eb.E;rw[Q];omega
   .show R.k.A≠eb.E;rw[Q];omega
  .obtain⟨j,hj,rfl⟩:=gL.1 u
   exact hTE j (bp.1 hj) hc
 have Yv:KX R Post:=by
  intro v s dn w' Xj D;obtain⟨Y,hY⟩:=D.dW;have eW:R.W=[bR rs [.slice none 0 0,.slice none 0 0]]:=by rw[<-c]
  have e1:R.cR=cR:=by rw[<-c]
  have e2:R.nG=cf::cs:=by rw[<-c]
  have Ty:=D.sat;have hDp:=D.pv;have hDo:=D.old;rw[hY,eW]at Ty;rw[eI,el]at Ty hDp ⊢;rw[eI]at hDo;rw[e1,e2]
  have Yw:Sat (cJ w0.heap.size (A::l) []) w' (bR rs [.slice none 0 0,.slice none 0 0]::(pM s++(Y++R.S))):=Ty.perm (by
   have:=(iP [bR rs [.slice none 0 0,.slice none 0 0]] (pM s++Y) R.S).symm
   simpa using this)
  have ebo:R.bo=bo:=by rw[<-c]
  have eO:R.k.O=O:=by rw[<-c]
  have eJ:s.k.J=J:=by rw[D.hk,<-c]
  have JZ:=H.JZ;rw[ebo,eO,eV]at JZ;have yz:=Yw.get ((JZ.app Y).app (pM s)).cons;refine XY (λg w=>nQ prog Post (Old w0) (jl (A::l)) v g w) (.tuple #[]) w' λa2 Qv W=>?_
  have S2:St (cJ w0.heap.size (A::l) []) w'.heap.size 53 _ _ 0 a2 w':=⟨Qv,yz,rfl⟩;rw[<-eJ]at S2;have XR:a2.defers=[]:=W.trans kJ;clear W;have W:=XR;have F:=nD (P:=prog) (Post:=Post) (wI:=w0) (l:=A::l) v;have hDA:=D.AB;rw[Q]at hDA;have hoz:=hDo.2.2.2.1;generalize hB2:w'.heap.size=B2 at*
  have hB:∀(a:Addr)(wr:Bool),B2<=a.block->cJ w0.heap.size (A::l) [] a wr:=λa wr hb=>⟨fun⟨A',y,E⟩=>by
   have hA':A'<B2:=by
    rcases ak.1 y with rfl|y
    .omega
    .have:=hl A' y;omega
   rcases E with E|E<;>(cases E;simp only at hb;omega),λ_=>⟨by omega,fun⟨p,u,_⟩=>by cases u⟩⟩
  refine aq F hB OL W S2 11 [0,0,0,1,4,0,0,1,1,0,0,2] [] [] [(6,i6 0),(5,i6 0),(4,ptr rs)] (λM=>bu 1 (0,1) (.slice s.ea s.l.el s.ec) (bu 1 (0,0) (.slice (some ⟨O,0,none⟩) V.nc V.nc) (M))) 0 81 [false,false] [] λa3 w3 S3 jF gQ ji dX=>?_
  refine cV F S3 OL iK jF [1,0,0,2] (.tuple #[.agg #[.slice (some ⟨O,0,none⟩) V.nc V.nc,.slice s.ea s.l.el s.ec],i6 0,i6 0]) ?_;refine At.assume gF λYk=>K cR v s Y w3 Xj (by rw[D.hk,<-c]) (by rw[D.l,eL]) Yk ?_ hDp (λj hj=>?_)
  .rw[c];exact S3.sat.tail
  .have hc:=D.ch j (by rw[oU];exact hj)
   rw[D.l,eL]at hc;rw[c];rcases hc with hc|⟨ca,cap',i,y,E⟩
   .exact .inl hc
   .have hm:gZ ca (Lf.ou j).b.ch∈Y++R.S:=by
     have:=gH E;rw[hY,eW]at this;simp only[fM,dZ,ak,bB,or_false]at this;rcases this with z|z|z
     .exact lE _ z
     .have h9:=cP aJ.wr z;cases h9
     .exact kX _ z
    obtain⟨i',T⟩:=lV hm;exact .inr ⟨ca,cap',i',y,T⟩
 have:=HZ (m:=m) H Yv hKD (by rw[Q];exact hK.2.2.2) (by rw[Q];exact hK.2.2.1) c0 hSg hPg hQ (by rw[eV,eL];show Fin V Lf m none ({L with al:=V.nc}:LS);rw[hl0];exact hf);rw[eI,el,Q]at this;have e1:R.cR=cR:=by rw[<-c]
 have e2:R.nG=cf::cs:=by rw[<-c]
 rw[e1,e2]at this;exact this
theorem mB:Has C r↔r.wr=false/\r∈C:=⟨fun⟨c,i,a⟩=>⟨c,gH a⟩,fun⟨c,a⟩=>⟨c,lV a⟩⟩
theorem Rg(Z:vf V)(hL:zg V L)(hf:Fin V Lf m none L)(I:0<ng)(hl:∀x∈l,x<w0.heap.size)(hM:UJ V sa dH dU M)(hLy:0<V.nl->∃la,sL=some la/\Has M (fR la 6 (λi=>ym (V.ly i)) V.nl false))(hS:Sat (cJ w0.heap.size l []) w0 M)(R:QO (cJ w0.heap.size l []) (nQ prog Post (Old w0) (jl l) ng) w0.heap.size M 16 #[.slice sL V.nl cr,.slice sa V.nc cap] (.tuple #[i6 0,i6 0]))(K:∀(d A:Nat)(s:PS)(C:aX)(w':aj),0<d->w0.heap.size<=A->A<w'.heap.size->s.l=Lf->s.k.V=V->Old w0 w'->Sat (cJ w0.heap.size (A::l) []) w' (pM s++C)->PV (cJ w0.heap.size (A::l) []) s (bQ s)->(∀r,Has M r->Has C r)->(∀j,j<V.nc->eY C (s.oh j) (Lf.ou j).b.ch)->
 nQ prog Post (Old w0) (jl (A::l)) d (G (cf.finish (.tuple #[.agg #[.slice (some ⟨s.k.O,0,none⟩) V.nc V.nc,.slice s.ea s.l.el s.ec],i6 0,i6 0])) cs) w'):
 nQ prog Post (Old w0) (jl l) ng (G (Frame.enter prog 24 #[.slice sL V.nl cr,.slice sa V.nc cap] .normal) (cf::cs)) w0:=by
 have F:=nD (P:=prog) (Post:=Post) (wI:=w0) (l:=l) ng
 have hB:∀(a:Addr)(wr:Bool),w0.heap.size<=a.block->cJ w0.heap.size l [] a wr:=λa wr hb=>⟨fun⟨A',e,c⟩=>by
  have:=hl A' e;rcases c with c|c<;>(cases c;simp only at hb;omega),λ_=>⟨hb,fun⟨p,hp,_⟩=>by cases hp⟩⟩
 refine Rk F hB Z hLy hS (az _) R λbb a7 w7 B7 lb HD J O bl bo rs X v y Q E H D hI T S S7=>?_
 have u:∀{r},Has X r->Has (X.filter λr=>!r.wr) r:=λh=>by
  obtain⟨e,c⟩:=mB.1 h;exact mB.2 ⟨e,mO.2 ⟨c,by simp[e]⟩⟩
 have W:∀{r},Has (X++M) r->Has ((X.filter λr=>!r.wr)++M) r:=λh=>by
  obtain⟨e,c⟩:=mB.1 h;rcases dZ.1 c with z|z
  .exact(u (mB.2 ⟨e,z⟩)).pre _
  .exact(mB.2 ⟨e,z⟩:Has M _).app _
 have U:∀r∈X.filter λr=>!r.wr,r.wr=false:=λr t=>by simpa using(mO.1 t).2
 have g:Flat (X.filter λr=>!r.wr):=by
  rw[bN]at D ⊢;exact λr t=>D r (mO.1 t).1
 have Io:um V lb J 0 ((X.filter λr=>!r.wr)++M):=hI.up λr t=>W t
 have QL:St (cJ w0.heap.size l []) B7 53 _ (bR bo [.slice (some ⟨O,0,none⟩) V.nc V.nc]::fR ⟨O,0,none⟩ 4 (λ_=>[i6 0,i6 0,i6 0,.slice none 0 0]) V.nc true::bR bl [qQ V lb 0]::fR ⟨HD,0,none⟩ 1 (λ_=>[i6 0]) V.nc true::bR J [.slice none 0 0]::bR rs [.slice none 0 0,.slice none 0 0]::((gT V lb 0++(X.filter λr=>!r.wr))++M)) 0 a7 w7:=
  ⟨S7.env,S7.sat.sub (by
   repeat apply List.Sublist.cons_cons
   rw[fM];exact nR (EP List.filter_sublist _) _),S7.sz⟩
 refine Rj Z hL hl v y Q E H (((bN.2 (OZ V lb 0)).app g).app hM.fl) hM.QB QL λbI bE f q en eb a1 w1 B1 e c h3 h4 h5 h6 h7 h8 h9 Cg Ez S1=>?_
 refine Ri Z hL hf I hl v y (by omega) (by omega) e c h3 h4 h6 h7 hM g U Io (u T) (u S) h8 h9 Cg Ez (by rw[fM]at S1;exact S1) λcR d s Y w' g1 g2 g3 g4 g5 g6 g7=>?_
 have eO:s.k.O=O:=by rw[g2]
 have Vz:=au (g5.tail.val 0 _ rfl (0,0) ⟨aG,(by decide:0<2)⟩);have hAA:s.k.A=B7+2:=by rw[g2]
 have:=K d (B7+2) s _ w' g1 (by omega) (by rw[<-hAA];exact Vz) g3 (by rw[g2]) g4 g5.tail g6 (λr t=>((((t.app _).cons.cons.cons).app _).app Y)) g7;rw[eO]at this;exact this
theorem Rh(F:aC prog true (DX Ok) Ψ)(hB:HB B Ok){nl d:Nat}{c i:Int}(hc:c≠0)(T:Sat Ok w M)(U:B<=w.heap.size)(t:QO Ok Ψ B M 16 #[.slice sL nl cr,.slice sa d cap] (.tuple #[i6 c,i6 i]))(K:∀w',Sat Ok w' M->w.heap.size<=w'.heap.size->Ψ (G (cf.finish (.tuple #[.agg #[.slice none 0 0,.slice none 0 0],i6 c,i6 i])) cs) w'):
 Ψ (G (Frame.enter prog 24 #[.slice sL nl cr,.slice sa d cap] .normal) (cf::cs)) w:=by
 refine dg f24 func24 _ rfl 53 (by kernel_rfl) T λbb a0 B1 hn a u p S0 I=>?_
 refine aq F hB a p S0 11 [] [] [] [(17,.slice sa d cap),(16,.slice sL nl cr),(4,ptr B1),(0,.slice sL nl cr),(1,.slice sa d cap)] (λM=>bR (B1) [.slice none 0 0,.slice none 0 0]::(M)) 1 11 [] [] λa1 w1 x h H R Z=>?_
 refine bK F a h x 18 16 #[.slice sL nl cr,.slice sa d cap] λgJ e=>?_
 refine t _ _ _ _ (λr S=>S.cons) x.sat (by omega) λw2 W z=>e _ _ _ W λa2 B2 S2 g E=>?_
 refine bA F hB a g S2 21 [0,0,0,2] [2] [] [(6,i6 i),(5,i6 c),(4,ptr B1)] (λM=>M) 0 33 [true] [] [(c !=0,true)] [] [] λa3 y v f D Q Y=>?_
 refine cV F v a u f [0,0,0,2] (.tuple #[.agg #[.slice none 0 0,.slice none 0 0],i6 c,i6 i]) ?_;exact K y v.sat.tail (by omega)
def nF(n:Nat)(L:oO)(m:Nat)(g:Nat->Cl):Ev0:=⟨n,λi=>⟨L i 0,L i 1,L i 2,L i 3,L i 4,L i 5⟩,m,λi=>(g i).st,λi=>(g i).nt,λi j=>⟨(g i).T j 0,(g i).T j 1,(g i).T j 2⟩⟩
theorem CI(L:oO):∀(m k:Nat)(r:Int),cZ L m k r=k+m->∀j,k<=j->j<k+m->aK (L j 0) (L j 1) (L j 2) (L j 3) (L j 4) (L j 5)=true
 |0,k,r,_,j,f,d=>by omega
 |m+1,k,r,h,j,f,d=>by
  unfold cZ at h
  by_cases a:2<(if L k 0=1 then r+1 else r)\/aK (L k 0) (L k 1) (L k 2) (L k 3) (L k 4) (L k 5)=false
  .rw[ah a]at h;omega
  .rw[af a]at h
   by_cases e:j=k
   .subst e
    cases c:aK (L j 0) (L j 1) (L j 2) (L j 3) (L j 4) (L j 5)with
    |true=>rfl
    |false=>exact absurd (.inr c) a
   .exact CI L m (k+1) (if L k 0=1 then r+1 else r) (by rw[h];omega) j (by omega) (by omega)
theorem va(g:Nat->Cl):∀(m k:Nat),fS g m k=k+m->∀j,k<=j->j<k+m->(g j).ww=true
 |0,k,_,j,d,c=>by omega
 |m+1,k,h,j,d,c=>by
  unfold fS at h
  split at h
  .omega
  .rename_i a
   by_cases e:j=k
   .subst e;simpa using a
   .exact va g m (k+1) (by omega) j (by omega) (by omega)
theorem uU(T:oO):∀(m k:Nat),lX T m k=true->∀j,k<=j->j<k+m->(1<=T j 0/\T j 0<=4)/\(0<=T j 2/\T j 2<=1000)
 |0,k,_,j,c,a=>by omega
 |m+1,k,h,j,c,a=>by
  unfold lX at h;simp only[cq,eK,decide_eq_true_eq]at h
  by_cases e:j=k
  .subst e;exact⟨by simpa using h.1.1,by simpa using h.1.2⟩
  .exact uU T m (k+1) h.2 j (by omega) (by omega)
theorem HV{ly:Nat->ko}{L:oO}(a:∀i,(ly i).k=L i 0):∀(m k:Nat)(r:Int),r=(Jf ly k:Int)->r<=2->cZ L m k r=k+m->Jf ly (k+m)<=2
 |0,k,r,f,e,_=>by rw[iO];omega
 |m+1,k,r,f,e,h=>by
  unfold cZ at h
  by_cases c:2<(if L k 0=1 then r+1 else r)\/aK (L k 0) (L k 1) (L k 2) (L k 3) (L k 4) (L k 5)=false
  .rw[ah c]at h;omega
  .rw[af c]at h
   have d:(if L k 0=1 then r+1 else r)=(Jf ly (k+1):Int):=by
    unfold Jf;rw[a k]
    split<;>omega
   have:=HV a m (k+1) _ d (Int.not_lt.1 λz=>c (.inl z)) (by rw[h];omega);rw[show k+(m+1)=k+1+m by omega];exact this
theorem zJ{L:oO}{g:Nat->Cl}(h:jG n L m g=(0,0))(z:∀i,i<n->L i 0<=4):vf (nF n L m g):=by
 unfold jG at h
 split at h
 .cases h
 .rename_i E
  split at h
  .cases h
  .rename_i G
   split at h
   .cases h
   .rename_i F
    split at h
    .cases h
    .rename_i hc
     have e1:cZ L n 0 0=0+n:=by have:=yX L n 0 0;omega
     have e2:fS g m 0=0+m:=by have:=CJ g m 0;omega
     have t:=CI L n 0 0 e1;have u:=va g m 0 e2;refine⟨by show n<=6;omega,by show m<=9;omega,λk hk=>?_,?_,λk hk e=>?_,λk hk e=>?_,λk hk e=>?_,λc hc=>?_,λc hc=>?_,λc hc j hj=>?_⟩
     .have f:k<n:=hk
      have a:=t k (by omega) (by omega);have D:=z k f
      show L k 0=1\/L k 0=2\/L k 0=3\/L k 0=4
      unfold aK at a
      by_cases e1:L k 0=1
      .exact .inl e1
      .by_cases e2:L k 0=2
       .exact .inr (.inl e2)
       .by_cases x:L k 0=3
        .exact .inr (.inr (.inl x))
        .by_cases v:L k 0=4
         .exact .inr (.inr (.inr v))
         .rw[af e1,af e2,af x,af v,af (by omega),af (by omega)]at a
          cases a
     .have:=HV (ly:=(nF n L m g).ly) (λi=>rfl) n 0 0 rfl (by omega) e1
      rw[bD]at this;exact this
     .have f:k<n:=hk
      have a:=t k (by omega) (by omega);have d:L k 0=3:=e;unfold aK at a;rw[af (by omega),af (by omega),ah d]at a;simp only[cq,eK,decide_eq_true_eq]at a
      show(1<=L k 1/\L k 1<=1000)/\(1<=L k 2/\L k 2<=20)
      omega
     .have f:k<n:=hk
      have a:=t k (by omega) (by omega);have d:L k 0=4:=e;unfold aK at a;rw[af (by omega),af (by omega),af (by omega),ah d]at a;simp only[cq,eK,decide_eq_true_eq]at a
      show(1<=L k 1/\L k 1<=20)/\(1<=L k 2/\L k 2<=L k 1)/\(1<=L k 3/\L k 3<=100)/\(0<=L k 4/\L k 4<=1000)/\(1<=L k 5/\L k 5<=9)
      omega
     .have f:k<n:=hk
      have a:=t k (by omega) (by omega);have d:L k 0=1:=e;unfold aK at a;rw[ah d]at a;simp only[cq,eK,decide_eq_true_eq]at a
      show(1<=L k 1/\L k 1<=9)/\(0<=L k 2/\L k 2<=1000)/\(1<=L k 3/\L k 3<=9)/\(0<=L k 4/\L k 4<=10000)
      omega
     .have p:c<m:=hc
      have a:=u c (by omega) (by omega);simp only[Cl.ww,iy,cq,eK,decide_eq_true_eq,mF,decide_eq_false_iff_not]at a
      show 0<=(g c).st/\(g c).st<=1000
      omega
     .have p:c<m:=hc
      have a:=u c (by omega) (by omega);simp only[Cl.ww,iy,cq,eK,decide_eq_true_eq,mF,decide_eq_false_iff_not]at a
      show(g c).nt<=12
      omega
     .have p:c<m:=hc
      have y:j<(g c).nt:=hj;have a:=u c (by omega) (by omega);simp only[Cl.ww,iy,cq]at a;exact uU (g c).T (g c).nt 0 a.2 j (by omega) (by omega)
end Go.Proofs.YtobagnjnbmgidaaGreatDoor
