import Derived.Test.YtobagnjnbmgidaaGreatDoorB1
import Derived.Test.YtobagnjnbmgidaaGreatDoorD0
set_option linter.all false
set_option maxHeartbeats 0
set_option maxRecDepth 100000
namespace Go.Proofs.YtobagnjnbmgidaaGreatDoor
open Go.Conc Go.RowKit Tryz
variable{V:Ev0}{L Lf:LS}{HD J N O b bi bl bo u Z bJ j k m n o rs bM:Nat}{s:PS}{r:aH}{C X:aW}{v E:aC}{en:ay}{q:aN}{dL:p9}{st:oJ}{lb eu:bU}{y:cO}{sL I:eP}{vs xs ys zs:iO}
variable{main:Bool}{Ok:dh}{B A ng:Nat}{Q:gi}{w U w0:aj}{M:aW}{Post:qz}{cc l:aN}{es:dS}{P:aG}
theorem zN(J:Nat)(I:eP)(n u:Nat)(w0:aj)(w:n<=9):
 fG prog main (DX Ok) 47 #[.slice I n u,.pointer (some ⟨J,0,none⟩)] w0 λv U=>∃B HD,v=.iface 138 (.pointer (some ⟨B,0,none⟩))/\Kp [] w0 U/\w0.heap.size<=HD/\HD<B/\B<U.heap.size/\U.cell? ⟨B,0,none⟩=some .nilIface/\Su U B HD J I n u:=by
 intro Q F c y C;simp only[enter_at _ func47 rfl,ntmps47];walk_nrm;refine F.cF ?_;refine F.aJ ?_;refine F.dA ?_;iterate 5 (refine F.aJ ?_)
 refine F.op rfl rfl (by decide) (λd K q=>?_);go_simp;rw[Um n w];go_simp;rw[alloc_at'];refine q _ _ ⟨DX.alloc _ _ (λe c=>?_),?_⟩
 .have A:=mem_listed c;simp[go_sem,Um n w,PN n w]at A
 clear q K d;try walk_nrm
 generalize f:World.alloc w0 _=i;generalize g:(World.heap w0).size=r;have c:=gH f g;have t:∀j,j<n->i.cell? ⟨r,j,none⟩=some (.int .i64 0)/\i.frozen? ⟨r,j,none⟩=false:=λj k=>⟨aY (i:=j) f g (by simpa using zf n j k),cy f g j⟩
 have s:Kp [] w0 i:=Kp.alloc f;refine F.aJ ?_;refine F.GV ?_;generalize a:World.alloc i _=x;generalize b:(World.heap i).size=z;have c:=gH a b;have h:=aY (i:=0) a b rfl;have c:=cy a b 0;have p:=aY (i:=1) a b rfl;have c:=cy a b 1;have o:=aY (i:=2) a b rfl;have c:=cy a b 2;have m:=aY (i:=3) a b rfl;have c:=cy a b 3;have l:=aY (i:=4) a b rfl;have c:=cy a b 4;try simp only[sS,sW,sV]at h p o m l
 replace s:=s.yT a;iterate 2 (refine F.oq rfl rfl rfl (λ_=>by first|(simp[go_sem];done)|simp[go_sem,Instr.makeInterface,Instr.makeFunc, *]) λd K q=>?_;go_simp;refine q _ ?_;clear q K d;try walk_nrm)
 refine F.tC func47 ?_;have c:Kp [] i x:=Kp.alloc a;exact C _ _ ⟨z,r,rfl,s,by omega,by omega,au h,h,p,o,m,l,λj k=>⟨c.cell _ _ (by simp) (t j k).1,(c.Rn _ _ (by simp) (t j k).1).trans (t j k).2⟩⟩
theorem Sat.sj(h:Sat Ok w M)(k:Kp [] w U []){N:aW}(l:∀r∈N,tX Ok U r)(a:N.Pairwise Dj)(i:∀r∈N,∀j,r.has j->w.heap.size<=(r.ad j).block):Sat Ok U (N++M):=by
 have d:=sat_iff.1 (h.PZ k);rw[sat_iff];refine⟨λr b=>?_,YS.2 ⟨a,d.2,λr b a a _ j c g c e=>?_⟩⟩
 .rcases dJ.1 b with z|z
  .exact l r z
  .exact d.1 r z
 .have f:=i r b j g;have b:=h.blk a c;rw[e]at f;omega
theorem oW{wr:Bool}{j:Ix}(a:j.2<zs.length):(oR b o zs wr).get j=zs.getD j.2 undef:=by
 cases zs with
 |nil=>cases a
 |cons z zs=>rfl
theorem Sat.RF(h:Sat Ok w (bR b (xs++zs)::M)):Sat Ok w (oR b 0 xs false::oR b xs.length zs true::M):=by
 rw[sat_iff]at h ⊢;obtain⟨p,o⟩:=h;have H:=p _ (bI ..);have m:=(dr.1 o).1;have q:∀(j:Ix),j.2<(xs++zs).length->(bR b (xs++zs)).get j=(xs++zs).getD j.2 undef:=λj a=>by
  generalize xs++zs=ys at a;cases ys with
  |nil=>cases a
  |cons z ys=>rfl
 have k:∀j:Ix,(oR b 0 xs false).has j->(bR b (xs++zs)).has j/\(oR b 0 xs false).ad j=(bR b (xs++zs)).ad j/\(oR b 0 xs false).get j=(bR b (xs++zs)).get j:=λj a=>by
  have l:j.2<xs.length:=a.2;have h:j.2<(xs++zs).length:=by rw[YA];omega
  refine⟨⟨a.1,h⟩,by show(⟨b,0+j.2,none⟩:Addr)=⟨b,j.2,none⟩;rw[bK],?_⟩;rw[oW l,q j h];simp[List.getD,nO l]
 have f:∀j:Ix,(oR b xs.length zs true).has j->(bR b (xs++zs)).has (j.1,xs.length+j.2)/\(oR b xs.length zs true).ad j=(bR b (xs++zs)).ad (j.1,xs.length+j.2)/\(oR b xs.length zs true).get j=(bR b (xs++zs)).get (j.1,xs.length+j.2):=λj a=>by
  have l:j.2<zs.length:=a.2;have h:xs.length+j.2<(xs++zs).length:=by rw[YA];omega
  refine⟨⟨a.1,h⟩,rfl,?_⟩;rw[oW l,q (j.1,xs.length+j.2) h];simp[List.getD,vf]
 refine⟨λr d=>?_,dr.2 ⟨λr d b j i a c e=>?_,dr.2 ⟨λr d b j i a c e=>?_,(dr.1 o).2⟩⟩⟩
 .rcases ak.1 d with rfl|d
  .exact⟨λj a=>by rw[(k j a).2.1,(k j a).2.2];exact H.val j (k j a).1,λj a=>⟨by rw[(k j a).2.1];exact(H.ok j (k j a).1).1,λz=>(by cases z)⟩,λz=>(by cases z),λg e n z=>(by cases z)⟩
  .rcases ak.1 d with rfl|d
   .exact⟨λj a=>by rw[(f j a).2.1,(f j a).2.2];exact H.val _ (f j a).1,λj a=>by rw[(f j a).2.1];exact H.ok _ (f j a).1,λ_ j i a c e=>by
     have:=H.inj rfl _ _ (f j a).1 (f i c).1 (by rw[<-(f j a).2.1,<-(f i c).2.1];exact e);simp only[Prod.mk.injEq]at this;exact YC this.1 (by omega),λg e n z=>(by cases z)⟩
   .exact p r (aP _ d)
 .rcases ak.1 d with rfl|d
  .have b:j.2<xs.length:=a.2;have b:0+j.2=xs.length+i.2:=cT Addr.off e;omega
  .rw[(k j a).2.1]at e;exact m r d (.inl rfl) j i (k j a).1 c e
 .rw[(f j a).2.1]at e;exact m r d (.inl rfl) _ i (f j a).1 c e
theorem Sat.cut(h:Sat Ok w (bR b (xs++ys)::M)):Sat Ok w (oR b 0 xs false::oR b xs.length ys false::M):=
 h.RF.G7 1 rfl (oR b xs.length ys false) (λj a=>⟨a,rfl,rfl⟩) (λz=>by cases z) rfl
theorem nq(h:∀j,j<vs.length->w.cell? ⟨b,o+j,none⟩=some (vs.getD j undef))(d:∀j,j<vs.length->Ok ⟨b,o+j,none⟩ false):tX Ok w (oR b o vs false):=by
 refine⟨λj a=>?_,λj a=>⟨d j.2 a.2,λz=>(by cases z)⟩,λz=>(by cases z),λg e n z=>(by cases z)⟩;have c:j.2<vs.length:=a.2;have:=h j.2 c;cases vs with
 |nil=>cases c
 |cons z zs=>exact this
theorem Og(F:aB prog main (DX Ok) Q)(h:HB B Ok)(p:Sat Ok w M)(m:B<=w.heap.size)(m:n<=9)(K:∀lb HD U,Sat Ok U (oR lb 0 [.nilIface,i6 (-1),ptr J] false::oR lb 3 [.slice I n u,.slice (some ⟨HD,0,none⟩) n n] false::fR ⟨HD,0,none⟩ 1 (λ_=>[i6 0]) n true::M)->w.heap.size<=U.heap.size->Kp [] w U->Q (G (E.finish (.iface 138 (ptr lb))) y) U):
 Q (G (Frame.enter prog 47 #[.slice I n u,ptr J] .normal) (E::y)) w:=by
 refine zN J I n u w m _ F _ _ (λv l m=>?_);obtain⟨b,HD,rfl,g,q,t,t,s,f⟩:=m;refine K b HD l (p.sj g (N:=[oR b 0 [.nilIface,i6 (-1),ptr J] false,oR b 3 [.slice I n u,.slice (some ⟨HD,0,none⟩) n n] false,fR ⟨HD,0,none⟩ 1 (λ_=>[i6 0]) n true]) (λr c=>?_) ?_ (λr c j d=>?_)) g.size g
 .simp only[ak,bH,or_false]at c;rcases c with rfl|rfl|rfl
  .refine nq (λj d=>?_) (λj d=>h _ _ (by show B<=b;omega));match j,d with
   |0,_=>exact s
   |1,_=>exact f.b1
   |2,_=>exact f.b2
  .refine nq (λj d=>?_) (λj d=>h _ _ (by show B<=b;omega));match j,d with
   |0,_=>exact f.b3
   |1,_=>exact f.b4
  .refine rI (λj d i g=>?_) (λa wr a=>h _ _ (by omega));have:i=0:=by omega
   subst this;have:=f.h j d;simp only[lm,jI];exact this
 .have:∀(o:Nat)(vs:iO),Dj (oR b o vs false) (fR ⟨HD,0,none⟩ 1 (λ_=>[i6 0]) n true):=λo vs _ j a d d e=>by
   have k:(⟨b,o+j.2,none⟩:Addr)=((⟨HD,0,none⟩:Addr).add (a.1*1)).add a.2:=e;rw[add_add]at k;have a:b=HD:=cT Addr.block k;omega
  refine dr.2 ⟨λr c=>?_,dr.2 ⟨λr c=>?_,dr.2 ⟨λr c=>(by cases c),List.Pairwise.nil⟩⟩⟩
  .simp only[ak,bH,or_false]at c;rcases c with rfl|rfl
   .intro a;rcases a with z|z<;>cases z
   .exact this _ _
  .simp only[ak,bH,or_false]at c;subst c;exact this _ _
 .simp only[ak,bH,or_false]at c;rcases c with rfl|rfl|rfl
  .show w.heap.size<=b;omega
  .show w.heap.size<=b;omega
  .show w.heap.size<=(((⟨HD,0,none⟩:Addr).add (j.1*1)).add j.2).block;rw[add_add];exact q
def Y3(x:ju):List Value:=[i6 x.k,i6 x.a,i6 x.b,i6 x.c,i6 x.d,i6 x.e]
theorem Sat.N5(h:Sat Ok w (bR b ((xs++ys)++zs)::M)):Sat Ok w (oR b 0 xs false::oR b xs.length ys false::oR b (xs++ys).length zs true::M):=by
 have c:=h.RF;have a:=c.dup (i:=0) rfl rfl;have f:=a.Pu (r':=oR b 0 xs false) rfl rfl λj c=>by
  have d:j.2<xs.length:=c.2;have a:j.2<(xs++ys).length:=by grind
  exact⟨j,⟨c.1,a⟩,rfl,by rw[oW d,oW a];simp_all⟩
 have e:=(f.perm (.swap ..)).Pu (r':=oR b xs.length ys false) rfl rfl λj c=>by
  have d:j.2<ys.length:=c.2;have a:xs.length+j.2<(xs++ys).length:=by simp_all
  exact⟨(j.1,xs.length+j.2),⟨c.1,a⟩,by simp,by rw[oW d,oW (j:=(j.1,xs.length+j.2)) a];simp_all⟩
 exact e.perm (.swap ..)
def gz:Gt:=⟨false,0,0,0,0,[],0,0⟩
def A9(x:ju):List Value:=if x.k=1 then[i6 x.a,i6 x.b,i6 x.c,i6 x.d]else if x.k=3 then[i6 x.a,i6 x.b]else if x.k=4 then[i6 x.a,i6 x.b,i6 x.c,i6 x.d,i6 x.e]else if x.k=5 then[i6 x.a,i6 x.b]else[]
def Ti(k:Int)(lb:Nat):Value:=if k=1 then .iface 141 (ptr lb)else if k=3 then .iface 147 (ptr lb)else if k=4 then .iface 150 (ptr lb)else if k=5 then .iface 155 (ptr lb)else .iface 144 (ptr lb)
theorem FB(k:Int)(lb:Nat):∃a,Ti k lb=.iface a (ptr lb):=by
 unfold Ti;split
 .simp
 .split
  .simp
  .split
   .simp
   .split<;>exact⟨_,rfl⟩
theorem PY(F:aB prog main (DX Ok) Q)(s:HB B Ok){ty:Nat}{x:ju}{num:Int}(z:x.k=1\/x.k=2\/x.k=3\/x.k=4\/x.k=5)(r:Sat Ok w M)(a:B<=w.heap.size)(K:∀lb U,w.heap.size<=lb->Sat Ok U (oR lb 0 [.iface ty (ptr b),i6 num,ptr J] false::oR lb 3 (A9 x) false::(gR x lb gz jC []++M))->w.heap.size<=U.heap.size->Q (G (E.finish (Ti x.k lb)) y) U):
 Q (G (Frame.enter prog 48 #[.agg #[i6 x.k,i6 x.a,i6 x.b,i6 x.c,i6 x.d,i6 x.e],.agg #[.iface ty (ptr b),i6 num,ptr J]] .normal) (E::y)) w:=by
 obtain⟨a,g,f,i,h,q⟩:=x;simp only at z K ⊢;rcases z with rfl|rfl|rfl|rfl|rfl
 .refine cJ func48 r 69 λv u a t d e c p l=>bB F s d e c p 35 [1,0,0,1,0,0,0,3,1,0,1,4] [3] [] 4 (.iface 141 (ptr (a+2))) (λM=>bR (a+2) [.iface ty (ptr b),i6 num,ptr J,i6 g,i6 f,i6 i,i6 h]::(bR (a+1) [.iface ty (ptr b),i6 num,ptr J]::(bR (a) [i6 1,i6 g,i6 f,i6 i,i6 h,i6 q]::(M)))) 3 35 3 [] λj o k m=>?_;have n:=Sat.cut (xs:=[.iface ty (ptr b),i6 num,ptr J]) (ys:=[i6 g,i6 f,i6 i,i6 h]) o.sat;exact K (a+2) j (by omega) (Sat.Db (A:=[_,_]) (X:=[_,_]) n) (by omega)
 .refine cJ func48 r 69 λv u a t d e c p l=>bB F s d e c p 33 [1,0,0,1,0,0,0,3] [1,3] [] 4 (.iface 144 (ptr (a+2))) (λM=>bR (a+2) [.iface ty (ptr b),i6 num,ptr J]::(bR (a+1) [.iface ty (ptr b),i6 num,ptr J]::(bR (a) [i6 2,i6 g,i6 f,i6 i,i6 h,i6 q]::(M)))) 3 33 6 [] λj o k m=>?_;have n:=Sat.cut (xs:=[.iface ty (ptr b),i6 num,ptr J]) (ys:=[]) o.sat;exact K (a+2) j (by omega) (Sat.Db (A:=[_,_]) (X:=[_,_]) n) (by omega)
 .refine cJ func48 r 69 λv u a t d e c p l=>bB F s d e c p 43 [1,0,0,1,0,0,0,3,1,0,1,2] [1,1,3] [] 4 (.iface 147 (ptr (a+2))) (λM=>bR (a+2) [.iface ty (ptr b),i6 num,ptr J,i6 g,i6 f,i6 0]::(bR (a+1) [.iface ty (ptr b),i6 num,ptr J]::(bR (a) [i6 3,i6 g,i6 f,i6 i,i6 h,i6 q]::(M)))) 3 43 12 [] λj o k m=>?_;have n:=Sat.N5 (xs:=[.iface ty (ptr b),i6 num,ptr J]) (ys:=[i6 g,i6 f]) (zs:=[i6 0]) o.sat;exact K (a+2) j (by omega) (Sat.Db (A:=[_,_,_]) (X:=[_,_]) n) (by omega)
 .refine cJ func48 r 69 λv u a t d e c p l=>bB F s d e c p 55 [1,0,0,1,0,0,0,3,1,0,1,5] [1,1,1,3] [] 4 (.iface 150 (ptr (a+2))) (λM=>bR (a+2) [.iface ty (ptr b),i6 num,ptr J,i6 g,i6 f,i6 i,i6 h,i6 q,i6 0,i6 0,i6 0,i6 0,.slice none 0 0]::(bR (a+1) [.iface ty (ptr b),i6 num,ptr J]::(bR (a) [i6 4,i6 g,i6 f,i6 i,i6 h,i6 q]::(M)))) 3 55 24 [] λj o k m=>?_;have n:=Sat.N5 (xs:=[.iface ty (ptr b),i6 num,ptr J]) (ys:=[i6 g,i6 f,i6 i,i6 h,i6 q]) (zs:=[i6 0,i6 0,i6 0,i6 0,.slice none 0 0]) o.sat;have w:=Sat.Db (A:=[_,_,_]) (X:=[_,_]) n;refine K (a+2) j (by omega) ?_ (by omega);exact(w.ff (r:=fR ⟨jC.g,0,none⟩ 1 jC.v (jC.o+jC.c) true) rfl rfl).perm (eY (l₁:=[_,_,_])).symm
 .refine cJ func48 r 69 λv u a t d e c p l=>bB F s d e c p 55 [1,0,0,1,0,0,0,3,1,0,1,2] [1,1,1,1,3] [] 4 (.iface 155 (ptr (a+2))) (λM=>bR (a+2) [.iface ty (ptr b),i6 num,ptr J,i6 g,i6 f,i6 0,.slice none 0 0]::(bR (a+1) [.iface ty (ptr b),i6 num,ptr J]::(bR (a) [i6 5,i6 g,i6 f,i6 i,i6 h,i6 q]::(M)))) 3 55 48 [] λj o k m=>?_;have n:=Sat.N5 (xs:=[.iface ty (ptr b),i6 num,ptr J]) (ys:=[i6 g,i6 f]) (zs:=[i6 0,.slice none 0 0]) o.sat;have w:=Sat.Db (A:=[_,_,_]) (X:=[_,_]) n;refine K (a+2) j (by omega) ?_ (by omega);exact(w.ff (r:=fR ⟨jC.g,jC.o,none⟩ 1 jC.v (rK jC) true) rfl rfl).perm (eY (l₁:=[_,_,_])).symm
def Yw(V:Ev0)(lb:bU)(j:Nat):Value:=if j=V.nl then .iface 138 (ptr (lb j))else Ti (V.ly j).k (lb j)
theorem vP(V:Ev0)(lb:bU)(j:Nat):∃a,Yw V lb j=.iface a (ptr (lb j)):=by
 unfold Yw;split
 .simp
 .exact FB ..
def gT(V:Ev0)(lb:bU)(j:Nat):List aH:=(List.range' j (V.nl-j)).flatMap λi=>gR (V.ly i) (lb i) gz jC []
theorem Rl(V:Ev0)(lb:bU):gT V lb V.nl=[]:=by unfold gT;simp
theorem Jg{a:Nat}(b:j<V.nl):gT V (upd lb j a) j=gR (V.ly j) a gz jC []++gT V lb (j+1):=by
 unfold gT;rw[show V.nl-j=(V.nl-(j+1))+1 by omega,List.range'_succ,DN];congr 1
 .simp[upd]
 .rw[List.flatMap_def,List.flatMap_def];congr 1;refine u7 λi a=>?_;have:=(List.mem_range'_1.1 a).1;have e:i≠j:=by omega
  simp[upd,e]
theorem NK(V:Ev0)(lb:bU)(j:Nat):∀r∈gT V lb j,r.row=none:=λr a=>by
 obtain⟨i,_,h⟩:=mL.1 a;exact Gf _ _ _ _ _ r h
structure tV(V:Ev0)(lb:bU)(J j:Nat)(C:aW):Prop where
 lay:∀i,j<=i->i<V.nl->Has C (tQ (lb i) (Yw V lb (i+1)) i J)
 Ig:∀i,j<=i->i<V.nl->(V.ly i).k=1->Has C (oR (lb i) 3 [i6 (V.ly i).a,i6 (V.ly i).b,i6 (V.ly i).c,i6 (V.ly i).d] false)
 Mi:∀i,j<=i->i<V.nl->(V.ly i).k=3->Has C (oR (lb i) 3 [i6 (V.ly i).a,i6 (V.ly i).b] false)
 Lh:∀i,j<=i->i<V.nl->(V.ly i).k=4->Has C (oR (lb i) 3 [i6 (V.ly i).a,i6 (V.ly i).b,i6 (V.ly i).c,i6 (V.ly i).d,i6 (V.ly i).e] false)
 Kj:∀i,j<=i->i<V.nl->(V.ly i).k=5->Has C (oR (lb i) 3 [i6 (V.ly i).a,i6 (V.ly i).b] false)
theorem tV.up{e:aW}(h:tV V lb J j C)(d:∀r,Has C r->Has e r):tV V lb J j e:=⟨λi a b=>d _ (h.lay i a b),λi a b c=>d _ (h.Ig i a b c),λi a b c=>d _ (h.Mi i a b c),λi a b c=>d _ (h.Lh i a b c),λi a b c=>d _ (h.Kj i a b c)⟩
theorem Px(A G X T M:aW):(A++(G++(X++(T++M)))).Perm ((A++X)++((G++T)++M)):=by
 rw[dU,dU];exact eN A (fA G X (T++M))
theorem AF(F:aB prog main (DX Ok) Q)(I:HB B Ok){v:aC}(f:v.kind=.normal)(H:v.fn=34){E:aC}{y:cO}{V:Ev0}{J u:Nat}{sL:eP}(U6:V.nl<=6)(D:∀k,k<V.nl->(V.ly k).k=1\/(V.ly k).k=2\/(V.ly k).k=3\/(V.ly k).k=4\/(V.ly k).k=5){M:aW}(hL:0<V.nl->∃s,sL=some s/\Has M (fR s 6 (λi=>Y3 (V.ly i)) V.nl false)):
 ∀(j:Nat)(t:Int)(lb:bU)(X:aW)(L:Act)(w:aj)(P:Nat),t=(j:Int)-1->j<=V.nl->L.defers=[]->B<=P->w.heap.size=P->Flat X->tV V lb J j X->
   St Ok P 29 [(8,i6 t),(7,Yw V lb j),(0,.slice sL V.nl u),(2,ptr J)] (X++(gT V lb j++M)) 0 L w->
   (∀c x U,Flat x->tV V c J 0 x->Sat Ok U (x++(gT V c 0++M))->(∀i,j<=i->c i=lb i)->(∀r,Has X r->Has x r)->w.heap.size<=U.heap.size->Q (G (E.finish (Yw V c 0)) y) U)->
   Q (G (v.at L (pc prog 34 21 [] [])) (E::y)) w
 |0,t,lb,X,L,w,P,hjj,hj,o,hle,W,n,p,m,K=>by
  obtain⟨l,d⟩:=vP V lb 0;rw[d]at m;have:t=-1:=by omega
  subst this;refine bB F I f H o m 13 [] [1] [] 6 (.iface l (ptr (lb 0))) (λM=>M) 0 34 2 [] λw1 R T Y=>?_;have:=K lb X w1 n p R.sat (λ_ _=>rfl) (λ_ h=>h) (by omega);rw[d]at this;exact this
 |j+1,t,lb,X,L,w,P,hjj,hj,o,hle,W,n,p,m,K=>by
  obtain⟨l,d⟩:=vP V lb (j+1);rw[d]at m;have:t=(j:Int):=by omega
  subst this;obtain⟨s,hla,h⟩:=hL (by omega);have Z:IntKind.wrap .i64 ((j:Int)-1)=(j:Int)-1:=aA (by omega) (by omega);have O:=m.get ((h.app _).app X);subst hla;have h:(j:Int)<(V.nl:Int):=by omega
  have h:decide ((0:Int)<=(j:Int))=true:=by simp
  clear m;have m:=O;clear O;refine aX F I f o m 19 [0,j,0,106] [3,2] [] [(26,.agg #[.iface l (.pointer (some (Addr.mk (lb (j+1)) 0 none))),i6 j,ptr J]),(22,.agg #[i6 (V.ly j).k,i6 (V.ly j).a,i6 (V.ly j).b,i6 (V.ly j).c,i6 (V.ly j).d,i6 (V.ly j).e]),(8,i6 j),(0,.slice (some s) V.nl u),(2,ptr J)] (λM=>M) 0 40 3 [] [] [((↑j:Int),V.nl)] [(6,(j,V.nl))] λh w1 R h T Y k=>bu F f h R 27 48 #[.agg #[i6 (V.ly j).k,i6 (V.ly j).a,i6 (V.ly j).b,i6 (V.ly j).c,i6 (V.ly j).d,i6 (V.ly j).e],.agg #[.iface l (.pointer (some (Addr.mk (lb (j+1)) 0 none))),i6 j,ptr J]] λh h=>PY F (λa wr z=>I a wr (by omega)) (x:=V.ly j) (num:=j) (ty:=l) (b:=lb (j+1)) (D j (by omega)) R.sat (az _) λb a a g a=>h _ _ _ g λa a S2 DF a=>?_;obtain⟨A,a⟩:=FB (V.ly j).k b;rw[a]at S2;generalize ZV:oR b 0 [.iface l (ptr (lb (j+1))),i6 (j:Int),ptr J] false::oR b 3 (A9 (V.ly j)) false::(gR (V.ly j) b gz jC []++fR s 6 (λi=>Y3 (V.ly i)) V.nl false::(X++(gT V lb (j+1)++M)))=a at S2;refine aq F I f DF S2 9 [] [] [] [(8,i6 (IntKind.wrap .i64 ((↑j:Int)-1))),(7,.iface A (ptr b)),(0,.slice (some s) V.nl u),(2,ptr J)] (λM=>M) 0 50 3 [] λa3 w3 N CJ S a a=>?_;rw[show pc prog 34 50 (Bo 3) []=pc prog 34 21 [] [] by kernel_rfl];rw[Z]at N;subst ZV;have a:j≠V.nl:=by omega
  have C:∀i,i≠j->Yw V (upd lb j b) i=Yw V lb i:=λi h=>by
   unfold Yw upd;grind
  have a:Yw V (upd lb j b) j=.iface A (ptr b):=by
   unfold Yw upd;simp_all
  rw[<-a]at N;have ul:upd lb j b j=b:=by unfold upd;simp
  have un:∀i,i≠j->upd lb j b i=lb i:=λi h=>by unfold upd;simp_all
  have k:Sat Ok w3 ((oR b 0 [.iface l (ptr (lb (j+1))),i6 (j:Int),ptr J] false::oR b 3 (A9 (V.ly j)) false::X)++(gT V (upd lb j b) j++M)):=by
   rw[Jg (by omega)];have a:=N.sat.sub (M':=oR b 0 [.iface l (ptr (lb (j+1))),i6 (j:Int),ptr J] false::oR b 3 (A9 (V.ly j)) false::(gR (V.ly j) b gz jC []++(X++(gT V lb (j+1)++M)))) (.cons_cons _ (.cons_cons _ (nN (.cons _ (.refl _)) _)));exact a.perm (Px [oR b 0 [.iface l (ptr (lb (j+1))),i6 (j:Int),ptr J] false,oR b 3 (A9 (V.ly j)) false] ..)
  refine AF F I f H U6 D hL j ((j:Int)-1) (upd lb j b) (oR b 0 [.iface l (ptr (lb (j+1))),i6 (j:Int),ptr J] false::oR b 3 (A9 (V.ly j)) false::X) a3 w3 _ rfl (by omega) CJ (by omega) S ((n.cons rfl).cons rfl) ⟨λi a g=>?_,λi a g q=>?_,λi a g q=>?_,λi a g q=>?_,λi a g q=>?_⟩ ⟨N.env,k,N.sz⟩ λc x U k f a b b l=>K c x U k f a (λi h=>?_) (λr a=>b r a.cons.cons) (by omega)
  .by_cases e:i=j
   .subst e;rw[C (i+1) (by omega),d,ul];exact⟨rfl,0,rfl⟩
   .rw[C (i+1) (by omega),un i e];exact(p.lay i (by omega) g).cons.cons
  .by_cases e:i=j
   .subst e;rw[ul,show[i6 (V.ly i).a,i6 (V.ly i).b,i6 (V.ly i).c,i6 (V.ly i).d]=A9 (V.ly i) by unfold A9;simp_all];exact⟨rfl,1,rfl⟩
   .rw[un i e];exact(p.Ig i (by omega) g q).cons.cons
  .by_cases e:i=j
   .subst e;rw[ul,show[i6 (V.ly i).a,i6 (V.ly i).b]=A9 (V.ly i) by unfold A9;simp_all];exact⟨rfl,1,rfl⟩
   .rw[un i e];exact(p.Mi i (by omega) g q).cons.cons
  .by_cases e:i=j
   .subst e;rw[ul,show[i6 (V.ly i).a,i6 (V.ly i).b,i6 (V.ly i).c,i6 (V.ly i).d,i6 (V.ly i).e]=A9 (V.ly i) by unfold A9;simp_all];exact⟨rfl,1,rfl⟩
   .rw[un i e];exact(p.Lh i (by omega) g q).cons.cons
  .by_cases e:i=j
   .subst e;rw[ul,show[i6 (V.ly i).a,i6 (V.ly i).b]=A9 (V.ly i) by unfold A9;simp_all];exact⟨rfl,1,rfl⟩
   .rw[un i e];exact(p.Kj i (by omega) g q).cons.cons
  grind
theorem HV(F:aB prog main (DX Ok) Q)(g:HB B Ok){a:Nat}(j:V.nl<=6)(l:∀k,k<V.nl->(V.ly k).k=1\/(V.ly k).k=2\/(V.ly k).k=3\/(V.ly k).k=4\/(V.ly k).k=5)(r:0<V.nl->∃f,sL=some f/\Has M (fR f 6 (λi=>Y3 (V.ly i)) V.nl false))(b:Sat Ok w M)(c:B<=w.heap.size)(k:n<=9)(K:∀lb HD X U,Flat X->tV V lb J 0 X->Has X (tQ (lb V.nl) .nilIface (-1) J)->Has X (oR (lb V.nl) 3 [.slice I n a,.slice (some ⟨HD,0,none⟩) n n] false)->Sat Ok U (X++(gT V lb 0++(fR ⟨HD,0,none⟩ 1 (λ_=>[i6 0]) n true::M)))->w.heap.size<=U.heap.size->Q (G (E.finish (Yw V lb 0)) y) U):
 Q (G (Frame.enter prog 34 #[.slice sL V.nl u,.slice I n a,ptr J] .normal) (E::y)) w:=by
 refine cJ func34 b 29 λv b b b b m c h d=>aq F g b c h 8 [] [] [] [(10,ptr J),(9,.slice I n a),(0,.slice sL V.nl u),(2,ptr J)] (λM=>M) 0 8 1 [] λc c h c d d d=>bu F b c h 11 47 #[.slice I n a,ptr J] λc d=>Og F g h.sat (by omega) k λlb HD c c h _=>d _ _ _ c λd d k d h=>?_;have h:IntKind.wrap .i64 ((V.nl:Int)-1)=(V.nl:Int)-1:=aA (by omega) (by omega);refine aq F g b d k 12 [] [] [] [(8,i6 (IntKind.wrap .i64 ((↑V.nl:Int)-1))),(7,.iface 138 (ptr lb)),(0,.slice sL V.nl u),(2,ptr J)] (λM=>M) 0 21 1 [] λs p o k d q q=>?_;rw[h]at o;have h:Yw V (λ_=>lb) V.nl=.iface 138 (ptr lb):=by unfold Yw;simp
 rw[<-h]at o;refine AF F g b m j l (M:=fR ⟨HD,0,none⟩ 1 (λ_=>[i6 0]) n true::M) (λz=>by obtain⟨f,b,c⟩:=r z;exact⟨f,b,c.cons⟩) V.nl _ (λ_=>lb) [oR lb 0 [.nilIface,i6 (-1),ptr J] false,oR lb 3 [.slice I n a,.slice (some ⟨HD,0,none⟩) n n] false] s p _ rfl (az _) k (by omega) d ((Flat.nil.cons rfl).cons rfl) ⟨λi b c=>by omega,λi b c=>by omega,λi b c=>by omega,λi b c=>by omega,λi b c=>by omega⟩ (by rw[Rl];exact o) λa h U g f d c b i=>?_;have e:a V.nl=lb:=c V.nl (az _);exact K a HD h U g f (by rw[e];exact b _ ⟨rfl,0,rfl⟩) (by rw[e];exact b _ ⟨rfl,1,rfl⟩) d (by omega)
theorem qB(h:∀j,j<vs.length->w.cell? ⟨b,o+j,none⟩=some (vs.getD j undef)/\w.frozen? ⟨b,o+j,none⟩=false)(i:∀j,j<vs.length->Ok ⟨b,o+j,none⟩ false/\Ok ⟨b,o+j,none⟩ true):tX Ok w (oR b o vs true):=by
 refine⟨λj a=>?_,λj a=>⟨(i j.2 a.2).1,λz=>⟨(i j.2 a.2).2,(h j.2 a.2).2⟩⟩,λ_ j f a d e=>?_,λg e n z=>(by cases z)⟩
 .have c:j.2<vs.length:=a.2;have:=(h j.2 c).1;cases vs with
  |nil=>cases c
  |cons z zs=>exact this
 .have b:o+j.2=o+f.2:=cT Addr.off e;have b:j.1<1:=a.1;have c:f.1<1:=d.1;exact YC (by omega) (by omega)
theorem JI(F:aB prog main (DX Ok) Q)(hB:HB B Ok){es:jl}{cl:Nat}{at':Int}(N:Sat Ok w (pM s++(oR s.k.A 2 [i6 k] true::C)))(A:PV Ok s es)(hC:Flat C)(W:B<=w.heap.size)(hq:es.length<1000000)(Tt:k<1000000)(K:∀V R q T S en W i U,i<=es.length->iM es at' i->Sat Ok U (pM {s with en:=en,eb:=W}++(oR s.k.A 2 [i6 ((k:Int)+1)] true::oR T 0 [ptr s.k.A,i6 k,i6 cl,.chan (some q)] false::dO T (.pointer none) false::oR V 0 [ptr s.k.A] false::oR R 0 [.func (.func 37) #[] #[ptr bl,ptr bo,ptr bi]] false::oR S 0 [ptr T] false::C))->
 PV Ok {s with en:=en,eb:=W} (es.take i++(at',.func (.func 50) #[] #[ptr V,ptr S,ptr R])::es.drop i)->cg U q->w.heap.size<=q->w.heap.size<=U.heap.size->Kp (cw s.en) w U [⟨s.k.A,1,none⟩,⟨s.k.A,2,none⟩]->Q (G (E.finish (ptr T)) y) U):
 Q (G (Frame.enter prog 36 #[ptr s.k.A,i6 cl,i6 at',.func (.func 37) #[] #[ptr bl,ptr bo,ptr bi]] .normal) (E::y)) w:=by
 have G:=N.ok 0 _ rfl (0,1) ⟨aD,gr 1⟩;have TG:=N.val 0 _ rfl (0,1) ⟨aD,gr 1⟩;have W:nth (pM s++(oR s.k.A 2 [i6 k] true::C)) 7=some (oR s.k.A 2 [i6 k] true):=rfl;have OR:=N.val 7 _ W (0,0) ⟨aD,aD⟩;have H:=N.ok 7 _ W (0,0) ⟨aD,aD⟩;have Z7:=au TG;have he:fZ (s.k.A+1) w s.en es:=wm (i:=1) N rfl A.en λz=>(A.eo z).1;have X:∀g,g∈cw s.en->s.eb.c=1/\g=s.eb.E:=λg M=>by
  rcases A.en.2 with ⟨W,z2,z3⟩|⟨o,c,W,z2,_⟩
  .rw[W,bS]at M;simp[Value.ownBlock]at M
  .rw[W,bS]at M;simp[Value.ownBlock]at M;exact⟨z2,M.symm⟩
 refine GS (s.k.A+1) s.k.A bl bo bi cl k at' s.en es w (by exact Z7) (gr _) he hq Tt TG OR (G.2 rfl).2 (H.2 rfl).2 G.1 (G.2 rfl).1 H.1 (H.2 rfl).1 (λa wr h=>?_) Q F E y λv U G=>?_
 .rcases h with h|h
  .obtain⟨W,z2⟩:=X _ h;exact(A.eo W).2 a wr z2
  .exact hB a wr (by omega)
 obtain⟨V,R,q,T,S,P,J,i,rfl,hk,⟨F,F,F,F,F,F,F,F,F,F,F,F⟩,OO,TA,TB,D,mQ,c1,c2,d1,d2,Z,UT,c3,c4⟩:=G;have Y:(es.take i++(at',Value.func (.func 50) #[] #[ptr V,ptr S,ptr R])::es.drop i).length=es.length+1:=by simp;omega
 have hrA:=l9 (b:=s.k.A) N A (hC.cons rfl) (i0:=0) (j0:=(0,0)) rfl (by decide) (by decide) ⟨aD,(by decide:0<2)⟩ rfl;have Zt:Sat Ok w (bR s.k.A [i6 s.l.now,s.en]::eR s.eb::((pM s).tail.tail++C)):=N.BC (A:=pM s);have Z8:∀r∈bR s.k.A [i6 s.l.now,s.en]::eR s.eb::((pM s).tail.tail++C),Dj (oR s.k.A 2 [i6 k] true) r:=by
  have:=N.perm (eY (a:=oR s.k.A 2 [i6 k] true) (l₁:=pM s) (l₂:=C));exact(dr.1 (sat_iff.1 this).2).1
 have h20:∀v:Value,(oR s.k.A 2 [v] true).has (0,0):=λv=>⟨aD,aD⟩
 obtain⟨l,q1,q2,q3,q4,q5⟩:=Sat.K6 (C':=[⟨s.k.A,2,none⟩]) Zt A.en (λz=>(A.eo z).1) (λa wr z=>hB a wr (by omega)) (λz=>(A.eo z).2) (λa ha=>by simp at ha;subst ha;exact⟨rfl,(by decide:2≠0)⟩) (λi r Z j d z=>by
  simp only[ak,bH,or_false]at z;exact Z8 r (aP _ (aP _ (gO Z))) (.inl rfl) (0,0) j (h20 _) d z.symm) hk c1 c2 c3 (λg M=>(c4 g M).imp id λz=>by omega) (by rw[Y];omega) (λi r g e n Z M=>λz=>hrA r (by
  have:=gO Z;rcases dJ.1 this with z|z
  .exact gU _ (aP _ (aP _ z))
  .exact gF _ (aP _ z)) g e n M z.symm)
 have a:(l.E<w.heap.size\/P<=l.E):=by
  rcases q2.2 with ⟨_,_,z⟩|⟨o,c,z,_⟩
  .rw[q3]at z;cases z
  .rcases c4 l.E (by rw[z,bS];simp[Value.ownBlock])with zY|zY
   .obtain⟨a,y2⟩:=X _ zY;obtain⟨cu,u1,_⟩:=wo N (i:=1) rfl a;rw[y2];exact .inl (cU.1 u1).1
   .exact .inr zY
 have a:s.k.A<w.heap.size:=Z7;have m:∀(b o:Nat)(vs:iO)(wr:Bool),w.heap.size<=b->b<P->∀r∈bR s.k.A [i6 s.l.now,J]::eR l::((pM s).tail.tail++C),Dj (oR b o vs wr) r:=λb o vs wr h1 h2 r f _ j O d I e=>by
  have e1:b=(r.ad O).block:=cT Addr.block e;rcases ak.1 f with rfl|f
  .have:(b:Nat)=s.k.A:=e1;omega
  .rcases ak.1 f with rfl|f
   .have:(b:Nat)=l.E:=e1;omega
   .have:=Zt.blk (aP _ (aP _ f)) I;omega
 have ZY:∀r∈bR s.k.A [i6 s.l.now,J]::eR l::((pM s).tail.tail++C),Dj (oR s.k.A 2 [i6 ((k:Int)+1)] true) r:=λr f hw j O d I e=>by
  rcases ak.1 f with rfl|f
  .have e1:2+j.2=O.2:=cT Addr.off e;have:O.2<2:=I.2;omega
  .rcases ak.1 f with rfl|f
   .have e1:s.k.A=l.E:=cT Addr.block e;omega
   .exact Z8 r (aP _ (aP _ f)) (.inl rfl) j O d I e
 have x:∀(r L:aH),r.wr=false->L.wr=false->Dj r L:=λr L h1 h2 hw=>by
  rcases hw with z|z
  .rw[h1]at z;cases z
  .rw[h2]at z;cases z
 have p:∀(b g o n:Nat)(vs c:iO)(wr a:Bool),b≠g->Dj (oR b o vs wr) (oR g n c a):=λb g o n vs c wr a a _ j O _ _ e=>a (cT Addr.block e);have t:∀(b o:Nat)(wr:Bool),w.heap.size<=b->Ok ⟨b,o,none⟩ wr:=λb o wr h=>hB _ _ (by show B<=b;omega);refine K V R q T S J l i U Z UT ?_ ⟨A.jr,q2,λ_=>⟨q4,q5⟩,A.fb,A.rm,A.cx⟩ mQ (by omega) hk.size hk;have Nj:Sat Ok U ([oR s.k.A 2 [i6 ((k:Int)+1)] true,oR T 0 [ptr s.k.A,i6 k,i6 cl,.chan (some q)] false,dO T (.pointer none) false,oR V 0 [ptr s.k.A] false,oR R 0 [.func (.func 37) #[] #[ptr bl,ptr bo,ptr bi]] false,oR S 0 [ptr T] false]++(bR s.k.A [i6 s.l.now,J]::eR l::((pM s).tail.tail++C))):=by
  have qq:=sat_iff.1 q1;rw[sat_iff];refine⟨λr f=>?_,YS.2 ⟨?_,qq.2,λr f L u=>?_⟩⟩
  .rcases dJ.1 f with f|f
   .simp only[ak,bH,or_false]at f;rcases f with rfl|rfl|rfl|rfl|rfl|rfl
    .refine qB (λj d=>?_) (λj d=>?_)
     .have:j=0:=uj.1 d;subst this;exact⟨d1,d2⟩
     .have:j=0:=uj.1 d;subst this;exact⟨H.1,(H.2 rfl).1⟩
    .refine nq (λj d=>?_) (λj d=>t _ _ _ (by omega));match j,d with
     |0,_=>exact D.t0
     |1,_=>exact D.t1
     |2,_=>exact D.t2
     |3,_=>exact D.t3
    .refine qB (λj d=>?_) (λj d=>⟨t _ _ _ (by omega),t _ _ _ (by omega)⟩);match j,d with
     |0,_=>exact⟨D.t4,D.z4⟩
     |1,_=>exact⟨D.t5,D.z5⟩
     |2,_=>exact⟨D.t6,D.z6⟩
     |3,_=>exact⟨D.t7,D.z7⟩
    .exact nq (λj d=>by have:j=0:=uj.1 d
                        subst this;exact OO) (λj d=>t _ _ _ (by omega))
    .exact nq (λj d=>by have:j=0:=uj.1 d
                        subst this;exact TA) (λj d=>t _ _ _ (by omega))
    .exact nq (λj d=>by have:j=0:=uj.1 d
                        subst this;exact TB) (λj d=>t _ _ _ (by omega))
   .exact qq.1 r f
  .simp only[dr,ak,bH,or_false,forall_eq_or_imp,forall_eq,false_implies,implies_true,and_true,List.Pairwise.nil];refine⟨⟨p _ _ _ _ _ _ _ _ (by omega),p _ _ _ _ _ _ _ _ (by omega),p _ _ _ _ _ _ _ _ (by omega),p _ _ _ _ _ _ _ _ (by omega),p _ _ _ _ _ _ _ _ (by omega)⟩,⟨?_,x _ _ rfl rfl,x _ _ rfl rfl,x _ _ rfl rfl⟩,⟨p _ _ _ _ _ _ _ _ (by omega),p _ _ _ _ _ _ _ _ (by omega),p _ _ _ _ _ _ _ _ (by omega)⟩,⟨x _ _ rfl rfl,x _ _ rfl rfl⟩,x _ _ rfl rfl⟩;intro _ j O d I e;have e1:0+j.2=4+O.2:=cT Addr.off e;have:j.2<4:=d.2;omega
  .simp only[ak,bH,or_false]at f;rcases f with rfl|rfl|rfl|rfl|rfl|rfl
   .exact ZY L (by simpa using u)
   .exact m _ _ _ _ (by omega) (by omega) L (by simpa using u)
   .exact m _ _ _ _ (by omega) (by omega) L (by simpa using u)
   .exact m _ _ _ _ (by omega) (by omega) L (by simpa using u)
   .exact m _ _ _ _ (by omega) (by omega) L (by simpa using u)
   .exact m _ _ _ _ (by omega) (by omega) L (by simpa using u)
 exact Nj.perm (fA _ (pM {s with en:=J,eb:=l}) C)
def CC(o:Oper)(s d t:Nat):Bool:=o.guard.isNone&&(match o.dst with|some d'=>d'==d|none=>false)&&(match o.op with
 |.makeSlice t' (.tmp a) (.tmp b)=>t'==t&&a==s&&b==s
 |_=>false)
theorem A7{o:Oper}{s d t:Nat}(h:CC o s d t=true):o.guard=none/\o.dst=some d/\o.op=.makeSlice t (.tmp s) (.tmp s):=by
 unfold CC at h;simp only[bZ]at h;obtain⟨⟨i,e⟩,c⟩:=h;refine⟨by simpa using i,?_,?_⟩
 .split at e
  .rename_i n g;rw[g];simp at e;rw[e]
  .cases e
 .split at c
  .rename_i m a b f;simp only[bZ,beq_iff_eq]at c;obtain⟨⟨l,k⟩,j⟩:=c;subst l;subst k;subst j;exact f
  .cases c
theorem Kx(F:aB prog main (DX Ok) Q)(L:HB B Ok){b:aC}(I:b.kind=.normal){c:Nat}{E:Env}{a:Act}{t:eC}(s d:Nat)(v:kI t=true)(k:CC (aQ t) s d 32=true)(J:d<N)(q:look E s=some (i6 n))(o:n<=9)(S:St Ok B N E M c a w)(K:∀p U,Sat Ok U (fR ⟨w.heap.size,0,none⟩ 4 (λ_=>[i6 0,i6 0,i6 0,.slice none 0 0]) n true::M)->aR ((d,.slice (some ⟨w.heap.size,0,none⟩) n n)::E) N p->p.defers=a.defers->U.heap.size=w.heap.size+1->Kp [] w U->Q (G (b.at p (jB t)) y) U):Q (G (b.at a t) y) w:=by
 obtain⟨b,i,r,b,D,l,H⟩:=dH v;obtain⟨E,O,v⟩:=A7 k;have c:a.eval (.tmp s)=i6 n:=by rw[S.env.eval (by simp[kn,q])];simp[ev,q]
 have b:B<=w.heap.size:=by rw[S.sz];exact Aw _ _
 have b:∀d,(execOp a.eval (aQ t)).run prog (w.at d)=.ok (.value (.slice (some ⟨w.heap.size,0,none⟩) n n)) ((w.at d).alloc (.cells (J1 n).toArray 46)):=λd=>by
  unfold execOp;rw[v];simp only[c];have:=Xd n o (w.at d);simp[this];rfl
 have f:∀d,raw prog a (aQ t) (w.at d)=#[]:=λd=>by
  unfold raw execOp;rw[v];simp only[c];have k:=Xd n o (w.at d);have c:=Ul n o (w.at d) #[];simp[k,c]
 rw[D];refine F.op l (by simp[Region.wanted,E]) (by rw[I];decide) (λc d m=>?_);rw[b c,alloc_at'];generalize e:World.alloc w _=h;have c:Kp [] w h:=Kp.alloc e;have b:=gH e rfl;have b:h.heap.size=w.heap.size+1:=by omega
 refine m _ h ⟨?_,?_⟩
 .rw[f,<-e,<-alloc_at'];exact DX.alloc _ _ (by simp)
 .rw[<-H,O];refine K _ h (S.sat.sj c (N:=[_]) (λr g=>?_) (LJ ..) (λr g j u=>?_)) (S.env.put J) (put_defers _ _ _) b c
  .simp only[ak,bH,or_false]at g;subst g;refine rI (λj u i b=>?_) (λa wr a=>L _ _ (by omega));obtain⟨C,A,z,x⟩:=Eb n j u;refine⟨?_,cy e rfl _⟩;match i,b with
   |0,_=>exact aY (i:=j*4+0) e rfl (by simpa using C)
   |1,_=>exact aY (i:=j*4+1) e rfl (by simpa using A)
   |2,_=>exact aY (i:=j*4+2) e rfl (by simpa using z)
   |3,_=>exact aY (i:=j*4+3) e rfl (by simpa using x)
  .simp only[ak,bH,or_false]at g;subst g;show w.heap.size<=(((⟨w.heap.size,0,none⟩:Addr).add (j.1*4)).add j.2).block;rw[add_add];exact az _
def K2(w0:aj)(A:Nat)(cc:aN)(w:aj):Prop:=Old w0 w/\KL [] cc w/\(w.cell? ⟨A,5,none⟩=some (.int .u64 0)/\w.frozen? ⟨A,5,none⟩=false)/\QD A w
theorem FK:∀w d,K2 w0 A cc w->K2 w0 A cc (w.at d):=λ_ _ h=>h
theorem P4(b:A∈l):∀w U es,DX (cP w0.heap.size l []) w U es->K2 w0 A cc w->K2 w0 A cc U:=λw U es D h=>by
 have e:¬cP w0.heap.size l [] ⟨A,5,none⟩ true:=λo=>o.1 ⟨A,b,.inl rfl⟩;obtain⟨d,c⟩:=D.cell _ e (au h.2.2.1.1);exact⟨Za (λa o=>(o.2 rfl).1) _ _ _ D h.1,KA (λp f=>by cases f) _ _ _ D h.2.1,⟨d.trans h.2.2.1.1,c.trans h.2.2.1.2⟩,Kn b D h.2.2.2⟩
theorem NN(a:A∈l)(n:Nat):aB prog true (DX (cP w0.heap.size l [])) (nM prog Post (K2 w0 A cc) (jq l) n):=
 GW (h:=0) FK (Gy (λb z=>z.elim) (λb wr z o=>o.1 z) (P4 a)) DX.idle wu rfl
theorem PF(F:aB prog main (DX Ok) Q)(A:∀(a:Addr)(wr:Bool),B<=a.block->(a.off=5\/a.off=6)\/Ok a wr)(x:Sat Ok w M)(a:B<=w.heap.size)(K:∀k l U,Sat Ok U (bR (w.heap.size+2) [i6 0,.slice none 0 0]::oR (w.heap.size+2) 2 [i6 0] true::oR (w.heap.size+2) 3 [.chan (some k),.chan (some l)] false::M)->cg U k->cg U l->w.heap.size<=k->w.heap.size<=l->k≠l->U.heap.size=w.heap.size+3->Kp [] w U->BV U (w.heap.size+2) k l->Q (G (E.finish (ptr (w.heap.size+2))) y) U):
 Q (G (Frame.enter prog 35 #[] .normal) (E::y)) w:=by
 refine vM w _ F _ _ (λv p a=>?_);obtain⟨k,l,rfl,q,u,H,v,D,v,C,t,s,f⟩:=a;have c:∀(o:Nat)(wr:Bool),o≠5->o≠6->Ok ⟨w.heap.size+2,o,none⟩ wr:=λo wr v a=>by
  rcases A ⟨w.heap.size+2,o,none⟩ wr (by show B<=w.heap.size+2;omega)with (z|z)|z
  .exact absurd z v
  .exact absurd z a
  .exact z
 refine K k l p (x.sj q (N:=[_,_,_]) (λr m=>?_) ?_ (λr m j b=>?_)) t s H D C u q f
 .simp only[ak,bH,or_false]at m;rcases m with rfl|rfl|rfl
  .have:=qB (Ok:=Ok) (w:=p) (b:=w.heap.size+2) (o:=0) (vs:=[i6 0,.slice none 0 0]) (λj b=>?_) (λj b=>?_)
   .refine⟨λj b=>?_,λj b=>?_,λ_ j i b d e=>?_,λg e n z=>(by cases z)⟩
    .have h:=this.val j b;rw[show(oR (w.heap.size+2) 0 [i6 0,.slice none 0 0] true).ad j=⟨w.heap.size+2,j.2,none⟩ by show(⟨_,0+j.2,none⟩:Addr)=_;rw[bK]]at h;exact h
    .have h:=this.ok j b;rw[show(oR (w.heap.size+2) 0 [i6 0,.slice none 0 0] true).ad j=⟨w.heap.size+2,j.2,none⟩ by show(⟨_,0+j.2,none⟩:Addr)=_;rw[bK]]at h;exact h
    .have a:j.2=i.2:=cT Addr.off e;have g:j.1<1:=b.1;have g:i.1<1:=d.1;exact YC (by omega) a
   .match j,b with
    |0,_=>exact⟨f.a0,f.z _⟩
    |1,_=>exact⟨f.a1,f.z _⟩
   .match j,b with
    |0,_=>exact⟨c _ _ (by decide) (by decide),c _ _ (by decide) (by decide)⟩
    |1,_=>exact⟨c _ _ (by decide) (by decide),c _ _ (by decide) (by decide)⟩
  .refine qB (λj b=>?_) (λj b=>?_)
   .match j,b with
    |0,_=>exact⟨f.a2,f.z _⟩
   .match j,b with
    |0,_=>exact⟨c _ _ (by decide) (by decide),c _ _ (by decide) (by decide)⟩
  .refine nq (λj b=>?_) (λj b=>?_)
   .match j,b with
    |0,_=>exact f.a3
    |1,_=>exact f.a4
   .match j,b with
    |0,_=>exact c _ _ (by decide) (by decide)
    |1,_=>exact c _ _ (by decide) (by decide)
 .simp only[dr,ak,bH,or_false,forall_eq_or_imp,forall_eq,false_implies,implies_true,and_true,List.Pairwise.nil];refine⟨⟨λ_ j i b d e=>?_,λ_ j i b d e=>?_⟩,λ_ j i b d e=>?_⟩
  .have a:j.2=2+i.2:=cT Addr.off e;have:j.2<2:=b.2;omega
  .have a:j.2=3+i.2:=cT Addr.off e;have:j.2<2:=b.2;omega
  .have a:2+j.2=3+i.2:=cT Addr.off e;have:j.2<1:=b.2;omega
 .simp only[ak,bH,or_false]at m;rcases m with rfl|rfl|rfl
  .show w.heap.size<=w.heap.size+2;omega
  .show w.heap.size<=w.heap.size+2;omega
  .show w.heap.size<=w.heap.size+2;omega
theorem Pq(F:aB prog true (DX Ok) Q)(g:HB B Ok)(H:wM V)(W:0<V.nl->∃m,sL=some m/\Has M (fR m 6 (λi=>Y3 (V.ly i)) V.nl false))(U:Sat Ok w M)(i:B<=w.heap.size)(x:O3 Ok Q B M 16 #[.slice sL V.nl Z,.slice I V.nc u] (.tuple #[i6 0,i6 0]))(K:∀(v:aC)(k:Act)(f:aj)(i:Nat)(lb:bU)(HD J O bl bo rs:Nat)(X:aW),v.kind=.normal->v.fn=24->k.defers=[]->f.heap.size=i->w.heap.size<=i->Flat X->tV V lb J 0 (X++M)->Has X (tQ (lb V.nl) .nilIface (-1) J)->Has X (oR (lb V.nl) 3 [.slice I V.nc u,.slice (some ⟨HD,0,none⟩) V.nc V.nc] false)->
 St Ok i 53 [(11,ptr bo),(10,ptr bl),(9,ptr J),(4,ptr rs),(1,.slice I V.nc u)] (bR bo [.slice (some ⟨O,0,none⟩) V.nc V.nc]::fR ⟨O,0,none⟩ 4 (λ_=>[i6 0,i6 0,i6 0,.slice none 0 0]) V.nc true::bR bl [Yw V lb 0]::fR ⟨HD,0,none⟩ 1 (λ_=>[i6 0]) V.nc true::bR J [.slice none 0 0]::bR rs [.slice none 0 0,.slice none 0 0]::(gT V lb 0++(X++M))) 0 k f->
 Q (G (v.at k (pc prog 24 47 [false] [])) (E::y)) f):
 Q (G (Frame.enter prog 24 #[.slice sL V.nl Z,.slice I V.nc u] .normal) (E::y)) w:=by
 have N:=H.nc;have G:=H.nl;refine cJ func24 U 53 λv i e i b A i B w=>aq F g b i B 11 [] [] [] [(17,.slice I V.nc u),(16,.slice sL V.nl Z),(4,ptr e),(0,.slice sL V.nl Z),(1,.slice I V.nc u)] (λM=>bR (e) [.slice none 0 0,.slice none 0 0]::(M)) 1 11 1 [] λi i w i B B B=>bu F b i w 18 16 #[.slice sL V.nl Z,.slice I V.nc u] λi i=>x _ _ _ _ (λr p=>p.cons) w.sat (by omega) λw x w=>i _ _ _ x λi d x i w=>aq F g b i x 21 [] [1] [] [(27,.slice I V.nc u),(26,.slice sL V.nl Z),(9,ptr d),(4,ptr e),(1,.slice I V.nc u)] (λM=>bR (d) [.slice none 0 0]::(M)) 1 33 2 [] λi i w i x x x=>bu F b i w 28 34 #[.slice sL V.nl Z,.slice I V.nc u,ptr d] λi i=>HV F g G H.kd (λz=>by obtain⟨m,B,x⟩:=W z;exact⟨m,B,x.cons.cons⟩) w.sat (by omega) N λlb HD X m q Y D C w m=>i _ _ _ w λi l L t i=>?_;obtain⟨S,j⟩:=vP V lb 0;rw[j]at L;generalize T:X++(gT V lb 0++(fR ⟨HD,0,none⟩ 1 (λ_=>[i6 0]) V.nc true::bR d [.slice none 0 0]::bR e [.slice none 0 0,.slice none 0 0]::M))=i at L;refine aq F g b t L 7 [0,0,0,1] [] [] [(30,i6 V.nc),(10,ptr l),(9,ptr d),(4,ptr e),(1,.slice I V.nc u)] (λM=>bR (l) [.iface S (ptr (lb 0))]::(M)) 1 41 2 [] λi R t i m m m=>Kx F (λa wr z=>g a wr (by omega)) b 30 31 (by kernel_rfl) (by kernel_rfl) (by decide) rfl N t λt o a m c w w=>?_;rw[show jB (pc prog 24 41 (Bo 2) [])=pc prog 24 42 [false] [] by kernel_rfl];have S6:St Ok o.heap.size 53 _ _ 0 t o:=⟨m,a,rfl⟩;have a:t.defers=[]:=c.trans i;clear c;have c:=a;generalize hB6:o.heap.size=n at*;generalize hO:R.heap.size=O at*;refine aq F g b c S6 5 [0,0,0,1] [] [] [(11,ptr n),(10,ptr l),(9,ptr d),(4,ptr e),(1,.slice I V.nc u)] (λM=>bR (n) [.slice (some ⟨O,0,none⟩) V.nc V.nc]::(M)) 1 47 2 [] λk f P s a a a=>?_;subst T;have a:Sat Ok f (bR n [.slice (some ⟨O,0,none⟩) V.nc V.nc]::fR ⟨O,0,none⟩ 4 (λ_=>[i6 0,i6 0,i6 0,.slice none 0 0]) V.nc true::bR l [Yw V lb 0]::fR ⟨HD,0,none⟩ 1 (λ_=>[i6 0]) V.nc true::bR d [.slice none 0 0]::bR e [.slice none 0 0,.slice none 0 0]::(gT V lb 0++(X++M))):=by
  rw[j];refine P.sat.perm (List.Perm.cons _ (List.Perm.cons _ (List.Perm.cons _ ?_)));have h:=fA (X++gT V lb 0) [fR ⟨HD,0,none⟩ 1 (λ_=>[i6 0]) V.nc true,bR d [.slice none 0 0],bR e [.slice none 0 0,.slice none 0 0]] M;rw[dU,dU]at h;exact h.trans (eN _ (fA ..))
 exact K v k f _ lb HD d O l n e X b A s rfl (by omega) q (Y.up λr p=>p.pre _) D C ⟨P.env,a,rfl⟩
structure Bg where
 T:Nat->Nat
 aS:Nat->Nat
 ba:Nat->Nat
 bt:Nat->Nat
 bw:Nat->Nat
 bi:Nat->Nat
def Bg.put(f:Bg)(k T aS ba bt bw bi:Nat):Bg:=⟨upd f.T k T,upd f.aS k aS,upd f.ba k ba,upd f.bt k bt,upd f.bw k bw,upd f.bi k bi⟩
def Ah(A bl bo:Nat)(f:Bg)(j:Nat):List aH:=[oR (f.T j) 0 [ptr A,i6 j,i6 j,.chan (some (f.aS j))] false,oR (f.ba j) 0 [ptr A] false,oR (f.bw j) 0 [.func (.func 37) #[] #[ptr bl,ptr bo,ptr (f.bi j)]] false,oR (f.bt j) 0 [ptr (f.T j)] false,oR (f.bi j) 0 [i6 j] false]
def sM(A bl bo:Nat)(f:Bg)(k:Nat):List aH:=(List.range k).flatMap (Ah A bl bo f)
def qb(f:Bg)(k:Nat):List aH:=(List.range k).flatMap λj=>[dO (f.T j) (.pointer none) false]
def Mg(f:Bg)(j:Nat):Value:=.func (.func 50) #[] #[ptr (f.ba j),ptr (f.bt j),ptr (f.bw j)]
theorem kD(f:Bg)(h:j<k)(T a d c b bi:Nat):(f.put k T a d c b bi).T j=f.T j/\(f.put k T a d c b bi).aS j=f.aS j/\(f.put k T a d c b bi).ba j=f.ba j/\(f.put k T a d c b bi).bt j=f.bt j/\(f.put k T a d c b bi).bw j=f.bw j/\(f.put k T a d c b bi).bi j=f.bi j:=by
 simp[Bg.put,upd,iS h]
theorem rO(f:Bg)(k T a d c b bi:Nat):(f.put k T a d c b bi).T k=T/\(f.put k T a d c b bi).aS k=a/\(f.put k T a d c b bi).ba k=d/\(f.put k T a d c b bi).bt k=c/\(f.put k T a d c b bi).bw k=b/\(f.put k T a d c b bi).bi k=bi:=by
 simp[Bg.put,upd]
theorem so(f g:Nat->List aH):∀k,(∀j,j<k->f j=g j)->(List.range k).flatMap f=(List.range k).flatMap g
 |0,_=>rfl
 |k+1,h=>by
  rw[rj,yZ,yZ,so f g k λj a=>h j (by omega)];simp[h k (by omega)]
theorem JH(A bl bo:Nat)(f:Bg)(k T a d c b bi:Nat):sM A bl bo (f.put k T a d c b bi) (k+1)=sM A bl bo f k++[oR T 0 [ptr A,i6 k,i6 k,.chan (some a)] false,oR d 0 [ptr A] false,oR b 0 [.func (.func 37) #[] #[ptr bl,ptr bo,ptr bi]] false,oR c 0 [ptr T] false,oR bi 0 [i6 k] false]:=by
 unfold sM;rw[rj,yZ,so (Ah A bl bo (f.put k T a d c b bi)) (Ah A bl bo f) k λj m=>?_]
 .obtain⟨l,j,i,h,g,e⟩:=rO f k T a d c b bi;simp[Ah,l,j,i,h,g,e]
 .obtain⟨l,j,i,h,g,e⟩:=kD f m T a d c b bi;simp only[Ah,l,j,i,h,g,e]
theorem HN(f:Bg)(k T a d c b bi:Nat):qb (f.put k T a d c b bi) (k+1)=qb f k++[dO T (.pointer none) false]:=by
 unfold qb;rw[rj,yZ,so (λj=>[dO ((f.put k T a d c b bi).T j) (.pointer none) false]) (λj=>[dO (f.T j) (.pointer none) false]) k λj g=>?_]
 .obtain⟨e,_⟩:=rO f k T a d c b bi;simp[e]
 .obtain⟨e,_⟩:=kD f g T a d c b bi;simp only[e]
structure yI(V:Ev0)(L:LS):Prop where
 now:L.now=0
 al:L.al=V.nc
 ag:∀i,i<V.nc->(L.ag i).a=V.st i/\(L.ag i).t=(i:Int)/\(L.ag i).c=0/\(L.ag i).o=false
 us:∀i,L.us i=0
 ou:∀i,L.ou i=⟨0,⟨0,0,[]⟩⟩
 el:L.el=0
 gt:∀k,L.gt k=gz
 wl:L.wl=0
abbrev gC(kk:PK)(L:LS)(f:Bg)(k:Nat)(q:aN)(en:ay)(eb:mW):PS:=
 {k:={kk with T:=f.T,aS:=f.aS,sc:=Mg f},en:=en,eb:=eb,ea:=none,ec:=0,vv:=λ_=>[],oh:=λ_=>.slice none 0 0,q:=q,wb:=λ_=>0,f:=λ_=>jC,lq:=λ_=>[],cv:=λ_=>.slice none 0 0,cx:=[],l:={L with al:=k}}
structure Ss(V:Ev0)(bM bJ:Nat)(f:Bg)(k:Nat)(w:aj):Prop where
 lt:∀j,j<k->f.aS j<w.heap.size/\bM<f.aS j/\bJ<f.aS j
 inj:∀i,i<k->∀j,j<k->f.aS i=f.aS j->i=j
 wl:bM<w.heap.size/\bJ<w.heap.size
theorem Mr{l:PK}(x:yI V L){f:Bg}{tP:ay}{s sB:mW}(Q:QI (gC l L f k q en s))(I:k<V.nc){i:Nat}(E:i<=q.length){T aS ba bt bw:Nat}(H:iM (bA (gC l L f k q en s)) (V.st k) i):
 QI (gC l L (f.put k T aS ba bt bw bi) (k+1) (q.take i++k::q.drop i) tP sB)/\bA (gC l L (f.put k T aS ba bt bw bi) (k+1) (q.take i++k::q.drop i) tP sB)=(bA (gC l L f k q en s)).take i++(V.st k,.func (.func 50) #[] #[ptr ba,ptr bt,ptr bw])::(bA (gC l L f k q en s)).drop i:=by
 have t:∀j∈q,j<k:=λj a=>(Q.lt j a).1;have d:∀j,j∈q.take i++k::q.drop i↔j=k\/j∈q:=λj=>by
  conv=>rhs;rhs;rw[<-va i q]
  simp only[dJ,ak];constructor
  .rintro (h|h|h)
   .exact .inr (.inl h)
   .exact .inl h
   .exact .inr (.inr h)
  .rintro (h|h|h)
   .exact .inr (.inl h)
   .exact .inl h
   .exact .inr (.inr h)
 have J:∀j∈q,fF (gC l L (f.put k T aS ba bt bw bi) (k+1) (q.take i++k::q.drop i) tP sB) j=fF (gC l L f k q en s) j:=λj a=>by
  have h:=t j a;obtain⟨E,F,E,P⟩:=x.ag j (by omega);unfold fF;show((L.ag j).a,if(L.ag j).c=0 then Mg (f.put k T aS ba bt bw bi) (L.ag j).t.toNat else _)=((L.ag j).a,if(L.ag j).c=0 then Mg f (L.ag j).t.toNat else _)
  rw[ah E,ah E,F,mY];obtain⟨g,r,m,F,E,P⟩:=kD f h T aS ba bt bw bi;simp only[Mg,m,F,E]
 have c:=x.ag k I;have C:fF (gC l L (f.put k T aS ba bt bw bi) (k+1) (q.take i++k::q.drop i) tP sB) k=(V.st k,.func (.func 50) #[] #[ptr ba,ptr bt,ptr bw]):=by
  unfold fF;show((L.ag k).a,if(L.ag k).c=0 then Mg (f.put k T aS ba bt bw bi) (L.ag k).t.toNat else _)=_;rw[ah c.2.2.1,c.2.1,mY,c.1];obtain⟨g,r,m,F,E,P⟩:=rO f k T aS ba bt bw bi;simp only[Mg,m,F,E]
 refine⟨⟨λj a=>?_,λj g r=>?_,?_,λj a=>?_,λj a r=>?_,λw O=>?_⟩,?_⟩
 .rcases(d j).1 a with rfl|a
  .exact⟨gr _,c.2.2.2⟩
  .exact⟨BX (t j a),(Q.lt j a).2⟩
 .refine(d j).2 ?_;have o:j<k+1:=g;by_cases e:j=k
  .exact .inl e
  .exact .inr (Q.all j (by show j<k;omega) r)
 .show(q.take i++k::q.drop i).Pairwise (fQ L.ag);have u:q.Pairwise (fQ L.ag):=Q.pN;rw[<-va i q,YS]at u;obtain⟨N,M,K⟩:=u;have G:∀j∈q.drop i,V.st k<(L.ag j).a:=λj a=>by
   obtain⟨n,y⟩:=u9 a;rw[DT]at y;have:=H.gt (i+n) (fF (gC l L f k q en s) j) (by omega) (by simp[bA,y]);exact this
  have A:∀j∈q.take i,(L.ag j).a<=V.st k:=λj a=>by
   have B:0<i:=by
    cases i with
    |zero=>simp at a
    |succ i=>omega
   have v:i-1<q.length:=by omega
   have h:q[i-1]? =some q[i-1]:=mZ v;have g:=H.le (fF (gC l L f k q en s) q[i-1]) B (by simp[bA,h]);have o:(L.ag q[i-1]).a<=V.st k:=g;obtain⟨n,y,p⟩:=List.getElem_of_mem a;rw[uq]at y;rw[List.getElem_take]at p;by_cases e:n=i-1
   .subst e;rw[<-p];exact o
   .have e:q.Pairwise (fQ L.ag):=Q.pN;have m:=xL e (i:=n) (j:=i-1) (by omega) v;rw[p]at m;rcases m with z|z
    .exact Int.le_of_lt (Int.lt_of_lt_of_le z o)
    .rw[z.1];exact o
  rw[YS,dr];refine⟨N,⟨λj a=>?_,M⟩,λj a b D=>?_⟩
  .left;rw[c.1];exact G j a
  .rcases ak.1 D with rfl|D
   .have g:=A j a;have r:=t j (DW a);unfold fQ;rw[c.1];rcases Int.lt_or_eq_of_le g with z|z
    .exact .inl z
    .exact .inr ⟨z,r⟩
   .exact K j a b D
 .rcases(d j).1 a with rfl|a
  .exact .inl c.2.2.1
  .exact .inl (x.ag j (by have:=t j a;omega)).2.2.1
 .have g:j<V.nc:=by
   rcases(d j).1 a with rfl|a
   .exact I
   .have:=t j a;omega
  have m:(L.ag j).c=2:=r;rw[(x.ag j g).2.2.1]at m;cases m
 .have g:w<L.wl:=O;rw[x.wl]at g;cases g
 .unfold bA;show(q.take i++k::q.drop i).map _=_;rw[List.map_append,nP,C,<-List.map_take,<-List.map_drop];congr 1
  .exact u7 λj a=>J j (DW a)
  .congr 1;exact u7 λj a=>J j (DV a)
abbrev BM(bM bJ:Nat)(f:Bg)(k:Nat):List Nat:=bM::bJ::(List.range k).map f.aS
theorem Bn(A bl bo:Nat)(f:Bg)(k:Nat):Flat (sM A bl bo f k):=by
 rw[bO];intro r a;obtain⟨j,_,a⟩:=mL.1 a;simp only[Ah,ak,bH,or_false]at a;grind
theorem Bm(f:Bg)(k:Nat):Flat (qb f k):=by
 rw[bO];intro r a;obtain⟨j,_,a⟩:=mL.1 a;simp_all
theorem FC{kk:PK}{L:LS}(hV:wM kk.V)(hL:yI kk.V L)(hA:kk.A∈l){B:Nat}(X:∀(a:Addr)(wr:Bool),B<=a.block->cP w0.heap.size l [] a wr){v:aC}(s:v.kind=.normal)(qh:v.fn=24){E:aC}{y:cO}{u rs bl bo bM bJ:Nat}{I:eP}{M:aW}(hM:Flat M){dL:p9}{eu:bU}(hC:0<kk.V.nc->∃Y,I=some Y/\Has M (fR Y 2 (λj=>[i6 (kk.V.st j),.slice (dL j) (kk.V.nt j) (eu j)]) kk.V.nc false))(K:∀(f:Bg)(q:aN)(en:ay)(p:mW)(S:Act)(C:aj)(h:Nat),S.defers=[]->B<=h->C.heap.size=h->Ss kk.V bM bJ f kk.V.nc C->K2 w0 kk.A (BM bM bJ f kk.V.nc) C->PV (cP w0.heap.size l []) (gC kk L f kk.V.nc q en p) (bA (gC kk L f kk.V.nc q en p))->QI (gC kk L f kk.V.nc q en p)->q.length=kk.V.nc->
 St (cP w0.heap.size l []) h 53 [(47,ptr kk.A),(11,ptr bo),(9,ptr kk.J),(4,ptr rs)] (pM (gC kk L f kk.V.nc q en p)++(oR kk.A 2 [i6 kk.V.nc] true::(qb f kk.V.nc++(sM kk.A bl bo f kk.V.nc++M)))) 0 S C->
 nM prog Post (K2 w0 kk.A (BM bM bJ f kk.V.nc)) (jq l) ng (G (v.at S (pc prog 24 69 [false,false] [])) (E::y)) C):
 ∀(left k:Nat)(f:Bg)(q:aN)(en:ay)(p:mW)(Z:Act)(w:aj)(h:Nat),left+k=kk.V.nc->Z.defers=[]->B<=h->w.heap.size=h->Ss kk.V bM bJ f k w->PV (cP w0.heap.size l []) (gC kk L f k q en p) (bA (gC kk L f k q en p))->QI (gC kk L f k q en p)->q.length=k->
   St (cP w0.heap.size l []) h 53 [(35,i6 k),(34,i6 kk.V.nc),(33,.slice I kk.V.nc u),(12,ptr kk.A),(11,ptr bo),(10,ptr bl),(9,ptr kk.J),(4,ptr rs)] (pM (gC kk L f k q en p)++(oR kk.A 2 [i6 k] true::(qb f k++(sM kk.A bl bo f k++M)))) 0 Z w->
   nM prog Post (K2 w0 kk.A (BM bM bJ f k)) (jq l) ng (G (v.at Z (pc prog 24 59 [false] [])) (E::y)) w
 |0,k,f,q,en,p,Z,w,h,hk,O,hle,P9,J,hP,hQ,hq,Q=>by
  have:k=kk.V.nc:=by omega
  subst this;have F:=NN (Post:=Post) (w0:=w0) (A:=kk.A) (cc:=BM bM bJ f kk.V.nc) hA ng;generalize t:pM (gC kk L f kk.V.nc q en p)++(oR kk.A 2 [i6 kk.V.nc] true::(qb f kk.V.nc++(sM kk.A bl bo f kk.V.nc++M)))=MM at Q;refine aX F X s O Q 10 [] [0] [] [(47,ptr kk.A),(11,ptr bo),(9,ptr kk.J),(4,ptr rs)] (λM=>M) 0 69 4 [] [(decide ((↑kk.V.nc:Int)<(↑kk.V.nc:Int)),false)] [] [] λS C S1 N zS Dx o9=>?_;subst t;exact At.assume FK λH=>K f q en p S C _ N (by omega) rfl ⟨λj R=>by have:=J.lt j R;exact⟨by omega,this.2⟩,J.inj,by have:=J.wl;exact⟨by omega,by omega⟩⟩ H hP hQ hq ⟨S1.env,S1.sat,rfl⟩
 |left+1,k,f,q,en,p,Z,w,h,hk,O,hle,P9,J,hP,hQ,hq,Q=>by
  have F:=NN (Post:=Post) (w0:=w0) (A:=kk.A) (cc:=BM bM bJ f k) hA ng;have w:=hV.nc;have hkn:k<kk.V.nc:=by omega
  obtain⟨Y,ZS,w⟩:=hC (by omega);have P:=Q.get (((w.app (sM kk.A bl bo f k)).app (qb f k)).cons.app (pM (gC kk L f k q en p)));subst ZS;generalize t:pM (gC kk L f k q en p)++(oR kk.A 2 [i6 k] true::(qb f k++(sM kk.A bl bo f k++M)))=MM at P;clear Q;have Q:=P;clear P;have Vn:IntKind.wrap .i64 ((k:Int)+1)=(k:Int)+1:=aA (by omega) (by omega);refine aX F X s O Q 25 [0,k,0,102,1,0,0,1,0,0,0,2,1,0,0,1,0,0,0,1] [2,2] [] [(44,.func (Fn.func 37) #[] #[ptr bl,ptr bo,ptr h]),(43,i6 (kk.V.st k)),(41,i6 k),(40,ptr kk.A),(35,i6 k),(34,i6 kk.V.nc),(33,.slice (some Y) kk.V.nc u),(12,ptr kk.A),(11,ptr bo),(10,ptr bl),(9,ptr kk.J),(4,ptr rs)] (λM=>bR (h+1) [i6 (kk.V.st k),.slice (dL k) (kk.V.nt k) (eu k)]::(bR (h) [i6 k]::(M))) 2 84 6 [] [(decide ((↑k:Int)<(↑kk.V.nc:Int)),true)] [((↑k:Int),kk.V.nc)] [(2,(k,kk.V.nc))] λS C S1 N zS Dx o9=>bu F s N S1 45 36 #[ptr kk.A,i6 k,i6 (kk.V.st k),.func (Fn.func 37) #[] #[ptr bl,ptr bo,ptr h]] λw V=>?_;subst t;have w:Sat (cP w0.heap.size l []) C (pM (gC kk L f k q en p)++(oR kk.A 2 [i6 k] true::(oR h 0 [i6 k] false::(qb f k++(sM kk.A bl bo f k++M))))):=by
   have C:=(S1.sat.tail).fix;have B:=Sat.BC (A:=[oR h 0 [i6 k] false]) C;refine B.perm ?_;have:=fA [oR h 0 [i6 (k:Int)] false] (pM (gC kk L f k q en p)++[oR kk.A 2 [i6 k] true]) (qb f k++(sM kk.A bl bo f k++M));simpa using this
  refine JI (s:=gC kk L f k q en p) (k:=k) (cl:=k) (bl:=bl) (bo:=bo) (bi:=h) (at':=kk.V.st k) F X w hP (((Bm f k).app ((Bn _ _ _ f k).app hM)).cons rfl) (by omega) (by rw[jT];show q.length<1000000;omega) (by omega) λo m g T n x A i C hi w B r mQ p p p=>?_;rw[jT]at hi;obtain⟨XP,p⟩:=Mr (tP:=x) (sB:=A) (T:=T) (aS:=g) (ba:=o) (bt:=n) (bw:=m) (bi:=h) hL hQ hkn hi w;rw[<-p]at r;have p:Sat (cP w0.heap.size l []) C (pM (gC kk L (f.put k T g o n m h) (k+1) (q.take i++k::q.drop i) x A)++(oR kk.A 2 [i6 ((k+1:Nat):Int)] true::(qb (f.put k T g o n m h) (k+1)++(sM kk.A bl bo (f.put k T g o n m h) (k+1)++M)))):=by
   rw[HN,JH];refine B.perm (eN (pM (gC kk L f k q x A)) (List.Perm.cons _ ?_));simp only[dU,um,List.nil_append];refine List.Perm.trans ?_ (eY (a:=dO T (.pointer none) false) (l₁:=qb f k)).symm;refine List.Perm.trans (List.Perm.swap _ _ _) (List.Perm.cons _ ?_);have:=fA [oR T 0 [ptr kk.A,i6 (k:Int),i6 (k:Int),.chan (some g)] false,oR o 0 [ptr kk.A] false,oR m 0 [.func (.func 37) #[] #[ptr bl,ptr bo,ptr h]] false,oR n 0 [ptr T] false,oR h 0 [i6 (k:Int)] false] (qb f k++sM kk.A bl bo f k) M;simpa using this
  refine V _ _ _ p λl l S2 DF l=>?_;generalize t:pM (gC kk L (f.put k T g o n m h) (k+1) (q.take i++k::q.drop i) x A)++(oR kk.A 2 [i6 ((k+1:Nat):Int)] true::(qb (f.put k T g o n m h) (k+1)++(sM kk.A bl bo (f.put k T g o n m h) (k+1)++M)))=MM at S2;refine aq F X s DF S2 7 [] [] [] [(35,i6 (IntKind.wrap .i64 ((↑k:Int)+1))),(34,i6 kk.V.nc),(33,.slice (some Y) kk.V.nc u),(12,ptr kk.A),(11,ptr bo),(10,ptr bl),(9,ptr kk.J),(4,ptr rs)] (λM=>M) 0 92 6 [] λa3 w3 S3 CJ l l mH=>?_;rw[show pc prog 24 92 (Bo 6) []=pc prog 24 59 [false] [] by kernel_rfl];rw[Vn]at S3;have l:(k:Int)+1=((k+1:Nat):Int):=by simp
  rw[l]at S3;subst t;have D:cg w3 g:=mH.obj _ _ mQ (λ_ _ _ z=>by cases z);have Yb:g<w3.heap.size:=(cU.1 D).1;have U:∀j,j<k->f.aS j<g:=λj R=>by have:=(J.lt j R).1;omega
  have l:=J.wl;refine At.assume FK λH=>At.keep (K':=K2 w0 kk.A (BM bM bJ (f.put k T g o n m h) (k+1))) (λd=>⟨H.1,⟨H.2.1.1,λc W=>?_⟩,H.2.2⟩) (FC hV hL hA X s qh hM hC K left (k+1) (f.put k T g o n m h) (q.take i++k::q.drop i) x A a3 w3 _ (by omega) CJ (by omega) rfl ⟨λj R=>?_,λa d b d e=>?_,⟨by omega,by omega⟩⟩ ⟨r.jr,r.en,r.eo,r.fb,r.rm,r.cx⟩ XP ?_ ⟨S3.env,S3.sat,rfl⟩)
  .show∃d,w3.heap[c]? =_;rcases ak.1 W with rfl|W
   .exact H.2.1.2 _ (bI ..)
   .rcases ak.1 W with rfl|W
    .exact H.2.1.2 _ (aP _ (bI ..))
    .obtain⟨j,R,rfl⟩:=gV.1 W;have c:=aZ.1 R;by_cases e:j=k
     .rw[e,(rO f k T g o n m h).2.1];exact⟨0,D⟩
     .rw[(kD f (by omega:j<k) T g o n m h).2.1];exact H.2.1.2 _ (aP _ (aP _ (gV.2 ⟨j,aZ.2 (by omega),rfl⟩)))
  .by_cases e:j=k
   .rw[e,(rO f k T g o n m h).2.1];exact⟨Yb,by omega,by omega⟩
   .rw[(kD f (by omega:j<k) T g o n m h).2.1];have:=J.lt j (by omega);exact⟨by omega,this.2⟩
  .by_cases d:a=k
   .by_cases c:b=k
    .rw[d,c]
    .rw[d,(rO f k T g o n m h).2.1,(kD f (by omega:b<k) T g o n m h).2.1]at e;have:=U b (by omega);omega
   .by_cases c:b=k
    .rw[c,(rO f k T g o n m h).2.1,(kD f (by omega:a<k) T g o n m h).2.1]at e;have:=U a (by omega);omega
    .rw[(kD f (by omega:a<k) T g o n m h).2.1,(kD f (by omega:b<k) T g o n m h).2.1]at e;exact J.inj a (by omega) b (by omega) e
  .simp only[YA,gB,uq,Ea];omega
theorem At.Uc{K:cK}{a pZ Still:dm}{Mem:p8}{b:Nat->Option Seat}{h:Nat}{g:aV}(f:∀x,a x->pZ x)(e:∀x,pZ x->a x\/Sf w.heap.size x)(H:At P Post K pZ Still Mem b h n g w):At P Post K a Still Mem b h n g w:=
 λd g T q a b c C=>H d g T q a b c (R2.grow C (λ_ x=>x) (λ_ x=>.inl x) f e)
theorem My{α:Type}(sR vR eR A c b bo d bl a J rs:α)(T:List α):(sR::vR::eR::A::c::b::bo::d::bl::a::J::rs::T).Perm (A::eR::J::vR::sR::a::d::c::b::bo::bl::rs::T):=
 (eY (l₁:=[sR,vR,eR])).trans (.cons _ ((eY (l₁:=[sR,vR])).trans (.cons _ ((eY (l₁:=[sR,vR,c,b,bo,d,bl,a])).trans (.cons _ ((eY (l₁:=[sR])).trans (.cons _ (.cons _ ((eY (l₁:=[c,b,bo,d,bl])).trans (.cons _ ((eY (l₁:=[c,b,bo])).trans (.cons _ (.refl _)))))))))))))
abbrev Ys(A J HD O:Nat)(V:Ev0)(lb:bU)(I:eP)(u:Nat)(dL:p9)(eu:bU)(bM bJ:Nat):PK:={A:=A,J:=J,HD:=HD,O:=O,sc:=λ_=>.nilIface,V:=V,lb:=lb,T:=λ_=>0,aS:=λ_=>0,ca:=I.getD ⟨0,0,none⟩,cc:=u,dL:=dL,eu:=eu,bM:=bM,bJ:=bJ}
def OU:Bg:=⟨λ_=>0,λ_=>0,λ_=>0,λ_=>0,λ_=>0,λ_=>0⟩
def Ry:mW:=⟨0,0,0,λ_=>undef⟩
theorem Pp(hV:wM V)(A:yI V L)(hl:∀x∈l,x<w0.heap.size){a7:Act}{w7:aj}{b:Nat}(R:v.kind=.normal)(qh:v.fn=24)(CI:a7.defers=[])(s:w7.heap.size=b)(YQ:w0.heap.size<=b)(hX:Flat (X++M))(hC:0<V.nc->∃ca,I=some ca/\Has M (fR ca 2 (λj=>[i6 (V.st j),.slice (dL j) (V.nt j) (eu j)]) V.nc false))(t:St (cP w0.heap.size l []) b 53 [(11,ptr bo),(10,ptr bl),(9,ptr J),(4,ptr rs),(1,.slice I V.nc u)] (bR bo [.slice (some ⟨O,0,none⟩) V.nc V.nc]::fR ⟨O,0,none⟩ 4 (λ_=>[i6 0,i6 0,i6 0,.slice none 0 0]) V.nc true::bR bl [Yw V lb 0]::fR ⟨HD,0,none⟩ 1 (λ_=>[i6 0]) V.nc true::bR J [.slice none 0 0]::bR rs [.slice none 0 0,.slice none 0 0]::(X++M)) 0 a7 w7)(K:∀(bM bJ:Nat)(f:Bg)(q:aN)(en:ay)(W:mW)(a1:Act)(Q:aj)(B1:Nat),w0.heap.size<=bM->w0.heap.size<=bJ->bM≠bJ->a1.defers=[]->b+3<=B1->Q.heap.size=B1->Ss V bM bJ f V.nc Q->K2 w0 (b+2) (BM bM bJ f V.nc) Q->PV (cP w0.heap.size ((b+2)::l) []) (gC (Ys (b+2) J HD O V lb I u dL eu bM bJ) L f V.nc q en W) (bA (gC (Ys (b+2) J HD O V lb I u dL eu bM bJ) L f V.nc q en W))->QI (gC (Ys (b+2) J HD O V lb I u dL eu bM bJ) L f V.nc q en W)->q.length=V.nc->
 St (cP w0.heap.size ((b+2)::l) []) B1 53 [(47,ptr (b+2)),(11,ptr bo),(9,ptr J),(4,ptr rs)] (pM (gC (Ys (b+2) J HD O V lb I u dL eu bM bJ) L f V.nc q en W)++(oR (b+2) 2 [i6 V.nc] true::(qb f V.nc++(sM (b+2) bl bo f V.nc++(oR (b+2) 3 [.chan (some bM),.chan (some bJ)] false::oR bo 0 [.slice (some ⟨O,0,none⟩) V.nc V.nc] false::oR bl 0 [Yw V lb 0] false::bR rs [.slice none 0 0,.slice none 0 0]::(X++M)))))) 0 a1 Q->
 nM prog Post (K2 w0 (b+2) (BM bM bJ f V.nc)) (jq ((b+2)::l)) ng (G (v.at a1 (pc prog 24 69 [false,false] [])) (E::y)) Q):
 nM prog Post (Old w0) (jq l) ng (G (v.at a7 (pc prog 24 47 [false] [])) (E::y)) w7:=by
 refine At.Uc (pZ:=jq ((b+2)::l)) (λx h=>Ey h) (λx h=>(H6 h).imp id fun⟨a,e1,e2⟩=>⟨a,e1,by omega⟩) ?_;have F:=nA (P:=prog) (Post:=Post) (wI:=w0) (l:=(b+2)::l) ng;have D:∀(a:Addr)(wr:Bool),a.block<b->cP w0.heap.size l [] a wr->cP w0.heap.size ((b+2)::l) [] a wr:=λa wr hb o=>⟨fun⟨A',n,g⟩=>by
  rcases ak.1 n with rfl|n
  .rcases g with g|g<;>(cases g;simp only at hb;omega)
  .exact o.1 ⟨A',n,g⟩,o.2⟩
 have x:St (cP w0.heap.size ((b+2)::l) []) b 53 _ _ 0 a7 w7:=⟨t.env,t.sat.OB (λr hr j U o=>D _ _ (by have:=t.sat.blk hr U;rw[s]at this;exact this) o) (λr hr _ j U o=>D _ _ (by have:=t.sat.blk hr U;rw[s]at this;exact this) o),t.sz⟩;clear t;have t:=x;clear x;have hBn:∀(a:Addr)(wr:Bool),w0.heap.size<=a.block->(a.off=5\/a.off=6)\/cP w0.heap.size ((b+2)::l) [] a wr:=λa wr hb=>by
  by_cases h5:a.off=5\/a.off=6
  .exact .inl h5
  .refine .inr ⟨fun⟨A',n,g⟩=>?_,λ_=>⟨hb,fun⟨p,hp,_⟩=>by cases hp⟩⟩;rcases g with g|g
   .cases g;exact h5 (.inl rfl)
   .cases g;exact h5 (.inr rfl)
 obtain⟨x,Z⟩:=vP V lb 0;rw[Z]at t;refine bu F R CI t 32 35 #[] λx x=>PF F hBn t.sat (by omega) λC N Y h8 o1 o2 D D qM D D ag=>x _ _ _ (by rw[s]at h8;exact h8) λx x S8 Nn x=>?_;have hB:∀(a:Addr)(wr:Bool),b+3<=a.block->cP w0.heap.size ((b+2)::l) [] a wr:=λa wr hb=>⟨fun⟨A',n,g⟩=>by
  have x:A'<b+3:=by
   rcases ak.1 n with rfl|n
   .omega
   .have:=hl A' n;omega
  rcases g with g|g<;>(cases g;simp only at hb;omega),λ_=>⟨by omega,fun⟨p,hp,_⟩=>by cases hp⟩⟩
 rw[s]at S8;refine aq F hB R Nn S8 11 [] [] [] [(35,i6 0),(34,i6 V.nc),(33,.slice I V.nc u),(12,ptr (b+2)),(11,ptr bo),(10,ptr bl),(9,ptr J),(4,ptr rs)] (λM=>M) 0 59 2 [] λa9 P S9 hd9 x x T=>?_;have x:pM (gC (Ys (b+2) J HD O V lb I u dL eu C N) L OU 0 [] (.slice none 0 0) Ry)=[bR (b+2) [i6 0,.slice none 0 0],eR Ry,bR J [.slice none 0 0],vR none 5 (λj=>yt (L.ev j)) 0 0 55,sR none 5 (λ_=>[]) 0 0,fR ⟨HD,0,none⟩ 1 (λ_=>[i6 0]) V.nc true,fR ⟨O,0,none⟩ 4 (λ_=>[i6 0,i6 0,i6 0,.slice none 0 0]) V.nc true]:=by
  simp only[pM,A.now,A.el,A.us,A.ou];rfl
 have hs9:Sat (cP w0.heap.size ((b+2)::l) []) P (pM (gC (Ys (b+2) J HD O V lb I u dL eu C N) L OU 0 [] (.slice none 0 0) Ry)++(oR (b+2) 2 [i6 ((0:Nat):Int)] true::(qb OU 0++(sM (b+2) bl bo OU 0++(oR (b+2) 3 [.chan (some C),.chan (some N)] false::oR bo 0 [.slice (some ⟨O,0,none⟩) V.nc V.nc] false::oR bl 0 [Yw V lb 0] false::bR rs [.slice none 0 0,.slice none 0 0]::(X++M)))))):=by
  rw[x,Z];have l:=Sat.yg (A:=[_,_,_]) S9.sat;have x:=Sat.yg (A:=[_,_,_,_,_]) l;have l:=Sat.ff (Sat.ff (Sat.ff x (r:=eR Ry) rfl rfl) (r:=vR none 5 (λj=>yt (L.ev j)) 0 0 55) rfl rfl) (r:=sR none 5 (λ_=>[]) 0 0) rfl rfl;exact l.perm (My ..)
 have m:∀{c:Nat},cg Y c->c<Y.heap.size:=λh=>(cU.1 h).1;have B:∀o,o=5\/o=6->P.cell? ⟨b+2,o,none⟩=Y.cell? ⟨b+2,o,none⟩/\P.frozen? ⟨b+2,o,none⟩=Y.frozen? ⟨b+2,o,none⟩:=λo h=>T.cell _ (by show b+2<Y.heap.size;omega) (fun⟨i,r,j,n,g,h3,h4⟩=>by
  have:=((S8.sat.ok i r n j h3).2 g).1.1;rw[h4]at this;exact this ⟨b+2,bI ..,by rcases h with rfl|rfl;exact .inl rfl;exact .inr rfl⟩)
 rw[s]at ag;have ag5:=ag.a5;have ag6:=ag.a6;refine At.assume gN λh=>At.keep (K':=K2 w0 (b+2) (BM C N OU 0)) (λd=>⟨h,⟨λp hp=>(by cases hp),λc hc=>?_⟩,⟨?_,?_⟩,⟨?_,?_⟩⟩) (FC (kk:=Ys (b+2) J HD O V lb I u dL eu C N) hV A (bI ..) hB R qh (M:=oR (b+2) 3 [.chan (some C),.chan (some N)] false::oR bo 0 [.slice (some ⟨O,0,none⟩) V.nc V.nc] false::oR bl 0 [Yw V lb 0] false::bR rs [.slice none 0 0,.slice none 0 0]::(X++M)) ((((hX.cons rfl).cons rfl).cons rfl).cons rfl) (dL:=dL) (eu:=eu) (λz=>?_) ?_ V.nc 0 OU [] (.slice none 0 0) Ry a9 P _ rfl hd9 (by omega) rfl ⟨λj U=>by omega,λi H=>by omega,?_⟩ ?_ ?_ rfl ⟨S9.env,hs9,rfl⟩)
 .show∃b,P.heap[c]? =_;have q1:cg P C:=T.obj _ _ o1 (λ_ _ _ z=>by cases z);have q2:cg P N:=T.obj _ _ o2 (λ_ _ _ z=>by cases z);simp only[BM,List.range_zero,uf,ak,bH,or_false]at hc;rcases hc with rfl|rfl
  .exact⟨0,q1⟩
  .exact⟨0,q2⟩
 .exact(B 5 (.inl rfl)).1.trans ag5
 .exact(B 5 (.inl rfl)).2.trans (ag.z 5)
 .exact(B 6 (.inr rfl)).1.trans ag6
 .exact(B 6 (.inr rfl)).2.trans (ag.z 6)
 .obtain⟨ca,e1,e2⟩:=hC z;exact⟨ca,e1,(e2.app X).cons.cons.cons.cons⟩
 .intro f q en W a1 Q B1 n g h3 h4 h5 c b h8 S;exact K C N f q en W a1 Q B1 (by omega) (by omega) qM n g h3 h4 h5 c b h8 S
 .exact⟨by have:=m o1;omega,by have:=m o2;omega⟩
 .refine⟨⟨.inl ⟨rfl,A.el,rfl⟩,?_,gl _,λa ha=>(by cases ha)⟩,⟨λe he=>(by cases he),.inl ⟨rfl,rfl,rfl⟩⟩,λz=>(by cases z),λk _ _=>by show qv _ (L.gt k).la jC;rw[A.gt];exact Zj,λk _ _=>⟨λ_=>⟨rfl,rfl,rfl⟩,λz=>(by cases z),λz=>(by cases z),λj U=>(by cases U)⟩,λr hr=>(by cases hr)⟩;show L.el<=0;rw[A.el];exact az _
 .exact⟨λi H=>(by cases H),λi H=>absurd H (uk _),List.Pairwise.nil,λi H=>(by cases H),λi H=>(by cases H),λw a=>(by have n:w<L.wl:=a;rw[A.wl]at n;cases n)⟩
abbrev Kk(w0:aj)(l:aN)(kk:PK)(f:Bg)(cR:aC)(lT:cO)(X M:aW)(rs bl bo:Nat)(Lf:LS):RN:=
 {wI:=w0,l:=kk.A::l,k:={kk with T:=f.T,aS:=f.aS,sc:=Mg f},cR:=cR,lT:=lT,S:=sM kk.A bl bo f kk.V.nc++(oR kk.A 3 [.chan (some kk.bM),.chan (some kk.bJ)] false::oR bo 0 [.slice (some ⟨kk.O,0,none⟩) kk.V.nc kk.V.nc] false::oR bl 0 [Yw kk.V kk.lb 0] false::(X++M)),W:=[bR rs [.slice none 0 0,.slice none 0 0]],Lf:=Lf,ba:=f.ba,bt:=f.bt,bw:=f.bw,bi:=f.bi,bl:=bl,bo:=bo}
structure Sj(V:Ev0)(I:eP)(dL:p9)(eu:bU)(M:aW):Prop where
 ro:∀r∈M,r.wr=false
 fl:Flat M
 OT:0<V.nc->∃ca,I=some ca/\Has M (fR ca 2 (λj=>[i6 (V.st j),.slice (dL j) (V.nt j) (eu j)]) V.nc false)
 xm:∀c,c<V.nc->0<V.nt c->∃ta,dL c=some ta/\Has M (fR ta 3 (λj=>s9 (V.tr c j)) (V.nt c) false)
 err:Has M (oR 0 0 [.iface 217 (.agg #[.pointer (some ⟨1,121,none⟩)])] false)
theorem NA{f:Bg}(c:j<k)(a:r∈Ah A bl bo f j):Has (sM A bl bo f k) r:=by
 have b:r∈sM A bl bo f k:=mL.2 ⟨j,aZ.2 c,a⟩;obtain⟨i,c⟩:=lP b;refine⟨?_,i,c⟩;simp only[Ah,ak,bH,or_false]at a;rcases a with rfl|rfl|rfl|rfl|rfl<;>rfl
theorem RD(D:wM V)(B:∀x∈l,x<w0.heap.size){f:Bg}{cR:aC}{lT:cO}{w:aj}(E:w0.heap.size<=A)(y:w0.heap.size<=bM)(C:w0.heap.size<=bJ)(m:bM≠bJ)(v:Ss V bM bJ f V.nc w)(g:Sj V I dL eu M)(t:Flat X)(s:∀r∈X,r.wr=false)(e:tV V lb J 0 (X++M))(q:Has X (tQ (lb V.nl) .nilIface (-1) J))(p:Has X (oR (lb V.nl) 3 [.slice I V.nc u,.slice (some ⟨HD,0,none⟩) V.nc V.nc] false)):
 tZ (Kk w0 l (Ys A J HD O V lb I u dL eu bM bJ) f cR lT X M rs bl bo Lf):=by
 have up:∀{r},Has (X++M) r->Has (Kk w0 l (Ys A J HD O V lb I u dL eu bM bJ) f cR lT X M rs bl bo Lf).S r:=λh=>h.cons.cons.cons.app _;have k:∀{j r},j<V.nc->r∈Ah A bl bo f j->Has (Kk w0 l (Ys A J HD O V lb I u dL eu bM bJ) f cR lT X M rs bl bo Lf).S r:=λa b=>(NA a b).pre _;refine⟨D,bI ..,λx d=>?_,E,y,C,λj a=>?_,m,λj a=>?_,v.inj,λj a=>rfl,λz=>?_,?_,?_,?_,?_,λj a=>k a (by simp[Ah]),λj a=>k a (by simp[Ah]),λj a=>k a (by simp[Ah]),λj a=>k a (by simp[Ah]),?_,?_⟩
 .rcases ak.1 d with rfl|d
  .exact az _
  .have:=B x d;show x<=A;omega
 .have:=(v.lt j a).2.1;show w0.heap.size<=f.aS j;omega
 .have:=(v.lt j a).2;show f.aS j≠bM/\f.aS j≠bJ;exact⟨by omega,by omega⟩
 .obtain⟨d,o,n⟩:=g.OT z;subst o;exact⟨λj a=>up (e.lay j (gl _) a),λj a d=>up (e.Ig j (gl _) a d),λj a d=>up (e.Mi j (gl _) a d),λj a d=>up (e.Lh j (gl _) a d),λj a d=>up (e.Kj j (gl _) a d),up (q.pre _),up (p.pre _),up (n.app _),λc e d=>by
   obtain⟨a,l,h⟩:=g.xm c e d;exact⟨a,l,up (h.app _)⟩,λi a=>k a (by simp[Ah]),up (g.err.app _)⟩
 .exact(Bn _ _ _ f _).app ((((t.app g.fl).cons rfl).cons rfl).cons rfl)
 .exact Flat.nil.cons rfl
 .intro r b;rcases dJ.1 b with b|b
  .obtain⟨j,_,b⟩:=mL.1 b;simp only[Ah,ak,bH,or_false]at b;rcases b with rfl|rfl|rfl|rfl|rfl<;>rfl
  .rcases ak.1 b with rfl|b
   .rfl
   .rcases ak.1 b with rfl|b
    .rfl
    .rcases ak.1 b with rfl|b
     .rfl
     .rcases dJ.1 b with b|b
      .exact s r b
      .exact g.ro r b
 .exact Has.app (C:=_::_) ⟨rfl,0,rfl⟩ _
 .exact Has.app (C:=_::_::_) ⟨rfl,1,rfl⟩ _
 .exact Has.app (C:=_::_::_::_) ⟨rfl,2,rfl⟩ _
theorem Sat.zn(h:Sat (cP N l []) w M)(b:∀p∈st,∃r∈M,r.wr=false/\∃j,r.has j/\r.ad j=p.1):Sat (cP N l st) w M:=by
 refine h.OB (λr _ j _ o=>⟨o.1,λz=>by cases z⟩) (λr d a j f o=>⟨o.1,λ_=>⟨(o.2 rfl).1,fun⟨p,c,e⟩=>?_⟩⟩);obtain⟨g,k,j,g,i,g⟩:=b p c;simp only[Loc.cell.injEq]at e;exact h.dj d k a j f i (by rw[e,g])
theorem PV.zn{es:jl}(P:PV (cP N l []) s es)(b:s.ea=none)(b:∀k,(s.f k).s=false)(b:s.eb.c=1->∀p∈st,p.1.block≠s.eb.E):PV (cP N l st) s es:=by
 refine⟨⟨P.jr.row,P.jr.le,P.jr.mx,λa b=>?_⟩,P.en,λd=>⟨(P.eo d).1,λa wr f=>?_⟩,λk c b=>⟨(P.fb k c b).nil,(P.fb k c b).len,λz=>(by simp_all),(P.fb k c b).val⟩,λk c b=>⟨(P.rm k c b).nil,(P.rm k c b).len,λz=>(by simp_all),(P.rm k c b).val⟩,P.cx⟩
 .simp_all
 .have o:=(P.eo d).2 a wr f;refine⟨o.1,λz=>⟨(o.2 z).1,fun⟨p,a,e⟩=>?_⟩⟩;grind
theorem VZ(a:yI V L){f:Bg}{b:mW}:gS (gC (Ys A J HD O V lb I u dL eu bM bJ) L f k q en b)=gT V lb 0:=by
 unfold gS gA wS gT;rw[List.range_eq_range',Al,show(gC (Ys A J HD O V lb I u dL eu bM bJ) L f k q en b).l.wl=0 from a.wl];simp only[a.gt];simp
theorem Po(hV:wM V)(hL:yI V L)(hf:Fin V Lf m none L)(U8:0<ng)(hl:∀x∈l,x<w0.heap.size){f:Bg}{a1:Act}{Q:aj}{B1:Nat}{c:mW}(QX:v.kind=.normal)(qh:v.fn=24)(hA:w0.heap.size<=A)(x:A<B1)(hw:w0.heap.size<=bM)(he:w0.heap.size<=bJ)(x:bM≠bJ)(Nt:a1.defers=[])(zS:Q.heap.size=B1)(hI:Ss V bM bJ f V.nc Q)(hM:Sj V I dL eu M)(hXf:Flat X)(hXr:∀r∈X,r.wr=false)(hS:tV V lb J 0 (X++M))(Hj:Has X (tQ (lb V.nl) .nilIface (-1) J))(Bl:Has X (oR (lb V.nl) 3 [.slice I V.nc u,.slice (some ⟨HD,0,none⟩) V.nc V.nc] false))(hK:K2 w0 A (BM bM bJ f V.nc) Q)(hP:PV (cP w0.heap.size (A::l) []) (gC (Ys A J HD O V lb I u dL eu bM bJ) L f V.nc q en c) (bA (gC (Ys A J HD O V lb I u dL eu bM bJ) L f V.nc q en c)))(hQ:QI (gC (Ys A J HD O V lb I u dL eu bM bJ) L f V.nc q en c))(hq:q.length=V.nc)(S1:St (cP w0.heap.size (A::l) []) B1 53 [(47,ptr A),(11,ptr bo),(9,ptr J),(4,ptr rs)] (pM (gC (Ys A J HD O V lb I u dL eu bM bJ) L f V.nc q en c)++(oR A 2 [i6 V.nc] true::(qb f V.nc++(sM A bl bo f V.nc++(oR A 3 [.chan (some bM),.chan (some bJ)] false::oR bo 0 [.slice (some ⟨O,0,none⟩) V.nc V.nc] false::oR bl 0 [Yw V lb 0] false::bR rs [.slice none 0 0,.slice none 0 0]::(gT V lb 0++(X++M))))))) 0 a1 Q)(K:∀(cR:aC)(C:Nat)(s:PS)(Y:aW)(U:aj),0<C->s.k=(Kk w0 l (Ys A J HD O V lb I u dL eu bM bJ) f cR (E::y) X M rs bl bo Lf).k->s.l=Lf->Old w0 U->Sat (cP w0.heap.size (A::l) []) U (bR rs [.slice (some ⟨O,0,none⟩) V.nc V.nc,.slice s.ea s.l.el s.ec]::(pM s++(Y++(Kk w0 l (Ys A J HD O V lb I u dL eu bM bJ) f cR (E::y) X M rs bl bo Lf).S)))->PV (cP w0.heap.size (A::l) []) s (bA s)->(∀j,j<V.nc->fu (Y++(Kk w0 l (Ys A J HD O V lb I u dL eu bM bJ) f cR (E::y) X M rs bl bo Lf).S) (s.oh j) (Lf.ou j).b.ch)->
 nM prog Post (Old w0) (jq (A::l)) C (G (E.finish (.tuple #[.agg #[.slice (some ⟨O,0,none⟩) V.nc V.nc,.slice s.ea s.l.el s.ec],i6 0,i6 0])) y) U):
 nM prog Post (K2 w0 A (BM bM bJ f V.nc)) (jq (A::l)) ng (G (v.at a1 (pc prog 24 69 [false,false] [])) (E::y)) Q:=by
 have F:=NN (Post:=Post) (w0:=w0) (A:=A) (cc:=BM bM bJ f V.nc) (l:=A::l) (bI ..) ng;refine Af F QX 48 39 #[ptr A] (by kernel_rfl) (by kernel_rfl) (by decide) S1 λcR hcR=>At.keep (K':=Old w0) (λd=>hK.1) ?_;have H:=RD (cR:=cR) (lT:=E::y) (rs:=rs) (bl:=bl) (bo:=bo) (Lf:=Lf) (O:=O) hV hl hA hw he x hI hM hXf hXr hS Hj Bl;have ZJ:Sat (cP w0.heap.size (A::l) []) Q (pM (gC (Ys A J HD O V lb I u dL eu bM bJ) L f V.nc q en c)++(gS (gC (Ys A J HD O V lb I u dL eu bM bJ) L f V.nc q en c)++(qb f V.nc++([bR rs [.slice none 0 0,.slice none 0 0]]++(Kk w0 l (Ys A J HD O V lb I u dL eu bM bJ) f cR (E::y) X M rs bl bo Lf).S)))):=by
  rw[show gS (gC (Ys A J HD O V lb I u dL eu bM bJ) L f V.nc q en c)=gT V lb 0 from VZ hL];refine(S1.sat.BC (A:=pM (gC (Ys A J HD O V lb I u dL eu bM bJ) L f V.nc q en c))).perm (eN _ ?_);have N:=fA (sM A bl bo f V.nc++[oR A 3 [.chan (some bM),.chan (some bJ)] false,oR bo 0 [.slice (some ⟨O,0,none⟩) V.nc V.nc] false,oR bl 0 [Yw V lb 0] false]) [bR rs [.slice none 0 0,.slice none 0 0]] (gT V lb 0++(X++M));have P:=fA (qb f V.nc++([bR rs [.slice none 0 0,.slice none 0 0]]++(sM A bl bo f V.nc++[oR A 3 [.chan (some bM),.chan (some bJ)] false,oR bo 0 [.slice (some ⟨O,0,none⟩) V.nc V.nc] false,oR bl 0 [Yw V lb 0] false]))) (gT V lb 0) (X++M);have h3:=(eN (qb f V.nc) N).trans (by simpa using P);simpa using h3
 generalize n:Kk w0 l (Ys A J HD O V lb I u dL eu bM bJ) f cR (E::y) X M rs bl bo Lf=R at*;have eA:R.k.A=A:=by rw[<-n]
 have eI:R.wI=w0:=by rw[<-n]
 have el:R.l=A::l:=by rw[<-n]
 have eV:R.k.V=V:=by rw[<-n]
 have d:R.k.T=f.T:=by rw[<-n]
 have d:R.k.aS=f.aS:=by rw[<-n]
 have d:R.k.bM=bM:=by rw[<-n]
 have d:R.k.bJ=bJ:=by rw[<-n]
 have eL:R.Lf=Lf:=by rw[<-n]
 have Wa:dD R (yc R ng) (gC (Ys A J HD O V lb I u dL eu bM bJ) L f V.nc q en c)=gS (gC (Ys A J HD O V lb I u dL eu bM bJ) L f V.nc q en c)++(qb f V.nc++([bR rs [.slice none 0 0,.slice none 0 0]]++R.S)):=by rw[<-n];rfl
 have tP:R.n=V.nc:=by rw[<-n]
 have S:∀{r},Has R.S r->Has (pM (gC (Ys A J HD O V lb I u dL eu bM bJ) L f V.nc q en c)++(gS (gC (Ys A J HD O V lb I u dL eu bM bJ) L f V.nc q en c)++(qb f V.nc++([bR rs [.slice none 0 0,.slice none 0 0]]++R.S)))) r:=λh=>(((h.app _).app _).app _).app _;obtain⟨_,d,ZB⟩:=S H.ch;have Qi:∀p∈Oz R,∃r∈pM (gC (Ys A J HD O V lb I u dL eu bM bJ) L f V.nc q en c)++(gS (gC (Ys A J HD O V lb I u dL eu bM bJ) L f V.nc q en c)++(qb f V.nc++([bR rs [.slice none 0 0,.slice none 0 0]]++R.S))),r.wr=false/\∃j,r.has j/\r.ad j=p.1/\r.get j=p.2:=λp B=>by
  rcases dJ.1 B with B|B
  .simp only[qd,ak,bH,or_false]at B;rcases B with rfl|rfl
   .exact⟨_,gO ZB,rfl,(0,0),⟨aD,(by decide:0<2)⟩,rfl,rfl⟩
   .exact⟨_,gO ZB,rfl,(0,1),⟨aD,(by decide:1<2)⟩,rfl,rfl⟩
  .obtain⟨j,T,rfl⟩:=gV.1 B;have d:=aZ.1 T;obtain⟨_,i,W⟩:=S ((H.eH (BZ d)).nH j d);exact⟨_,gO W,rfl,(0,3),⟨aD,(by decide:3<4)⟩,rfl,rfl⟩
 have Vt:Flat (gS (gC (Ys A J HD O V lb I u dL eu bM bJ) L f V.nc q en c)++(qb f V.nc++([bR rs [.slice none 0 0,.slice none 0 0]]++R.S))):=Flat.app (bO.2 (r9 _ λr hr=>(by cases hr)))<|(Bm f V.nc).app ((Flat.nil.cons rfl).app H.fl);have hTb:∀j,j<R.n->R.k.T j<Q.heap.size:=λj T=>au (Has.sat ZJ (S ((H.eH (BZ T)).nH j T)));have d:∀j,j<R.n->c.c=1->R.k.T j≠c.E:=λj T hc=>by
  obtain⟨_,i,W⟩:=S ((H.eH (BZ T)).nH j T);refine l9 (b:=R.k.T j) ZJ hP Vt W (λz=>by subst z;have h9:=cT (λo=>o.map aH.wr) W;cases h9) (λz=>by subst z;have h9:=cT (λo=>o.map aH.wr) W;cases h9) (j0:=(0,0)) ⟨aD,(by decide:0<4)⟩ rfl (eR c) (gU _ (by simp[pM])) c.E 128 c.n ?_;grind
 have d:({L with al:=V.nc}:LS)=L:=by rw[<-hL.al]
 have c0:Co R (yc R ng) (gC (Ys A J HD O V lb I u dL eu bM bJ) L f V.nc q en c) Q.heap.size:=by
  refine Wh H (by rw[<-n]) U8 (by grind) (by omega) hTb (λi W=>?_) (λi W=>(hQ.lt i W).1) (λt ht=>?_) ?_ hL.wl
  .have KG:i<V.nc:=(hQ.lt i W).1;have:=hL.ag i KG;grind
  .rw[tP]at ht;have:=hL.ag t ht;exact⟨t,hQ.all t ht this.2.2.2,this.2.1⟩
  .have d:q.Pairwise (fQ L.ag):=hQ.pN;refine LK (fun{a b} o hb h=>?_) d;have N:=(hL.ag a (hQ.lt a o).1).2.1;have P:=(hL.ag b (hQ.lt b hb).1).2.1;show(L.ag a).t≠(L.ag b).t;rw[N,P];intro e;have:a=b:=by omega
   subst this;exact nE h h
 have hKD:KD R.wI R.k.A R.cc (Oz R) Q:=by
  refine⟨by rw[eI];exact hK.1,⟨λp B=>?_,?_⟩,⟨_,by rw[eA];exact hK.2.2.1.1⟩,by rw[eA];exact hK.2.2.1.2,⟨_,by rw[eA];exact hK.2.2.2.1⟩⟩
  .obtain⟨r,N,_,j,h3,b,d⟩:=Qi p B;rw[<-b,<-d];exact(ZJ.mem N).val j h3
  .have:R.cc=BM bM bJ f V.nc:=by rw[<-n]
   rw[this];exact hK.2.1.2
 have hSg:Sat (jO R (yc R ng)) Q (pM (gC (Ys A J HD O V lb I u dL eu bM bJ) L f V.nc q en c)++dD R (yc R ng) (gC (Ys A J HD O V lb I u dL eu bM bJ) L f V.nc q en c)):=by
  rw[Wa];show Sat (cP R.wI.heap.size R.l (Oz R)) _ _;rw[eI,el];exact ZJ.zn λp B=>by obtain⟨r,N,P,j,h3,b,_⟩:=Qi p B;grind
 have hPg:PV (jO R (yc R ng)) (gC (Ys A J HD O V lb I u dL eu bM bJ) L f V.nc q en c) (bA (gC (Ys A J HD O V lb I u dL eu bM bJ) L f V.nc q en c)):=by
  show PV (cP R.wI.heap.size R.l (Oz R)) _ _;rw[eI,el];refine hP.zn rfl (λ_=>rfl) λhc p B=>?_;have b:A<c.E:=(hP.eo hc).1;rcases dJ.1 B with B|B
  .simp only[qd,ak,bH,or_false]at B;rcases B with rfl|rfl
   .grind
   grind
  .obtain⟨j,T,rfl⟩:=gV.1 B;grind
 have VT:J0 R Post:=by
  intro C s b U U7 D;obtain⟨Y,b⟩:=D.dW;have c:R.W=[bR rs [.slice none 0 0,.slice none 0 0]]:=by rw[<-n]
  have e:R.cR=cR:=by rw[<-n]
  have d:R.lT=E::y:=by rw[<-n]
  have VU:=D.sat;have XW:=D.pv;have XX:=D.old;rw[b,c]at VU;rw[eI,el]at VU XW ⊢;rw[eI]at XX;rw[e,d];have b:Sat (cP w0.heap.size (A::l) []) U (bR rs [.slice none 0 0,.slice none 0 0]::(pM s++(Y++R.S))):=VU.perm (by
   have:=(fA [bR rs [.slice none 0 0,.slice none 0 0]] (pM s++Y) R.S).symm;grind)
  have c:R.bo=bo:=by rw[<-n]
  have d:R.k.O=O:=by rw[<-n]
  have e:s.k.J=J:=by rw[D.hk,<-n]
  have Ja:=H.Ja;rw[c,d,eV]at Ja;have c:=b.get ((Ja.app Y).app (pM s)).cons;refine hcR (λg w=>nM prog Post (Old w0) (jq (A::l)) C g w) (.tuple #[]) U λd b Z=>?_;have S2:St (cP w0.heap.size (A::l) []) U.heap.size 53 _ _ 0 d U:=⟨b,c,rfl⟩;rw[<-e]at S2;have b:d.defers=[]:=Z.trans Nt;clear Z;have Z:=b;have F:=nA (P:=prog) (Post:=Post) (wI:=w0) (l:=A::l) C;have hDA:=D.AB;rw[eA]at hDA;have b:=XX.2.2.2.1;generalize hB2:U.heap.size=B2 at*;have hB:∀(a:Addr)(wr:Bool),B2<=a.block->cP w0.heap.size (A::l) [] a wr:=λa wr hb=>⟨fun⟨b,N,P⟩=>by
   have a:b<B2:=by
    grind
   rcases P with P|P<;>(cases P;simp only at hb;omega),λ_=>⟨by omega,fun⟨p,B,_⟩=>by cases B⟩⟩
  refine aq F hB QX Z S2 11 [0,0,0,1,4,0,0,1,1,0,0,2] [] [] [(6,i6 0),(5,i6 0),(4,ptr rs)] (λM=>bh 1 (0,1) (.slice s.ea s.l.el s.ec) (bh 1 (0,0) (.slice (some ⟨O,0,none⟩) V.nc V.nc) (M))) 0 81 4 [] λa c b a d d d=>cC F b QX qh a [1,0,0,2] (.tuple #[.agg #[.slice (some ⟨O,0,none⟩) V.nc V.nc,.slice s.ea s.l.el s.ec],i6 0,i6 0]) ?_;refine At.assume gN λa=>K cR C s Y c U7 (by rw[D.hk,<-n]) (by rw[D.l,eL]) a ?_ XW (λj T=>?_)
  .rw[n];exact b.sat.tail
  .have hc:=D.ch j (by omega);rw[D.l,eL]at hc;rw[n];rcases hc with hc|⟨b,a,i,N,P⟩
   .exact .inl hc
   .have d:gQ b (Lf.ou j).b.ch∈Y++R.S:=by
     have:=gO P;grind
    obtain⟨c,KG⟩:=lP d;exact .inr ⟨b,a,c,N,KG⟩
 have:=GZ (m:=m) H VT hKD (by rw[eA];exact hK.2.2.2) (by rw[eA];exact hK.2.2.1) c0 hSg hPg hQ (λk _ _=>⟨List.Pairwise.nil,λw hw=>(by cases hw),λw hw=>(by have N:w<L.wl:=hw;rw[hL.wl]at N;cases N)⟩) (by grind);grind
theorem mq:Has C r↔r.wr=false/\r∈C:=⟨fun⟨b,i,a⟩=>⟨b,gO a⟩,fun⟨b,a⟩=>⟨b,lP a⟩⟩
theorem Pm(B:wM V)(N:yI V L)(Q:Fin V Lf m none L)(o:0<ng)(t:∀x∈l,x<w0.heap.size)(D:Sj V I dL eu M)(g:0<V.nl->∃m,sL=some m/\Has M (fR m 6 (λi=>Y3 (V.ly i)) V.nl false))(w:Sat (cP w0.heap.size l []) w0 M)(e:O3 (cP w0.heap.size l []) (nM prog Post (Old w0) (jq l) ng) w0.heap.size M 16 #[.slice sL V.nl Z,.slice I V.nc u] (.tuple #[i6 0,i6 0]))(K:∀(c A:Nat)(s:PS)(C:aW)(U:aj),0<c->w0.heap.size<=A->A<U.heap.size->s.l=Lf->s.k.V=V->Old w0 U->Sat (cP w0.heap.size (A::l) []) U (pM s++C)->PV (cP w0.heap.size (A::l) []) s (bA s)->(∀r,Has M r->Has C r)->(∀j,j<V.nc->fu C (s.oh j) (Lf.ou j).b.ch)->
 nM prog Post (Old w0) (jq (A::l)) c (G (E.finish (.tuple #[.agg #[.slice (some ⟨s.k.O,0,none⟩) V.nc V.nc,.slice s.ea s.l.el s.ec],i6 0,i6 0])) y) U):
 nM prog Post (Old w0) (jq l) ng (G (Frame.enter prog 24 #[.slice sL V.nl Z,.slice I V.nc u] .normal) (E::y)) w0:=by
 have F:=nA (P:=prog) (Post:=Post) (wI:=w0) (l:=l) ng;have R:∀(a:Addr)(wr:Bool),w0.heap.size<=a.block->cP w0.heap.size l [] a wr:=λa wr H=>⟨fun⟨a,d,b⟩=>by
  have:=t a d;rcases b with b|b<;>(cases b;simp only at H;omega),λ_=>⟨H,fun⟨p,n,_⟩=>by cases n⟩⟩
 refine Pq F R B g w (az _) e λv R G F lb HD J O bl bo rs X i j p m n k L x w C=>?_;have g:∀{r},Has X r->Has (X.filter λr=>!r.wr) r:=λh=>by
  obtain⟨d,b⟩:=mq.1 h;exact mq.2 ⟨d,mK.2 ⟨b,by simp[d]⟩⟩
 have A:∀{r},Has (X++M) r->Has ((X.filter λr=>!r.wr)++M) r:=λh=>by
  obtain⟨d,b⟩:=mq.1 h;rcases dJ.1 b with z|z
  .exact(g (mq.2 ⟨d,z⟩)).pre _
  .exact(mq.2 ⟨d,z⟩:Has M _).app _
 have h:∀r∈X.filter λr=>!r.wr,r.wr=false:=λr e=>by simpa using(mK.1 e).2
 have a:Flat (X.filter λr=>!r.wr):=by
  rw[bO]at k ⊢;exact λr e=>k r (mK.1 e).1
 have z:tV V lb J 0 ((X.filter λr=>!r.wr)++M):=L.up λr e=>A e
 have A:St (cP w0.heap.size l []) F 53 _ (bR bo [.slice (some ⟨O,0,none⟩) V.nc V.nc]::fR ⟨O,0,none⟩ 4 (λ_=>[i6 0,i6 0,i6 0,.slice none 0 0]) V.nc true::bR bl [Yw V lb 0]::fR ⟨HD,0,none⟩ 1 (λ_=>[i6 0]) V.nc true::bR J [.slice none 0 0]::bR rs [.slice none 0 0,.slice none 0 0]::((gT V lb 0++(X.filter λr=>!r.wr))++M)) 0 R G:=
  ⟨C.env,C.sat.sub (by
   repeat apply List.Sublist.cons_cons
   rw[dU];exact nN (D7 List.filter_sublist _) _),C.sz⟩
 refine Pp B N t i j p m n (((bO.2 (NK V lb 0)).app a).app D.fl) D.OT A λbM bJ f q en f f f f d b C A f q p n m l f P=>Po B N Q o t i j (by omega) (by omega) d b C A q p D a h z (g x) (g w) n m l f (by rw[dU]at P;exact P) λa c s Y U l d j i f h g=>?_;have m:s.k.O=O:=by rw[d]
 have b:=au (f.tail.val 0 _ rfl (0,0) ⟨aD,(by decide:0<2)⟩);have a:s.k.A=F+2:=by rw[d]
 have:=K c (F+2) s _ U l (by omega) (by rw[<-a];exact b) j (by rw[d]) i f.tail h (λr e=>((((e.app _).cons.cons.cons).app _).app Y)) g;rw[m]at this;exact this
theorem Pn(F:aB prog true (DX Ok) Q)(h:HB B Ok){nl b:Nat}{c i:Int}(a:c≠0)(a:Sat Ok w M)(d:B<=w.heap.size)(e:O3 Ok Q B M 16 #[.slice sL nl Z,.slice I b u] (.tuple #[i6 c,i6 i]))(K:∀U,Sat Ok U M->w.heap.size<=U.heap.size->Q (G (E.finish (.tuple #[.agg #[.slice none 0 0,.slice none 0 0],i6 c,i6 i])) y) U):
 Q (G (Frame.enter prog 24 #[.slice sL nl Z,.slice I b u] .normal) (E::y)) w:=by
 refine cJ func24 a 53 λv a g a a f d k j=>aq F h a d k 11 [] [] [] [(17,.slice I b u),(16,.slice sL nl Z),(4,ptr g),(0,.slice sL nl Z),(1,.slice I b u)] (λM=>bR (g) [.slice none 0 0,.slice none 0 0]::(M)) 1 11 1 [] λd d j d k k k=>bu F a d j 18 16 #[.slice sL nl Z,.slice I b u] λb b=>e _ _ _ _ (λr d=>d.cons) j.sat (by omega) λd e d=>b _ _ _ e λb b e b d=>aX F h a b e 21 [0,0,0,2] [2] [] [(6,i6 i),(5,i6 c),(4,ptr g)] (λM=>M) 0 33 3 [] [(c !=0,true)] [] [] λb e d b g g g=>cC F d a f b [0,0,0,2] (.tuple #[.agg #[.slice none 0 0,.slice none 0 0],i6 c,i6 i]) ?_;exact K e d.sat.tail (by omega)
def nC(n:Nat)(L:oF)(m:Nat)(g:Nat->Cl):Ev0:=⟨n,λi=>⟨L i 0,L i 1,L i 2,L i 3,L i 4,L i 5⟩,m,λi=>(g i).st,λi=>(g i).nt,λi j=>⟨(g i).T j 0,(g i).T j 1,(g i).T j 2⟩⟩
theorem BO(L:oF):∀(m k:Nat)(r:Int),cZ L m k r=k+m->∀j,k<=j->j<k+m->aF (L j 0) (L j 1) (L j 2) (L j 3) (L j 4) (L j 5)=true
 |0,k,r,_,j,d,c=>by omega
 |m+1,k,r,h,j,d,c=>by
  unfold cZ at h;by_cases a:2<(if L k 0=1 then r+1 else r)\/aF (L k 0) (L k 1) (L k 2) (L k 3) (L k 4) (L k 5)=false
  .rw[ah a]at h;omega
  .rw[af a]at h;by_cases e:j=k
   .subst e;cases b:aF (L j 0) (L j 1) (L j 2) (L j 3) (L j 4) (L j 5)with
    |true=>rfl
    |false=>exact absurd (.inr b) a
   .exact BO L m (k+1) (if L k 0=1 then r+1 else r) (by rw[h];omega) j (by omega) (by omega)
theorem uT(g:Nat->Cl):∀(m k:Nat),fY g m k=k+m->∀j,k<=j->j<k+m->(g j).YM=true
 |0,k,_,j,c,b=>by omega
 |m+1,k,h,j,c,b=>by
  unfold fY at h;split at h
  .omega
  .rename_i a;by_cases e:j=k
   .subst e;simpa using a
   .exact uT g m (k+1) (by omega) j (by omega) (by omega)
theorem uG(T:oF):∀(m k:Nat),lQ T m k=true->∀j,k<=j->j<k+m->(1<=T j 0/\T j 0<=4)/\(0<=T j 2/\T j 2<=1000)
 |0,k,_,j,b,a=>by omega
 |m+1,k,h,j,b,a=>by
  unfold lQ at h;simp only[bZ,eB,decide_eq_true_eq]at h;by_cases e:j=k
  .subst e;exact⟨by simpa using h.1.1,by simpa using h.1.2⟩
  .exact uG T m (k+1) h.2 j (by omega) (by omega)
theorem GU{ly:Nat->ju}{L:oF}(a:∀i,(ly i).k=L i 0):∀(m k:Nat)(r:Int),r=(Ih ly k:Int)->r<=2->cZ L m k r=k+m->Ih ly (k+m)<=2
 |0,k,r,c,b,_=>by rw[jI];omega
 |m+1,k,r,c,b,h=>by
  unfold cZ at h;by_cases b:2<(if L k 0=1 then r+1 else r)\/aF (L k 0) (L k 1) (L k 2) (L k 3) (L k 4) (L k 5)=false
  .rw[ah b]at h;omega
  .rw[af b]at h;have c:(if L k 0=1 then r+1 else r)=(Ih ly (k+1):Int):=by
    unfold Ih;rw[a k];split<;>omega
   have:=GU a m (k+1) _ c (Int.not_lt.1 λz=>b (.inl z)) (by rw[h];omega);rw[show k+(m+1)=k+1+m by omega];exact this
theorem zl{L:oF}{g:Nat->Cl}(h:jG n L m g=(0,0))(y:∀i,i<n->L i 0<=5):wM (nC n L m g):=by
 unfold jG at h;split at h
 .cases h
 .rename_i A;split at h
  .cases h
  .rename_i C;split at h
   .cases h
   .rename_i B;split at h
    .cases h
    .rename_i l;have q:cZ L n 0 0=0+n:=by have:=yB L n 0 0;omega
     have r:fY g m 0=0+m:=by have:=BP g m 0;omega
     have p:=BO L n 0 0 q;have s:=uT g m 0 r;refine⟨by show n<=6;omega,by show m<=9;omega,λk f=>?_,?_,λk f d=>?_,λk f d=>?_,λk f d=>?_,λk f d=>?_,λc l=>?_,λc l=>?_,λc l j x=>?_⟩
     .have e:k<n:=f;have a:=p k (by omega) (by omega);have z:=y k e;show L k 0=1\/L k 0=2\/L k 0=3\/L k 0=4\/L k 0=5;unfold aF at a;by_cases q:L k 0=1
      .exact .inl q
      .by_cases r:L k 0=2
       .exact .inr (.inl r)
       .by_cases v:L k 0=3
        .exact .inr (.inr (.inl v))
        .by_cases u:L k 0=4
         .exact .inr (.inr (.inr (.inl u)))
         .by_cases t:L k 0=5
          .exact .inr (.inr (.inr (.inr t)))
          .rw[af q,af r,af v,af u,af t,af (by omega)]at a;cases a
     .have:=GU (ly:=(nC n L m g).ly) (λi=>rfl) n 0 0 rfl (by omega) q;rw[bK]at this;exact this
     .have e:k<n:=f;have a:=p k (by omega) (by omega);have b:L k 0=3:=d;unfold aF at a;rw[af (by omega),af (by omega),ah b]at a;simp only[bZ,eB,decide_eq_true_eq]at a;show(1<=L k 1/\L k 1<=1000)/\(1<=L k 2/\L k 2<=20);omega
     .have e:k<n:=f;have a:=p k (by omega) (by omega);have b:L k 0=4:=d;unfold aF at a;rw[af (by omega),af (by omega),af (by omega),ah b]at a;simp only[bZ,eB,decide_eq_true_eq]at a;show(1<=L k 1/\L k 1<=20)/\(1<=L k 2/\L k 2<=L k 1)/\(1<=L k 3/\L k 3<=100)/\(0<=L k 4/\L k 4<=1000)/\(1<=L k 5/\L k 5<=9);omega
     .have e:k<n:=f;have a:=p k (by omega) (by omega);have b:L k 0=5:=d;unfold aF at a;rw[af (by omega),af (by omega),af (by omega),af (by omega),ah b]at a;simp only[bZ,eB,decide_eq_true_eq]at a;show(1<=L k 1/\L k 1<=9)/\(0<=L k 2/\L k 2<=1000);omega
     .have e:k<n:=f;have a:=p k (by omega) (by omega);have b:L k 0=1:=d;unfold aF at a;rw[ah b]at a;simp only[bZ,eB,decide_eq_true_eq]at a;show(1<=L k 1/\L k 1<=9)/\(0<=L k 2/\L k 2<=1000)/\(1<=L k 3/\L k 3<=9)/\(0<=L k 4/\L k 4<=10000);omega
     .have o:c<m:=l;have a:=s c (by omega) (by omega);simp only[Cl.YM,iF,bZ,eB,decide_eq_true_eq,mA,decide_eq_false_iff_not]at a;show 0<=(g c).st/\(g c).st<=1000;omega
     .have o:c<m:=l;have a:=s c (by omega) (by omega);simp only[Cl.YM,iF,bZ,eB,decide_eq_true_eq,mA,decide_eq_false_iff_not]at a;show(g c).nt<=12;omega
     .have o:c<m:=l;have w:j<(g c).nt:=x;have a:=s c (by omega) (by omega);simp only[Cl.YM,iF,bZ]at a;exact uG (g c).T (g c).nt 0 a.2 j (by omega) (by omega)
end Go.Proofs.YtobagnjnbmgidaaGreatDoor
