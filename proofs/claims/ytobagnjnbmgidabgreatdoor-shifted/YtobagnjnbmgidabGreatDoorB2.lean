import Derived.Test.YtobagnjnbmgidabGreatDoorD5
set_option linter.all false
set_option maxHeartbeats 0
set_option maxRecDepth 100000
namespace Go.Proofs.YtobagnjnbmgidabGreatDoor
open Go.Conc Go.RowKit Tryz
variable{V:Ev0}{L:LS}{Lf:LS->Prop}{HD J N O b bl bo u U bJ j k m n rs bM:Nat}{kk:PK}{r:aH}{C X:aW}{Q E:aC}{en:ay}{q:aN}{dL:p9}{st:oJ}{lb nj:bU}{v:cO}{sL y:eP}{xs ys zs:iO}
variable{main:Bool}{Ok:dh}{B A ng:Nat}{Ψ:gi}{w I w0:aj}{M:aW}{Post:qz}{cc l:aN}{es:dS}{P:aG}
def zN(J:Nat)(y:eP)(n u:Nat)(w0:aj)(w:n<=9):
 fG prog main (DX Ok) 45 #[.slice y n u,.pointer (some ⟨J,0,none⟩)] w0 λD I=>∃B HD,D=.iface 154 (.pointer (some ⟨B,0,none⟩))/\Kp [] w0 I/\w0.heap.size<=HD/\HD<B/\B<I.heap.size/\I.cell? ⟨B,0,none⟩=some .nilIface/\Su I B HD J y n u:=by
 intro Ψ F c v C;simp only[enter_at _ func45 rfl,ntmps45];walk_nrm;refine F.cF ?_;refine F.aJ ?_;refine F.dA ?_;iterate 5 (refine F.aJ ?_)
 refine F.op rfl rfl δ (λd K q=>?_);go_simp;rw[Um n w];go_simp;rw[alloc_at'];refine q _ _ ⟨DX.alloc _ _ (λe c=>?_),?_⟩
 .have A:=mem_listed c;simp[go_sem,PN n w]at A
 clear q K d;try walk_nrm
 generalize f:World.alloc w0 _=i;generalize g:(World.heap w0).size=r;have c:=gH f g;have t:∀j,j<n->i.cell? ⟨r,j,none⟩=some (.int .i64 0)/\i.frozen? ⟨r,j,none⟩=false:=λj k=>⟨aY (i:=j) f g (by simpa using Qm n j k),cy f g j⟩
 have s:Kp [] w0 i:=Kp.alloc f;refine F.aJ ?_;refine F.GV ?_;generalize a:World.alloc i _=x;generalize b:(World.heap i).size=z;have c:=gH a b;have h:=aY (i:=0) a b rfl;have c:=cy a b 0;have p:=aY (i:=1) a b rfl;have c:=cy a b 1;have o:=aY (i:=2) a b rfl;have c:=cy a b 2;have m:=aY (i:=3) a b rfl;have c:=cy a b 3;have l:=aY (i:=4) a b rfl;have c:=cy a b 4;try simp only[sS,sW,sV]at h p o m l
 replace s:=s.yT a;iterate 2 (refine F.oq rfl rfl rfl (λ_=>by first|(simp[go_sem];done)|simp[go_sem,Instr.makeInterface, *]) λd K q=>?_;go_simp;refine q _ ?_;clear q K d;try walk_nrm)
 refine F.tC func45 ?_;have c:Kp [] i x:=Kp.alloc a;exact C _ _ ⟨z,r,rfl,s,ω,ω,au h,h,p,o,m,l,λj k=>⟨c.cell _ _ ψ (t j k).1,(c.V7 _ _ ψ (t j k).1).trans (t j k).2⟩⟩
def Sat.sj(h:Sat Ok w M)(k:Kp [] w I []){N:aW}(a:∀r∈N,xE Ok I r)(b:N.Pairwise Dj)(f:∀r∈N,∀j,r.has j->w.heap.size<=(r.ad j).block):Sat Ok I (N++M):=by
 have a:=sat_iff.1 (h.PZ k);rw[sat_iff];refine⟨λr c=>?_,YS.2 ⟨b,a.2,λr c a a _ j b d b e=>?_⟩⟩
 .grind
 .have e:=f r c j d;have c:=h.blk a b;grind
def oW{o:Nat}{wr:Bool}{j:Ix}(a:j.2<zs.length):(oR b o zs wr).get j=zs.getD j.2 undef:=by
 cases zs with
 |nil=>cases a
 |cons z zs=>rfl
def Sat.RF(h:Sat Ok w (bR b (xs++zs)::M)):Sat Ok w (oR b 0 xs false::oR b xs.length zs true::M):=by
 rw[sat_iff]at h ⊢;let⟨l,o⟩:=h;have H:=l _ (bI ..);have m:=(iG.1 o).1;have p:∀(j:Ix),j.2<(xs++zs).length->(bR b (xs++zs)).get j=(xs++zs).getD j.2 undef:=λj a=>by
  generalize xs++zs=ys at a;cases ys with
  |nil=>cases a
  |cons z ys=>rfl
 have i:∀j:Ix,(oR b 0 xs false).has j->(bR b (xs++zs)).has j/\(oR b 0 xs false).ad j=(bR b (xs++zs)).ad j/\(oR b 0 xs false).get j=(bR b (xs++zs)).get j:=λj a=>by
  have l:j.2<xs.length:=a.2;have h:j.2<(xs++zs).length:=χ
  refine⟨⟨a.1,h⟩,ψ,?_⟩;rw[oW l,p j h];simp_all
 have f:∀j:Ix,(oR b xs.length zs true).has j->(bR b (xs++zs)).has (j.1,xs.length+j.2)/\(oR b xs.length zs true).ad j=(bR b (xs++zs)).ad (j.1,xs.length+j.2)/\(oR b xs.length zs true).get j=(bR b (xs++zs)).get (j.1,xs.length+j.2):=λj a=>by
  have l:j.2<zs.length:=a.2;have h:xs.length+j.2<(xs++zs).length:=ξ
  refine⟨⟨a.1,h⟩,rfl,?_⟩;rw[oW l,p (j.1,xs.length+j.2) h];simp_all
 refine⟨λr d=>?_,iG.2 ⟨λr d b j k a c e=>?_,iG.2 ⟨λr d b j k a c e=>?_,(iG.1 o).2⟩⟩⟩
 .rcases ak.1 d with rfl|d
  .exact⟨λj a=>by rw[(i j a).2.1,(i j a).2.2];exact H.val j (i j a).1,λj a=>⟨by rw[(i j a).2.1];exact(H.ok j (i j a).1).1,λz=>(by cases z)⟩,λz=>(by cases z),λg e n z=>(by cases z)⟩
  .rcases ak.1 d with rfl|d
   .exact⟨λj a=>by rw[(f j a).2.1,(f j a).2.2];exact H.val _ (f j a).1,λj a=>by rw[(f j a).2.1];exact H.ok _ (f j a).1,λ_ j k a c e=>by
     have:=H.inj rfl _ _ (f j a).1 (f k c).1 ω;grind,λg e n z=>(by cases z)⟩
   simp_all
 .rcases ak.1 d with rfl|d
  .have b:j.2<xs.length:=a.2;grind
  .rw[(i j a).2.1]at e;exact m r d (.inl rfl) j k (i j a).1 c e
 .rw[(f j a).2.1]at e;exact m r d (.inl rfl) _ k (f j a).1 c e
def Sat.cut(h:Sat Ok w (bR b (xs++ys)::M)):Sat Ok w (oR b 0 xs false::oR b xs.length ys false::M):=
 h.RF.G7 1 rfl (oR b xs.length ys false) (λj a=>⟨a,rfl,rfl⟩) (λz=>by cases z) rfl
def Og(F:aB prog main (DX Ok) Ψ)(h:HB B Ok)(m:Sat Ok w M)(l:B<=w.heap.size)(l:n<=9)(K:∀lb HD I,Sat Ok I (oR lb 0 [.nilIface,i6 (-1),ptr J] false::oR lb 3 [.slice y n u,.slice (some ⟨HD,0,none⟩) n n] false::fR ⟨HD,0,none⟩ 1 (λ_=>[i6 0]) n true::M)->w.heap.size<=I.heap.size->Kp [] w I->Ψ (G (E.finish (.iface 154 (ptr lb))) v) I):
 Ψ (G (Frame.enter prog 45 #[.slice y n u,ptr J] .normal) (E::v)) w:=by
 refine zN J y n u w l _ F _ _ (λl k l=>?_);obtain⟨b,HD,rfl,g,p,t,t,q,f⟩:=l;refine K b HD k (m.sj g (N:=[oR b 0 [.nilIface,i6 (-1),ptr J] false,oR b 3 [.slice y n u,.slice (some ⟨HD,0,none⟩) n n] false,fR ⟨HD,0,none⟩ 1 (λ_=>[i6 0]) n true]) (λr c=>?_) ?_ (λr c j d=>?_)) g.size g
 .simp only[ak,bH,or_false]at c;rcases c with rfl|rfl|rfl
  .refine nq (λj d=>?_) (λj d=>h _ _ χ);match j,d with
   |0,_=>exact q
   |1,_=>exact f.b1
   |2,_=>exact f.b2
  .refine nq (λj d=>?_) (λj d=>h _ _ χ);match j,d with
   |0,_=>exact f.b3
   |1,_=>exact f.b4
  .refine rI (λj d i g=>?_) (λa wr a=>h _ _ ω);have:i=0:=ω
   subst this;have:=f.h j d;simp_all
 .have:∀(o:Nat)(a:iO),Dj (oR b o a false) (fR ⟨HD,0,none⟩ 1 (λ_=>[i6 0]) n true):=λo a _ j a d d e=>by
   have s:(⟨b,o+j.2,none⟩:Addr)=((⟨HD,0,none⟩:Addr).add (a.1*1)).add a.2:=e;rw[add_add]at s;simp_all
  refine iG.2 ⟨λr c=>?_,iG.2 ⟨λr c=>?_,iG.2 ⟨λr c=>(by cases c),List.Pairwise.nil⟩⟩⟩
  .simp only[ak,bH,or_false]at c;rcases c with rfl|rfl
   .intro a;simp_all
   simp_all
  simp_all
 .simp only[ak,bH,or_false]at c;rcases c with rfl|rfl|rfl
  .grind
  .grind
  .show w.heap.size<=(((⟨HD,0,none⟩:Addr).add (j.1*1)).add j.2).block;rw[add_add];exact p
def EV(x:ju):List Value:=[i6 x.k,i6 x.a,i6 x.b,i6 x.c,i6 x.d,i6 x.e]
def Sat.N5(h:Sat Ok w (bR b ((xs++ys)++zs)::M)):Sat Ok w (oR b 0 xs false::oR b xs.length ys false::oR b (xs++ys).length zs true::M):=by
 have c:=h.RF;have a:=c.dup (i:=0) rfl rfl;have f:=a.Pu (r':=oR b 0 xs false) rfl rfl λj c=>by
  have d:j.2<xs.length:=c.2;have a:j.2<(xs++ys).length:=by rw[YA];omega
  exact⟨j,⟨c.1,a⟩,rfl,by rw[oW d,oW a];simp[List.getD,nO d]⟩
 have e:=(f.perm (.swap ..)).Pu (r':=oR b xs.length ys false) rfl rfl λj c=>by
  have d:j.2<ys.length:=c.2;have a:xs.length+j.2<(xs++ys).length:=by rw[YA];omega
  exact⟨(j.1,xs.length+j.2),⟨c.1,a⟩,by show(⟨b,xs.length+j.2,none⟩:Addr)=⟨b,0+(xs.length+j.2),none⟩;rw[bK],by rw[oW d,oW (j:=(j.1,xs.length+j.2)) a];simp[List.getD,vf]⟩
 exact e.perm (.swap ..)
def gz:Gt:=⟨false,0,0,0,0,[],0,0⟩
def A9(x:ju):List Value:=if x.k=1 then[i6 x.a,i6 x.b,i6 x.c,i6 x.d]else if x.k=3 then[i6 x.a,i6 x.b]else if x.k=4 then[i6 x.a,i6 x.b,i6 x.c,i6 x.d,i6 x.e]else if x.k=5 then[i6 x.a,i6 x.b]else if x.k=6 then[i6 x.a]else[]
def Ti(k:Int)(lb:Nat):Value:=if k=1 then .iface 157 (ptr lb)else if k=3 then .iface 163 (ptr lb)else if k=4 then .iface 166 (ptr lb)else if k=5 then .iface 171 (ptr lb)else if k=6 then .iface 175 (ptr lb)else .iface 160 (ptr lb)
def FB(k:Int)(lb:Nat):∃a,Ti k lb=.iface a (ptr lb):=by
 unfold Ti;split
 .exact⟨_,rfl⟩
 .split
  .exact⟨_,rfl⟩
  .split
   .exact⟨_,rfl⟩
   .split
    .exact⟨_,rfl⟩
    .split<;>exact⟨_,rfl⟩
def PY(F:aB prog main (DX Ok) Ψ)(s:HB B Ok){ty:Nat}{x:ju}{num:Int}(y:x.k=1\/x.k=2\/x.k=3\/x.k=4\/x.k=5\/x.k=6)(r:Sat Ok w M)(a:B<=w.heap.size)(K:∀lb I,w.heap.size<=lb->Sat Ok I (oR lb 0 [.iface ty (ptr b),i6 num,ptr J] false::oR lb 3 (A9 x) false::(gR x lb gz jC []++M))->w.heap.size<=I.heap.size->Ψ (G (E.finish (Ti x.k lb)) v) I):
 Ψ (G (Frame.enter prog 46 #[.agg #[i6 x.k,i6 x.a,i6 x.b,i6 x.c,i6 x.d,i6 x.e],.agg #[.iface ty (ptr b),i6 num,ptr J]] .normal) (E::v)) w:=by
 let⟨a,f,g,p,o,q⟩:=x;simp only at y K ⊢;rcases y with rfl|rfl|rfl|rfl|rfl|rfl
 .refine cJ func46 r 69 λQ u a t d e c n j=>bB (λM=>bR (a+2) [.iface ty (ptr b),i6 num,ptr J,i6 f,i6 g,i6 p,i6 o]::(bR (a+1) [.iface ty (ptr b),i6 num,ptr J]::(bR (a) [i6 1,i6 f,i6 g,i6 p,i6 o,i6 q]::(M)))) 3 F s d e c n 35 [1,0,0,1,0,0,0,3,1,0,1,4] 7 [] 4 (.iface 157 (ptr (a+2))) 35 3 [] λh m i k=>?_;have l:=Sat.cut (xs:=[.iface ty (ptr b),i6 num,ptr J]) (ys:=[i6 f,i6 g,i6 p,i6 o]) m.sat;exact K (a+2) h ω (Sat.Db (A:=[_,_]) (X:=[_,_]) l) ω
 .refine cJ func46 r 69 λQ u a t d e c n j=>bB (λM=>bR (a+2) [.iface ty (ptr b),i6 num,ptr J]::(bR (a+1) [.iface ty (ptr b),i6 num,ptr J]::(bR (a) [i6 2,i6 f,i6 g,i6 p,i6 o,i6 q]::(M)))) 3 F s d e c n 33 [1,0,0,1,0,0,0,3] 29 [] 4 (.iface 160 (ptr (a+2))) 33 6 [] λh m i k=>?_;have l:=Sat.cut (xs:=[.iface ty (ptr b),i6 num,ptr J]) (ys:=[]) m.sat;exact K (a+2) h ω (Sat.Db (A:=[_,_]) (X:=[_,_]) l) ω
 .refine cJ func46 r 69 λQ u a t d e c n j=>bB (λM=>bR (a+2) [.iface ty (ptr b),i6 num,ptr J,i6 f,i6 g,i6 0]::(bR (a+1) [.iface ty (ptr b),i6 num,ptr J]::(bR (a) [i6 3,i6 f,i6 g,i6 p,i6 o,i6 q]::(M)))) 3 F s d e c n 43 [1,0,0,1,0,0,0,3,1,0,1,2] 117 [] 4 (.iface 163 (ptr (a+2))) 43 12 [] λh m i k=>?_;have l:=Sat.N5 (xs:=[.iface ty (ptr b),i6 num,ptr J]) (ys:=[i6 f,i6 g]) (zs:=[i6 0]) m.sat;exact K (a+2) h ω (Sat.Db (A:=[_,_,_]) (X:=[_,_]) l) ω
 .refine cJ func46 r 69 λQ u a t d e c n j=>bB (λM=>bR (a+2) [.iface ty (ptr b),i6 num,ptr J,i6 f,i6 g,i6 p,i6 o,i6 q,i6 0,i6 0,i6 0,i6 0,.slice none 0 0]::(bR (a+1) [.iface ty (ptr b),i6 num,ptr J]::(bR (a) [i6 4,i6 f,i6 g,i6 p,i6 o,i6 q]::(M)))) 3 F s d e c n 55 [1,0,0,1,0,0,0,3,1,0,1,5] 469 [] 4 (.iface 166 (ptr (a+2))) 55 24 [] λh m i k=>?_;have l:=Sat.N5 (xs:=[.iface ty (ptr b),i6 num,ptr J]) (ys:=[i6 f,i6 g,i6 p,i6 o,i6 q]) (zs:=[i6 0,i6 0,i6 0,i6 0,.slice none 0 0]) m.sat;have w:=Sat.Db (A:=[_,_,_]) (X:=[_,_]) l;refine K (a+2) h ω ?_ ω;exact(w.qj (r:=fR ⟨jC.g,0,none⟩ 1 jC.v (jC.o+jC.c) true) rfl rfl).perm (eY (l₁:=[_,_,_])).symm
 .refine cJ func46 r 69 λQ u a t d e c n j=>bB (λM=>bR (a+2) [.iface ty (ptr b),i6 num,ptr J,i6 f,i6 g,i6 0,.slice none 0 0]::(bR (a+1) [.iface ty (ptr b),i6 num,ptr J]::(bR (a) [i6 5,i6 f,i6 g,i6 p,i6 o,i6 q]::(M)))) 3 F s d e c n 55 [1,0,0,1,0,0,0,3,1,0,1,2] 1877 [] 4 (.iface 171 (ptr (a+2))) 55 48 [] λh m i k=>?_;have l:=Sat.N5 (xs:=[.iface ty (ptr b),i6 num,ptr J]) (ys:=[i6 f,i6 g]) (zs:=[i6 0,.slice none 0 0]) m.sat;have w:=Sat.Db (A:=[_,_,_]) (X:=[_,_]) l;refine K (a+2) h ω ?_ ω;exact(w.qj (r:=fR ⟨jC.g,jC.o,none⟩ 1 jC.v (rK jC) true) rfl rfl).perm (eY (l₁:=[_,_,_])).symm
 .refine cJ func46 r 69 λQ u a t d e c n j=>bB (λM=>bR (a+2) [.iface ty (ptr b),i6 num,ptr J,i6 f]::(bR (a+1) [.iface ty (ptr b),i6 num,ptr J]::(bR (a) [i6 6,i6 f,i6 g,i6 p,i6 o,i6 q]::(M)))) 3 F s d e c n 55 [1,0,0,1,0,0,0,3,1,0,1,1] 1365 [] 4 (.iface 175 (ptr (a+2))) 55 32 [] λh m i k=>?_;have l:=Sat.cut (xs:=[.iface ty (ptr b),i6 num,ptr J]) (ys:=[i6 f]) m.sat;exact K (a+2) h ω (Sat.Db (A:=[_,_]) (X:=[_,_]) l) ω
def Yw(V:Ev0)(lb:bU)(j:Nat):Value:=if j=V.nl then .iface 154 (ptr (lb j))else Ti (V.ly j).k (lb j)
def vP(V:Ev0)(lb:bU)(j:Nat):∃a,Yw V lb j=.iface a (ptr (lb j)):=by
 unfold Yw;split
 .exact⟨_,rfl⟩
 .exact FB ..
def gT(V:Ev0)(lb:bU)(j:Nat):List aH:=(List.range' j (V.nl-j)).flatMap λi=>gR (V.ly i) (lb i) gz jC []
def aak(V:Ev0)(lb:bU):gT V lb V.nl=[]:=by unfold gT;rw[Nat.sub_self];rfl
def Jg{a:Nat}(b:j<V.nl):gT V (upd lb j a) j=gR (V.ly j) a gz jC []++gT V lb (j+1):=by
 unfold gT;rw[show V.nl-j=(V.nl-(j+1))+1 by omega,List.range'_succ,DN];congr 1
 .simp[upd]
 .rw[List.flatMap_def,List.flatMap_def];congr 1;refine u7 λi a=>?_;have:=(List.mem_range'_1.1 a).1;have e:i≠j:=ω
  simp[upd,e]
def NK(V:Ev0)(lb:bU)(j:Nat):∀r∈gT V lb j,r.row=none:=λr a=>by
 let⟨i,_,h⟩:=mL.1 a;exact Gf _ _ _ _ _ r h
structure tV(V:Ev0)(lb:bU)(J j:Nat)(C:aW):Prop where
 lay:∀i,j<=i->i<V.nl->Has C (tQ (lb i) (Yw V lb (i+1)) i J)
 Ig:∀i,j<=i->i<V.nl->(V.ly i).k=1->Has C (oR (lb i) 3 [i6 (V.ly i).a,i6 (V.ly i).b,i6 (V.ly i).c,i6 (V.ly i).d] false)
 Mi:∀i,j<=i->i<V.nl->(V.ly i).k=3->Has C (oR (lb i) 3 [i6 (V.ly i).a,i6 (V.ly i).b] false)
 Lh:∀i,j<=i->i<V.nl->(V.ly i).k=4->Has C (oR (lb i) 3 [i6 (V.ly i).a,i6 (V.ly i).b,i6 (V.ly i).c,i6 (V.ly i).d,i6 (V.ly i).e] false)
 Kj:∀i,j<=i->i<V.nl->(V.ly i).k=5->Has C (oR (lb i) 3 [i6 (V.ly i).a,i6 (V.ly i).b] false)
 Tn:∀i,j<=i->i<V.nl->(V.ly i).k=6->Has C (oR (lb i) 3 [i6 (V.ly i).a] false)
def tV.up{e:aW}(h:tV V lb J j C)(d:∀r,Has C r->Has e r):tV V lb J j e:=⟨λi a b=>d _ (h.lay i a b),λi a b c=>d _ (h.Ig i a b c),λi a b c=>d _ (h.Mi i a b c),λi a b c=>d _ (h.Lh i a b c),λi a b c=>d _ (h.Kj i a b c),λi a b c=>d _ (h.Tn i a b c)⟩
def Px(A G X T M:aW):(A++(G++(X++(T++M)))).Perm ((A++X)++((G++T)++M)):=by
 rw[dU,dU];exact eN A (fA G X (T++M))
def AF(F:aB prog main (DX Ok) Ψ)(H:HB B Ok){Q:aC}(l:Q.kind=.normal)(D:Q.fn=27){E:aC}{v:cO}{V:Ev0}{J u:Nat}{sL:eP}(Z:V.nl<=6)(C:∀k,k<V.nl->(V.ly k).k=1\/(V.ly k).k=2\/(V.ly k).k=3\/(V.ly k).k=4\/(V.ly k).k=5\/(V.ly k).k=6){M:aW}(hL:0<V.nl->∃s,sL=some s/\Has M (fR s 6 (λi=>EV (V.ly i)) V.nl false)):
 ∀(j:Nat)(t:Int)(lb:bU)(X:aW)(L:Act)(w:aj)(P:Nat),t=(j:Int)-1->j<=V.nl->L.defers=[]->B<=P->w.heap.size=P->Flat X->tV V lb J j X->
   St Ok P 29 [(8,i6 t),(7,Yw V lb j),(0,.slice sL V.nl u),(2,ptr J)] (X++(gT V lb j++M)) 0 L w->
   (∀d x I,Flat x->tV V d J 0 x->Sat Ok I (x++(gT V d 0++M))->(∀i,j<=i->d i=lb i)->(∀r,Has X r->Has x r)->w.heap.size<=I.heap.size->Ψ (G (E.finish (Yw V d 0)) v) I)->
   Ψ (G (Q.at L (pc prog 27 21 [] [])) (E::v)) w
 |0,t,lb,X,L,w,P,hjj,hj,q,hle,U,p,n,o,K=>by
  let⟨m,g⟩:=vP V lb 0;rw[g]at o;have:t=-1:=ω
  subst this;refine UF F H l D q o 13 [] 5 [] 6 (.iface m (ptr (lb 0))) 34 2 [] λw1 R T W=>?_;have:=K lb X w1 p n R.sat (λ_ _=>rfl) (λ_ h=>h) ω;rw[g]at this;exact this
 |j+1,t,lb,X,L,w,P,hjj,hj,q,hle,U,p,n,o,K=>by
  let⟨m,g⟩:=vP V lb (j+1);rw[g]at o;have:t=(j:Int):=ω
  subst this;let⟨s,hla,h⟩:=hL ω;have Y:IntKind.wrap .i64 ((j:Int)-1)=(j:Int)-1:=aA ω ω;have O:=o.get ((h.app _).app X);subst hla;have h:(j:Int)<(V.nl:Int):=ω
  have h:decide ((0:Int)<=(j:Int))=true:=ψ
  clear o;have o:=O;clear O;refine TP F H l q o 19 [0,j,0,106] 27 [] [(26,.agg #[.iface m (ptr (lb (j+1))),i6 j,ptr J]),(22,.agg #[i6 (V.ly j).k,i6 (V.ly j).a,i6 (V.ly j).b,i6 (V.ly j).c,i6 (V.ly j).d,i6 (V.ly j).e]),(8,i6 j),(0,.slice (some s) V.nl u),(2,ptr J)] 40 3 [] [] [] [((↑j:Int),V.nl)] [(6,(j,V.nl))] λh w1 R h T W k=>ah F l h R 27 46 #[.agg #[i6 (V.ly j).k,i6 (V.ly j).a,i6 (V.ly j).b,i6 (V.ly j).c,i6 (V.ly j).d,i6 (V.ly j).e],.agg #[.iface m (ptr (lb (j+1))),i6 j,ptr J]] λh h=>PY F (λa wr z=>H a wr ω) (x:=V.ly j) (num:=j) (ty:=m) (b:=lb (j+1)) (C j ω) R.sat (az _) λb a a f a=>h _ _ _ f λa a S2 DF a=>?_;let⟨y,e2⟩:=FB (V.ly j).k b;rw[e2]at S2;generalize ZV:oR b 0 [.iface m (ptr (lb (j+1))),i6 (j:Int),ptr J] false::oR b 3 (A9 (V.ly j)) false::(gR (V.ly j) b gz jC []++fR s 6 (λi=>EV (V.ly i)) V.nl false::(X++(gT V lb (j+1)++M)))=a at S2;refine Rb F H l DF S2 9 [] 1 [] [(8,i6 (IntKind.wrap .i64 ((↑j:Int)-1))),(7,.iface y (ptr b)),(0,.slice (some s) V.nl u),(2,ptr J)] 50 3 [] λa3 w3 N CJ S a a=>?_;rw[show pc prog 27 50 (Bo 3) []=pc prog 27 21 [] [] by kernel_rfl];rw[Y]at N;subst ZV;have k:j≠V.nl:=ω
  have A:∀i,i≠j->Yw V (upd lb j b) i=Yw V lb i:=λi h=>by
   unfold Yw upd;rw[af h]
  have a:Yw V (upd lb j b) j=.iface y (ptr b):=by
   unfold Yw upd;rw[af k,sJ rfl];exact e2
  rw[<-a]at N;have ul:upd lb j b j=b:=by unfold upd;rw[sJ rfl]
  have un:∀i,i≠j->upd lb j b i=lb i:=λi h=>by unfold upd;rw[af h]
  have k:Sat Ok w3 ((oR b 0 [.iface m (ptr (lb (j+1))),i6 (j:Int),ptr J] false::oR b 3 (A9 (V.ly j)) false::X)++(gT V (upd lb j b) j++M)):=by
   rw[Jg ω];have a:=N.sat.sub (M':=oR b 0 [.iface m (ptr (lb (j+1))),i6 (j:Int),ptr J] false::oR b 3 (A9 (V.ly j)) false::(gR (V.ly j) b gz jC []++(X++(gT V lb (j+1)++M)))) (.cons_cons _ (.cons_cons _ (nN (.cons _ (.refl _)) _)));exact a.perm (Px [oR b 0 [.iface m (ptr (lb (j+1))),i6 (j:Int),ptr J] false,oR b 3 (A9 (V.ly j)) false] ..)
  refine AF F H l D Z C hL j ((j:Int)-1) (upd lb j b) (oR b 0 [.iface m (ptr (lb (j+1))),i6 (j:Int),ptr J] false::oR b 3 (A9 (V.ly j)) false::X) a3 w3 _ rfl ω CJ ω S ((p.cons rfl).cons rfl) ⟨λi a f=>?_,λi a f c=>?_,λi a f c=>?_,λi a f c=>?_,λi a f c=>?_,λi a f c=>?_⟩ ⟨N.env,k,N.sz⟩ λd x I l k a g4 b m=>K d x I l k a (λi h=>?_) (λr a=>b r a.cons.cons) ω
  .by_cases e:i=j
   .subst e;rw[A (i+1) ω,g,ul];exact⟨rfl,0,rfl⟩
   .rw[A (i+1) ω,un i e];exact(n.lay i ω f).cons.cons
  .by_cases e:i=j
   .subst e;rw[ul,show[i6 (V.ly i).a,i6 (V.ly i).b,i6 (V.ly i).c,i6 (V.ly i).d]=A9 (V.ly i) by unfold A9;rw[sJ c]];exact⟨rfl,1,rfl⟩
   .rw[un i e];exact(n.Ig i ω f c).cons.cons
  .by_cases e:i=j
   .subst e;rw[ul,show[i6 (V.ly i).a,i6 (V.ly i).b]=A9 (V.ly i) by unfold A9;rw[af ω,sJ c]];exact⟨rfl,1,rfl⟩
   .rw[un i e];exact(n.Mi i ω f c).cons.cons
  .by_cases e:i=j
   .subst e;rw[ul,show[i6 (V.ly i).a,i6 (V.ly i).b,i6 (V.ly i).c,i6 (V.ly i).d,i6 (V.ly i).e]=A9 (V.ly i) by unfold A9;rw[af ω,af ω,sJ c]];exact⟨rfl,1,rfl⟩
   .rw[un i e];exact(n.Lh i ω f c).cons.cons
  .by_cases e:i=j
   .subst e;rw[ul,show[i6 (V.ly i).a,i6 (V.ly i).b]=A9 (V.ly i) by unfold A9;rw[af ω,af ω,af ω,sJ c]];exact⟨rfl,1,rfl⟩
   .rw[un i e];exact(n.Kj i ω f c).cons.cons
  .by_cases e:i=j
   .subst e;rw[ul,show[i6 (V.ly i).a]=A9 (V.ly i) by unfold A9;rw[af ω,af ω,af ω,af ω,sJ c]];exact⟨rfl,1,rfl⟩
   .rw[un i e];exact(n.Tn i ω f c).cons.cons
  .rw[g4 i ω];exact un i ω
def HV(F:aB prog main (DX Ok) Ψ)(g:HB B Ok){a:Nat}(j:V.nl<=6)(l:∀k,k<V.nl->(V.ly k).k=1\/(V.ly k).k=2\/(V.ly k).k=3\/(V.ly k).k=4\/(V.ly k).k=5\/(V.ly k).k=6)(r:0<V.nl->∃f,sL=some f/\Has M (fR f 6 (λi=>EV (V.ly i)) V.nl false))(b:Sat Ok w M)(c:B<=w.heap.size)(k:n<=9)(K:∀lb HD X I,Flat X->tV V lb J 0 X->Has X (tQ (lb V.nl) .nilIface (-1) J)->Has X (oR (lb V.nl) 3 [.slice y n a,.slice (some ⟨HD,0,none⟩) n n] false)->Sat Ok I (X++(gT V lb 0++(fR ⟨HD,0,none⟩ 1 (λ_=>[i6 0]) n true::M)))->w.heap.size<=I.heap.size->Ψ (G (E.finish (Yw V lb 0)) v) I):
 Ψ (G (Frame.enter prog 27 #[.slice sL V.nl u,.slice y n a,ptr J] .normal) (E::v)) w:=by
 refine cJ func27 b 29 λQ b b b b m c h d=>Rb F g b c h 8 [] 1 [] [(10,ptr J),(9,.slice y n a),(0,.slice sL V.nl u),(2,ptr J)] 8 1 [] λc c h c d d d=>ah F b c h 11 45 #[.slice y n a,ptr J] λc d=>Og F g h.sat ω k λlb HD c c h _=>d _ _ _ c λd d k d h=>?_;have h:IntKind.wrap .i64 ((V.nl:Int)-1)=(V.nl:Int)-1:=aA ω ω;refine Rb F g b d k 12 [] 1 [] [(8,i6 (IntKind.wrap .i64 ((↑V.nl:Int)-1))),(7,.iface 154 (ptr lb)),(0,.slice sL V.nl u),(2,ptr J)] 21 1 [] λs p o k d q q=>?_;rw[h]at o;have h:Yw V (λ_=>lb) V.nl=.iface 154 (ptr lb):=by unfold Yw;rw[sJ rfl]
 rw[<-h]at o;refine AF F g b m j l (M:=fR ⟨HD,0,none⟩ 1 (λ_=>[i6 0]) n true::M) (λz=>by let⟨f,b,c⟩:=r z;exact⟨f,b,c.cons⟩) V.nl _ (λ_=>lb) [oR lb 0 [.nilIface,i6 (-1),ptr J] false,oR lb 3 [.slice y n a,.slice (some ⟨HD,0,none⟩) n n] false] s p _ rfl (az _) k ω d ((Flat.nil.cons rfl).cons rfl) ⟨λi b c=>ω,λi b c=>ω,λi b c=>ω,λi b c=>ω,λi b c=>ω,λi b c=>ω⟩ (by rw[aak];exact o) λa h I g f d c b i=>?_;have e:a V.nl=lb:=c V.nl (az _);exact K a HD h I g f (by rw[e];exact b _ ⟨rfl,0,rfl⟩) (by rw[e];exact b _ ⟨rfl,1,rfl⟩) d ω
def CC(o:Oper)(s d t:Nat):Bool:=o.guard.isNone&&(match o.dst with|some d'=>d'==d|none=>false)&&(match o.op with
 |.makeSlice t' (.tmp a) (.tmp b)=>t'==t&&a==s&&b==s
 |_=>false)
def A7{o:Oper}{s d t:Nat}(h:CC o s d t=true):o.guard=none/\o.dst=some d/\o.op=.makeSlice t (.tmp s) (.tmp s):=by
 unfold CC at h;simp only[bZ]at h;let⟨⟨i,e⟩,c⟩:=h;refine⟨by simpa using i,?_,?_⟩
 .split at e
  .rename_i n g;rw[g];simp at e;rw[e]
  .cases e
 .split at c
  .rename_i m a b f;simp only[bZ,beq_iff_eq]at c;let⟨⟨l,k⟩,j⟩:=c;subst l;subst k;subst j;exact f
  .cases c
def Kx(F:aB prog main (DX Ok) Ψ)(O:HB B Ok){b:aC}(J:b.kind=.normal){c:Nat}{E:Env}{a:Act}{t:eC}(s d:Nat)(x:kI t=true)(k:CC (aQ t) s d 27=true)(L:d<N)(q:look E s=some (i6 n))(o:n<=9)(S:St Ok B N E M c a w)(K:∀p I,Sat Ok I (fR ⟨w.heap.size,0,none⟩ 4 (λ_=>[i6 0,i6 0,i6 0,.slice none 0 0]) n true::M)->aR ((d,.slice (some ⟨w.heap.size,0,none⟩) n n)::E) N p->p.defers=a.defers->I.heap.size=w.heap.size+1->Kp [] w I->Ψ (G (b.at p (jB t)) v) I):Ψ (G (b.at a t) v) w:=by
 let⟨b,i,r,kk,D,l,H⟩:=dH x;let⟨E,P,x⟩:=A7 k;have c:a.eval (.tmp s)=i6 n:=by rw[S.env.eval (by simp[kn,q])];simp[ev,q]
 have b:B<=w.heap.size:=by rw[S.sz];exact Aw _ _
 have b:∀d,(execOp a.eval (aQ t)).run prog (w.at d)=.ok (.value (.slice (some ⟨w.heap.size,0,none⟩) n n)) ((w.at d).alloc (.cells (MA n).toArray 35)):=λd=>by
  unfold execOp;rw[x];simp only[c];have:=Xd n o (w.at d);simp[this];rfl
 have f:∀d,raw prog a (aQ t) (w.at d)=#[]:=λd=>by
  unfold raw execOp;rw[x];simp only[c];have c:=Xd n o (w.at d);have c:=Ul n o (w.at d) #[];simp[c]
 rw[D];refine F.op l (by simp[Region.wanted,E]) (by rw[J];decide) (λc d m=>?_);rw[b c,alloc_at'];generalize e:World.alloc w _=h;have c:Kp [] w h:=Kp.alloc e;have b:=gH e rfl;have b:h.heap.size=w.heap.size+1:=ω
 refine m _ h ⟨?_,?_⟩
 .rw[f,<-e,<-alloc_at'];exact DX.alloc _ _ ψ
 .rw[<-H,P];refine K _ h (S.sat.sj c (N:=[_]) (λr g=>?_) (LJ ..) (λr g j u=>?_)) (S.env.put L) (put_defers _ _ _) b c
  .simp only[ak,bH,or_false]at g;subst g;refine rI (λj u i b=>?_) (λa wr a=>O _ _ ω);let⟨C,A,z,y⟩:=Eb n j u;refine⟨?_,cy e rfl _⟩;match i,b with
   |0,_=>exact aY (i:=j*4+0) e rfl (by simpa using C)
   |1,_=>exact aY (i:=j*4+1) e rfl (by simpa using A)
   |2,_=>exact aY (i:=j*4+2) e rfl (by simpa using z)
   |3,_=>exact aY (i:=j*4+3) e rfl (by simpa using y)
  .simp only[ak,bH,or_false]at g;subst g;show w.heap.size<=(((⟨w.heap.size,0,none⟩:Addr).add (j.1*4)).add j.2).block;rw[add_add];exact az _
def K2(w0:aj)(A:Nat)(cc:aN)(w:aj):Prop:=Old w0 w/\KL [] cc w/\(w.cell? ⟨A,5,none⟩=some (.int .u64 0)/\w.frozen? ⟨A,5,none⟩=false)/\QD A w
def FK:∀w d,K2 w0 A cc w->K2 w0 A cc (w.at d):=λ_ _ h=>h
def P4(b:A∈l):∀w I es,DX (cP w0.heap.size l []) w I es->K2 w0 A cc w->K2 w0 A cc I:=λw I es D h=>by
 have e:¬cP w0.heap.size l [] ⟨A,5,none⟩ true:=λo=>o.1 ⟨A,b,.inl rfl⟩;let⟨d,c⟩:=D.cell _ e (au h.2.2.1.1);exact⟨Za (λa o=>(o.2 rfl).1) _ _ _ D h.1,KA (λp f=>by cases f) _ _ _ D h.2.1,⟨d.trans h.2.2.1.1,c.trans h.2.2.1.2⟩,Kn b D h.2.2.2⟩
def NN(a:A∈l)(n:Nat):aB prog true (DX (cP w0.heap.size l [])) (nM prog Post (K2 w0 A cc) (jq l) n):=
 GW (h:=0) FK (Gy (λb z=>z.elim) (λb wr z o=>o.1 z) (P4 a)) DX.idle yE rfl
def PF(F:aB prog main (DX Ok) Ψ)(y:∀(a:Addr)(wr:Bool),B<=a.block->(a.off=5\/a.off=6)\/Ok a wr)(x:Sat Ok w M)(a:B<=w.heap.size)(K:∀k l I,Sat Ok I (bR (w.heap.size+2) [i6 0,.slice none 0 0]::oR (w.heap.size+2) 2 [i6 0] true::oR (w.heap.size+2) 3 [.chan (some k),.chan (some l)] false::M)->kN I k->kN I l->w.heap.size<=k->w.heap.size<=l->k≠l->I.heap.size=w.heap.size+3->Kp [] w I->BV I (w.heap.size+2) k l->Ψ (G (E.finish (ptr (w.heap.size+2))) v) I):
 Ψ (G (Frame.enter prog 28 #[] .normal) (E::v)) w:=by
 refine vM w _ F _ _ (λa p a=>?_);obtain⟨k,l,rfl,q,u,H,A,D,A,C,t,s,f⟩:=a;have c:∀(o:Nat)(wr:Bool),o≠5->o≠6->Ok ⟨w.heap.size+2,o,none⟩ wr:=λo wr A a=>by
  rcases y ⟨w.heap.size+2,o,none⟩ wr (by show B<=w.heap.size+2;omega)with (z|z)|z
  .exact absurd z A
  .exact absurd z a
  .exact z
 refine K k l p (x.sj q (N:=[_,_,_]) (λr m=>?_) ?_ (λr m j b=>?_)) t s H D C u q f
 .simp only[ak,bH,or_false]at m;rcases m with rfl|rfl|rfl
  .have:=qB (Ok:=Ok) (w:=p) (b:=w.heap.size+2) (o:=0) (vs:=[i6 0,.slice none 0 0]) (λj b=>?_) (λj b=>?_)
   .refine⟨λj b=>?_,λj b=>?_,λ_ j i b d e=>?_,λg e n z=>(by cases z)⟩
    .have h:=this.val j b;rw[show(oR (w.heap.size+2) 0 [i6 0,.slice none 0 0] true).ad j=⟨w.heap.size+2,j.2,none⟩ by show(⟨_,0+j.2,none⟩:Addr)=_;rw[bK]]at h;exact h
    .have h:=this.ok j b;rw[show(oR (w.heap.size+2) 0 [i6 0,.slice none 0 0] true).ad j=⟨w.heap.size+2,j.2,none⟩ by show(⟨_,0+j.2,none⟩:Addr)=_;rw[bK]]at h;exact h
    .have a:j.2=i.2:=cT Addr.off e;have g:j.1<1:=b.1;have g:i.1<1:=d.1;exact YC ω a
   .match j,b with
    |0,_=>exact⟨f.a0,f.z _⟩
    |1,_=>exact⟨f.a1,f.z _⟩
   .match j,b with
    |0,_=>exact⟨c _ _ δ δ,c _ _ δ δ⟩
    |1,_=>exact⟨c _ _ δ δ,c _ _ δ δ⟩
  .refine qB (λj b=>?_) (λj b=>?_)
   .match j,b with
    |0,_=>exact⟨f.a2,f.z _⟩
   .match j,b with
    |0,_=>exact⟨c _ _ δ δ,c _ _ δ δ⟩
  .refine nq (λj b=>?_) (λj b=>?_)
   .match j,b with
    |0,_=>exact f.a3
    |1,_=>exact f.a4
   .match j,b with
    |0,_=>exact c _ _ δ δ
    |1,_=>exact c _ _ δ δ
 .simp only[iG,ak,bH,or_false,forall_eq_or_imp,forall_eq,false_implies,implies_true,and_true,List.Pairwise.nil];refine⟨⟨λ_ j i b d e=>?_,λ_ j i b d e=>?_⟩,λ_ j i b d e=>?_⟩
  .have a:j.2=2+i.2:=cT Addr.off e;have:j.2<2:=b.2;omega
  .have a:j.2=3+i.2:=cT Addr.off e;have:j.2<2:=b.2;omega
  .have a:2+j.2=3+i.2:=cT Addr.off e;have:j.2<1:=b.2;omega
 .simp only[ak,bH,or_false]at m;rcases m with rfl|rfl|rfl
  .show w.heap.size<=w.heap.size+2;omega
  .show w.heap.size<=w.heap.size+2;omega
  .show w.heap.size<=w.heap.size+2;omega
def Pq(F:aB prog true (DX Ok) Ψ)(g:HB B Ok)(H:wM V)(W:0<V.nl->∃m,sL=some m/\Has M (fR m 6 (λi=>EV (V.ly i)) V.nl false))(T:Sat Ok w M)(i:B<=w.heap.size)(x:O3 Ok Ψ B M 14 #[.slice sL V.nl U,.slice y V.nc u] (.tuple #[i6 0,i6 0]))(K:∀(Q:aC)(k:Act)(f:aj)(i:Nat)(lb:bU)(HD J O bl bo rs:Nat)(X:aW),Q.kind=.normal->Q.fn=15->k.defers=[]->f.heap.size=i->w.heap.size<=i->Flat X->tV V lb J 0 (X++M)->Has X (tQ (lb V.nl) .nilIface (-1) J)->Has X (oR (lb V.nl) 3 [.slice y V.nc u,.slice (some ⟨HD,0,none⟩) V.nc V.nc] false)->
 St Ok i 53 [(11,ptr bo),(10,ptr bl),(9,ptr J),(4,ptr rs),(1,.slice y V.nc u)] (bR bo [.slice (some ⟨O,0,none⟩) V.nc V.nc]::fR ⟨O,0,none⟩ 4 (λ_=>[i6 0,i6 0,i6 0,.slice none 0 0]) V.nc true::bR bl [Yw V lb 0]::fR ⟨HD,0,none⟩ 1 (λ_=>[i6 0]) V.nc true::bR J [.slice none 0 0]::bR rs [.slice none 0 0,.slice none 0 0]::(gT V lb 0++(X++M))) 0 k f->
 Ψ (G (Q.at k (pc prog 15 47 [false] [])) (E::v)) f):
 Ψ (G (Frame.enter prog 15 #[.slice sL V.nl U,.slice y V.nc u] .normal) (E::v)) w:=by
 have L:=H.nc;have G:=H.nl;refine cJ func15 T 53 λQ i e i b A i B w=>aq (λM=>bR (e) [.slice none 0 0,.slice none 0 0]::(M)) 1 F g b i B 11 [] 1 [] [(17,.slice y V.nc u),(16,.slice sL V.nl U),(4,ptr e),(0,.slice sL V.nl U),(1,.slice y V.nc u)] 11 1 [] λi i w i B B B=>ah F b i w 18 14 #[.slice sL V.nl U,.slice y V.nc u] λi i=>x _ _ _ _ (λr p=>p.cons) w.sat ω λw x w=>i _ _ _ x λi d x i w=>aq (λM=>bR (d) [.slice none 0 0]::(M)) 1 F g b i x 21 [] 5 [] [(27,.slice y V.nc u),(26,.slice sL V.nl U),(9,ptr d),(4,ptr e),(1,.slice y V.nc u)] 33 2 [] λi i w i x x x=>ah F b i w 28 27 #[.slice sL V.nl U,.slice y V.nc u,ptr d] λi i=>HV F g G H.kd (λz=>by let⟨m,B,x⟩:=W z;exact⟨m,B,x.cons.cons⟩) w.sat ω L λlb HD X m q Y D C w m=>i _ _ _ w λi l I t i=>?_;let⟨R,j⟩:=vP V lb 0;rw[j]at I;generalize S:X++(gT V lb 0++(fR ⟨HD,0,none⟩ 1 (λ_=>[i6 0]) V.nc true::bR d [.slice none 0 0]::bR e [.slice none 0 0,.slice none 0 0]::M))=i at I;refine aq (λM=>bR (l) [.iface R (ptr (lb 0))]::(M)) 1 F g b t I 7 [0,0,0,1] 1 [] [(30,i6 V.nc),(10,ptr l),(9,ptr d),(4,ptr e),(1,.slice y V.nc u)] 41 2 [] λi P t i m m m=>Kx F (λa wr z=>g a wr ω) b 30 31 ρ ρ δ rfl L t λt o a m c w w=>?_;rw[show jB (pc prog 15 41 (Bo 2) [])=pc prog 15 42 [false] [] by kernel_rfl];have S6:St Ok o.heap.size 53 _ _ 0 t o:=⟨m,a,rfl⟩;have a:t.defers=[]:=c.trans i;clear c;have c:=a;generalize Z:o.heap.size=n at*;generalize hO:P.heap.size=O at*;refine aq (λM=>bR (n) [.slice (some ⟨O,0,none⟩) V.nc V.nc]::(M)) 1 F g b c S6 5 [0,0,0,1] 1 [] [(11,ptr n),(10,ptr l),(9,ptr d),(4,ptr e),(1,.slice y V.nc u)] 47 2 [] λk f N s a a a=>?_;subst S;have a:Sat Ok f (bR n [.slice (some ⟨O,0,none⟩) V.nc V.nc]::fR ⟨O,0,none⟩ 4 (λ_=>[i6 0,i6 0,i6 0,.slice none 0 0]) V.nc true::bR l [Yw V lb 0]::fR ⟨HD,0,none⟩ 1 (λ_=>[i6 0]) V.nc true::bR d [.slice none 0 0]::bR e [.slice none 0 0,.slice none 0 0]::(gT V lb 0++(X++M))):=by
  rw[j];refine N.sat.perm (List.Perm.cons _ (List.Perm.cons _ (List.Perm.cons _ ?_)));have h:=fA (X++gT V lb 0) [fR ⟨HD,0,none⟩ 1 (λ_=>[i6 0]) V.nc true,bR d [.slice none 0 0],bR e [.slice none 0 0,.slice none 0 0]] M;rw[dU,dU]at h;exact h.trans (eN _ (fA ..))
 exact K Q k f _ lb HD d O l n e X b A s rfl ω q (Y.up λr p=>p.pre _) D C ⟨N.env,a,rfl⟩
structure Bg where
 T:Nat->Nat
 aS:Nat->Nat
 ba:Nat->Nat
 bt:Nat->Nat
 bw:Nat->Nat
 bi:Nat->Nat
def Bg.put(f:Bg)(k T aS ba bt bw bi:Nat):Bg:=⟨upd f.T k T,upd f.aS k aS,upd f.ba k ba,upd f.bt k bt,upd f.bw k bw,upd f.bi k bi⟩
def HQ(A bl bo:Nat)(f:Bg)(j:Nat):List aH:=[oR (f.T j) 0 [ptr A,i6 j,i6 j,.chan (some (f.aS j))] false,oR (f.ba j) 0 [ptr A] false,oR (f.bw j) 0 [.func (.func 30) #[] #[ptr bl,ptr bo,ptr (f.bi j)]] false,oR (f.bt j) 0 [ptr (f.T j)] false,oR (f.bi j) 0 [i6 j] false]
def sM(A bl bo:Nat)(f:Bg)(k:Nat):List aH:=(List.range k).flatMap (HQ A bl bo f)
def qb(f:Bg)(k:Nat):List aH:=(List.range k).flatMap λj=>[dO (f.T j) (.pointer none) (.slice none 0 0) false false]
def Mg(f:Bg)(j:Nat):Value:=.func (.func 48) #[] #[ptr (f.ba j),ptr (f.bt j),ptr (f.bw j)]
def LB(f:Bg)(h:j<k)(T a e c b d:Nat):(f.put k T a e c b d).T j=f.T j/\(f.put k T a e c b d).aS j=f.aS j/\(f.put k T a e c b d).ba j=f.ba j/\(f.put k T a e c b d).bt j=f.bt j/\(f.put k T a e c b d).bw j=f.bw j/\(f.put k T a e c b d).bi j=f.bi j:=by
 simp[Bg.put,upd,iS h]
def rO(f:Bg)(k T a e c b d:Nat):(f.put k T a e c b d).T k=T/\(f.put k T a e c b d).aS k=a/\(f.put k T a e c b d).ba k=e/\(f.put k T a e c b d).bt k=c/\(f.put k T a e c b d).bw k=b/\(f.put k T a e c b d).bi k=d:=by
 simp[Bg.put,upd]
def zD(f g:Nat->List aH):∀k,(∀j,j<k->f j=g j)->(List.range k).flatMap f=(List.range k).flatMap g
 |0,_=>rfl
 |k+1,h=>by
  rw[rj,yZ,yZ,zD f g k λj a=>h j ω];simp[h k ω]
def JH(A bl bo:Nat)(f:Bg)(k T a e d c b:Nat):sM A bl bo (f.put k T a e d c b) (k+1)=sM A bl bo f k++[oR T 0 [ptr A,i6 k,i6 k,.chan (some a)] false,oR e 0 [ptr A] false,oR c 0 [.func (.func 30) #[] #[ptr bl,ptr bo,ptr b]] false,oR d 0 [ptr T] false,oR b 0 [i6 k] false]:=by
 unfold sM;rw[rj,yZ,zD (HQ A bl bo (f.put k T a e d c b)) (HQ A bl bo f) k λj n=>?_]
 .let⟨m,l,j,i,h,g⟩:=rO f k T a e d c b;simp[HQ,m,l,j,i,h,g]
 .let⟨m,l,j,i,h,g⟩:=LB f n T a e d c b;simp only[HQ,m,l,j,i,h,g]
def HN(f:Bg)(k T a e c b d:Nat):qb (f.put k T a e c b d) (k+1)=qb f k++[dO T (.pointer none) (.slice none 0 0) false false]:=by
 unfold qb;rw[rj,yZ,zD (λj=>[dO ((f.put k T a e c b d).T j) (.pointer none) (.slice none 0 0) false false]) (λj=>[dO (f.T j) (.pointer none) (.slice none 0 0) false false]) k λj h=>?_]
 .let⟨g,_⟩:=rO f k T a e c b d;simp[g]
 .let⟨g,_⟩:=LB f h T a e c b d;simp only[g]
structure yI(V:Ev0)(L:LS):Prop where
 now:L.now=0
 al:L.al=V.nc
 ag:∀i,i<V.nc->(L.ag i).a=V.st i/\(L.ag i).t=(i:Int)/\(L.ag i).c=0/\(L.ag i).o=false
 us:∀i,L.us i=0
 ou:∀i,L.ou i=⟨0,⟨0,0,[]⟩⟩
 el:L.el=0
 gt:∀k,L.gt k=gz
 wl:L.wl=0
 tl:L.tl=V.nc
 tk:∀i,i<V.nc->(L.tk i).c=(i:Int)/\(L.tk i).p=0/\(L.tk i).o=-1/\(L.tk i).x=false/\(L.tk i).e=false
def ZE(bl bo:Nat)(f:Bg)(j:Nat):Value:=.func (.func 30) #[] #[ptr bl,ptr bo,ptr (f.bi j)]
def T3(A bl bo:Nat)(f:Bg)(k:Nat):List aH:=(List.range k).flatMap λj=>[oR (f.ba j) 0 [ptr A] false,oR (f.bt j) 0 [ptr (f.T j)] false,oR (f.bw j) 0 [ZE bl bo f j] false]
def zi{f:Bg}:∀r∈T3 A bl bo f k,r.wr=false/\r.row=none:=λr a=>by
 let⟨j,_,a⟩:=mL.1 a;simp only[ak,bH,or_false]at a;rcases a with rfl|rfl|rfl<;>exact⟨rfl,rfl⟩
def JC{f:Bg}(c:j<k)(b:r∈[oR (f.ba j) 0 [ptr A] false,oR (f.bt j) 0 [ptr (f.T j)] false,oR (f.bw j) 0 [ZE bl bo f j] false]):Has (T3 A bl bo f k) r:=by
 have a:r∈T3 A bl bo f k:=mL.2 ⟨j,aZ.2 c,b⟩;let⟨i,b⟩:=lP a;exact⟨(zi r a).1,i,b⟩
abbrev gC(bl bo:Nat)(kk:PK)(L:LS)(f:Bg)(k:Nat)(q:aN)(en:ay)(eb:mW):PS:=
 {k:=kk,en:=en,eb:=eb,ea:=none,ec:=0,vv:=λ_=>[],oh:=λ_=>.slice none 0 0,q:=q,wb:=λ_=>0,f:=λ_=>jC,lq:=λ_=>[],cv:=Mg f,cx:=T3 kk.A bl bo f k,T:=f.T,aS:=f.aS,wk:=ZE bl bo f,bf:=λ_=>jC,bl:=λ_=>[],cm:=λ_=>none,l:={L with al:=k,tl:=k}}
def Vs{a:bU}:G3 Ok a [] jC:=⟨λ_=>⟨rfl,rfl,rfl⟩,λz=>(by cases z),λz=>(by cases z),λj b=>(by cases b)⟩
def Z9(e:yI kk.V L){f:Bg}{l:mW}:TI (gC bl bo kk L f kk.V.nc q en l):=by
 have no:∀w,¬w<L.wl:=λw b=>by rw[e.wl]at b;cases b
 refine⟨az _,λw b=>(no w b).elim,λi d=>(no i d).elim,λj a=>?_,λj h g=>absurd g (wT.2 h),λj a=>⟨List.Pairwise.nil,λc k=>(by cases k)⟩,λj a=>.inl (e.tk j a).2.2.1,λi d=>(no i d).elim,λc h g=>absurd g (wT.2 h)⟩;have:=e.tk j a;exact⟨j,this.1,a,λ_=>⟨rfl,this.2.1⟩⟩
structure Ss(V:Ev0)(bM bJ:Nat)(f:Bg)(k:Nat)(w:aj):Prop where
 lt:∀j,j<k->f.aS j<w.heap.size/\bM<f.aS j/\bJ<f.aS j
 inj:∀i,i<k->∀j,j<k->f.aS i=f.aS j->i=j
 wl:bM<w.heap.size/\bJ<w.heap.size
def Mr(x:yI V L){f:Bg}{tP:ay}{r sB:mW}(Q:QI (gC bl bo kk L f k q en r))(H:k<V.nc){i:Nat}(D:i<=q.length){T aS ba bt bw bi:Nat}(G:iM (bA (gC bl bo kk L f k q en r)) (V.st k) i):
 QI (gC bl bo kk L (f.put k T aS ba bt bw bi) (k+1) (q.take i++k::q.drop i) tP sB)/\bA (gC bl bo kk L (f.put k T aS ba bt bw bi) (k+1) (q.take i++k::q.drop i) tP sB)=(bA (gC bl bo kk L f k q en r)).take i++(V.st k,.func (.func 48) #[] #[ptr ba,ptr bt,ptr bw])::(bA (gC bl bo kk L f k q en r)).drop i:=by
 have s:∀j∈q,j<k:=λj a=>(Q.lt j a).1;have c:∀j,j∈q.take i++k::q.drop i↔j=k\/j∈q:=λj=>by
  conv=>rhs;rhs;rw[<-va i q]
  simp only[dJ,ak];constructor
  .rintro (h|h|h)
   .exact .inr (.inl h)
   .exact .inl h
   .exact .inr (.inr h)
  .rintro (h|h|h)
   .exact .inr (.inl h)
   .exact .inl h
   .exact .inr (.inr h)
 have I:∀j∈q,fF (gC bl bo kk L (f.put k T aS ba bt bw bi) (k+1) (q.take i++k::q.drop i) tP sB) j=fF (gC bl bo kk L f k q en r) j:=λj a=>by
  have h:=s j a;let⟨_,_,_,D⟩:=x.ag j ω;unfold fF;show((L.ag j).a,if(L.ag j).c=1 then _ else Mg (f.put k T aS ba bt bw bi) j)=((L.ag j).a,if(L.ag j).c=1 then _ else Mg f j)
  rw[af ω,af ω];let⟨o,v,l,E,D,N⟩:=LB f h T aS ba bt bw bi;simp only[Mg,l,E,D]
 have d:=x.ag k H;have B:fF (gC bl bo kk L (f.put k T aS ba bt bw bi) (k+1) (q.take i++k::q.drop i) tP sB) k=(V.st k,.func (.func 48) #[] #[ptr ba,ptr bt,ptr bw]):=by
  unfold fF;show((L.ag k).a,if(L.ag k).c=1 then _ else Mg (f.put k T aS ba bt bw bi) k)=_;rw[af ω,d.1];let⟨o,v,l,E,D,N⟩:=rO f k T aS ba bt bw bi;simp only[Mg,l,E,D]
 refine⟨⟨λj a=>?_,λj o v=>?_,?_,λj a=>?_,λj a=>?_⟩,?_⟩
 .rcases(c j).1 a with rfl|a
  .exact⟨gr _,d.2.2.2⟩
  .exact⟨BX (s j a),(Q.lt j a).2⟩
 .refine(c j).2 ?_;have m:j<k+1:=o;by_cases e:j=k
  .exact .inl e
  .exact .inr (Q.all j (by show j<k;omega) v)
 .show(q.take i++k::q.drop i).Pairwise (fQ L.ag);have t:q.Pairwise (fQ L.ag):=Q.pN;rw[<-va i q,YS]at t;let⟨M,K,J⟩:=t;have F:∀j∈q.drop i,V.st k<(L.ag j).a:=λj a=>by
   let⟨n,w⟩:=u9 a;rw[DT]at w;have:=G.gt (i+n) (fF (gC bl bo kk L f k q en r) j) ω (by simp[bA,w]);exact this
  have y:∀j∈q.take i,(L.ag j).a<=V.st k:=λj a=>by
   have A:0<i:=by
    cases i with
    |zero=>simp at a
    |succ i=>omega
   have u:i-1<q.length:=ω
   have h:q[i-1]? =some q[i-1]:=mZ u;have o:=G.le (fF (gC bl bo kk L f k q en r) q[i-1]) A (by simp[bA,h]);have m:(L.ag q[i-1]).a<=V.st k:=o;let⟨n,w,p⟩:=List.getElem_of_mem a;rw[uq]at w;rw[List.getElem_take]at p;by_cases e:n=i-1
   .subst e;rw[<-p];exact m
   .have e:q.Pairwise (fQ L.ag):=Q.pN;have l:=xL e (i:=n) (j:=i-1) ω u;rw[p]at l;rcases l with z|z
    .exact Int.le_of_lt (Int.lt_of_lt_of_le z m)
    .rw[z.1];exact m
  rw[YS,iG];refine⟨M,⟨λj a=>?_,K⟩,λj a b C=>?_⟩
  .left;rw[d.1];exact F j a
  .rcases ak.1 C with rfl|C
   .have o:=y j a;have v:=s j (DW a);unfold fQ;rw[d.1];rcases Int.lt_or_eq_of_le o with z|z
    .exact .inl z
    .exact .inr ⟨z,v⟩
   .exact J j a b C
 .rcases(c j).1 a with rfl|a
  .exact .inl d.2.2.1
  .exact .inl (x.ag j (by have:=s j a;omega)).2.2.1
 .have o:j<V.nc:=by
   rcases(c j).1 a with rfl|a
   .exact H
   .have:=s j a;omega
  have g:j<k+1:=by
   rcases(c j).1 a with rfl|a
   .exact gr _
   .have:=s j a;omega
  have l:=x.ag j o;refine⟨λ_=>⟨j,_,_,_,l.2.1,g,rfl,JC g ψ,JC g ψ,JC g ψ⟩,λz=>absurd l.2.2.1 z⟩
 .unfold bA;show(q.take i++k::q.drop i).map _=_;rw[List.map_append,nP,B,<-List.map_take,<-List.map_drop];congr 1
  .exact u7 λj a=>I j (DW a)
  .congr 1;exact u7 λj a=>I j (JA a)
abbrev BM(bM bJ:Nat)(f:Bg)(k:Nat):List Nat:=bM::bJ::(List.range k).map f.aS
def Bn(A bl bo:Nat)(f:Bg)(k:Nat):Flat (sM A bl bo f k):=by
 rw[bO];intro r a;let⟨j,_,a⟩:=mL.1 a;simp only[HQ,ak,bH,or_false]at a;rcases a with rfl|rfl|rfl|rfl|rfl<;>rfl
def Bm(f:Bg)(k:Nat):Flat (qb f k):=by
 rw[bO];intro r a;let⟨j,_,a⟩:=mL.1 a;simp only[ak,bH,or_false]at a;subst a;rfl
def Ic{kk:PK}{L:LS}(hV:wM kk.V)(hL:yI kk.V L)(hA:kk.A∈l){B:Nat}(X:∀(a:Addr)(wr:Bool),B<=a.block->cP w0.heap.size l [] a wr){Q:aC}(s:Q.kind=.normal)(qh:Q.fn=15){E:aC}{v:cO}{u rs bl bo bM bJ:Nat}{y:eP}{M:aW}(hM:Flat M){dL:p9}{nj:bU}(hC:0<kk.V.nc->∃Y,y=some Y/\Has M (fR Y 2 (λj=>[i6 (kk.V.st j),.slice (dL j) (kk.V.nt j) (nj j)]) kk.V.nc false))(K:∀(f:Bg)(q:aN)(en:ay)(p:mW)(S:Act)(C:aj)(h:Nat),S.defers=[]->B<=h->C.heap.size=h->Ss kk.V bM bJ f kk.V.nc C->K2 w0 kk.A (BM bM bJ f kk.V.nc) C->PV (cP w0.heap.size l []) (gC bl bo kk L f kk.V.nc q en p) (bA (gC bl bo kk L f kk.V.nc q en p))->QI (gC bl bo kk L f kk.V.nc q en p)->q.length=kk.V.nc->
 St (cP w0.heap.size l []) h 53 [(47,ptr kk.A),(11,ptr bo),(9,ptr kk.J),(4,ptr rs)] (pM (gC bl bo kk L f kk.V.nc q en p)++(oR kk.A 2 [i6 kk.V.nc] true::(qb f kk.V.nc++(sM kk.A bl bo f kk.V.nc++M)))) 0 S C->
 nM prog Post (K2 w0 kk.A (BM bM bJ f kk.V.nc)) (jq l) ng (G (Q.at S (pc prog 15 69 [false,false] [])) (E::v)) C):
 ∀(left k:Nat)(f:Bg)(q:aN)(en:ay)(p:mW)(Z:Act)(w:aj)(h:Nat),left+k=kk.V.nc->Z.defers=[]->B<=h->w.heap.size=h->Ss kk.V bM bJ f k w->PV (cP w0.heap.size l []) (gC bl bo kk L f k q en p) (bA (gC bl bo kk L f k q en p))->QI (gC bl bo kk L f k q en p)->q.length=k->
   St (cP w0.heap.size l []) h 53 [(35,i6 k),(34,i6 kk.V.nc),(33,.slice y kk.V.nc u),(12,ptr kk.A),(11,ptr bo),(10,ptr bl),(9,ptr kk.J),(4,ptr rs)] (pM (gC bl bo kk L f k q en p)++(oR kk.A 2 [i6 k] true::(qb f k++(sM kk.A bl bo f k++M)))) 0 Z w->
   nM prog Post (K2 w0 kk.A (BM bM bJ f k)) (jq l) ng (G (Q.at Z (pc prog 15 59 [false] [])) (E::v)) w
 |0,k,f,q,en,p,Z,w,h,hk,N,hle,P9,I,hP,hQ,hq,P=>by
  have:k=kk.V.nc:=ω
  subst this;have F:=NN (Post:=Post) (w0:=w0) (A:=kk.A) (cc:=BM bM bJ f kk.V.nc) hA ng;generalize t:pM (gC bl bo kk L f kk.V.nc q en p)++(oR kk.A 2 [i6 kk.V.nc] true::(qb f kk.V.nc++(sM kk.A bl bo f kk.V.nc++M)))=MM at P;refine TP F X s N P 10 [] 4 [] [(47,ptr kk.A),(11,ptr bo),(9,ptr kk.J),(4,ptr rs)] 69 4 [] [] [(decide ((↑kk.V.nc:Int)<(↑kk.V.nc:Int)),false)] [] [] λS C S1 J zS Dx o9=>?_;subst t;exact At.assume FK λH=>K f q en p S C _ J ω rfl ⟨λj R=>by have:=I.lt j R;exact⟨ω,this.2⟩,I.inj,by have:=I.wl;exact⟨ω,ω⟩⟩ H hP hQ hq ⟨S1.env,S1.sat,rfl⟩
 |left+1,k,f,q,en,p,Z,w,h,hk,N,hle,P9,I,hP,hQ,hq,P=>by
  have F:=NN (Post:=Post) (w0:=w0) (A:=kk.A) (cc:=BM bM bJ f k) hA ng;have w:=hV.nc;have hkn:k<kk.V.nc:=ω
  let⟨Y,ZS,w⟩:=hC ω;have O:=P.get (((w.app (sM kk.A bl bo f k)).app (qb f k)).cons.app (pM (gC bl bo kk L f k q en p)));subst ZS;generalize t:pM (gC bl bo kk L f k q en p)++(oR kk.A 2 [i6 k] true::(qb f k++(sM kk.A bl bo f k++M)))=MM at O;clear P;have P:=O;clear O;have Vn:IntKind.wrap .i64 ((k:Int)+1)=(k:Int)+1:=aA ω ω;refine aX (λM=>bR (h+1) [i6 (kk.V.st k),.slice (dL k) (kk.V.nt k) (nj k)]::(bR (h) [i6 k]::(M))) 2 F X s N P 25 [0,k,0,102,1,0,0,1,0,0,0,2,1,0,0,1,0,0,0,1] 26 [] [(44,.func (Fn.func 30) #[] #[ptr bl,ptr bo,ptr h]),(43,i6 (kk.V.st k)),(41,i6 k),(40,ptr kk.A),(35,i6 k),(34,i6 kk.V.nc),(33,.slice (some Y) kk.V.nc u),(12,ptr kk.A),(11,ptr bo),(10,ptr bl),(9,ptr kk.J),(4,ptr rs)] 84 6 [] [] [(decide ((↑k:Int)<(↑kk.V.nc:Int)),true)] [((↑k:Int),kk.V.nc)] [(2,(k,kk.V.nc))] λS C S1 J zS Dx o9=>ah F s J S1 45 29 #[ptr kk.A,i6 k,i6 (kk.V.st k),.func (Fn.func 30) #[] #[ptr bl,ptr bo,ptr h]] λw V=>?_;subst t;have w:Sat (cP w0.heap.size l []) C (pM (gC bl bo kk L f k q en p)++(oR kk.A 2 [i6 k] true::(oR h 0 [i6 k] false::(qb f k++(sM kk.A bl bo f k++M))))):=by
   have C:=(S1.sat.tail).fix;have B:=Sat.BC (A:=[oR h 0 [i6 k] false]) C;refine B.perm ?_;have:=fA [oR h 0 [i6 (k:Int)] false] (pM (gC bl bo kk L f k q en p)++[oR kk.A 2 [i6 k] true]) (qb f k++(sM kk.A bl bo f k++M));simpa using this
  refine AA (s:=gC bl bo kk L f k q en p) (k:=k) (cl:=k) (bl:=bl) (bo:=bo) (bi:=h) (at':=kk.V.st k) F X w hP (((Bm f k).app ((Bn _ _ _ f k).app hM)).cons rfl) ω (by rw[jT];show q.length<1000000;omega) ω λo m g T n x A i C hi w B r mQ p p p=>?_;rw[jT]at hi;let⟨XP,p⟩:=Mr (tP:=x) (sB:=A) (T:=T) (aS:=g) (ba:=o) (bt:=n) (bw:=m) (bi:=h) hL hQ hkn hi w;rw[<-p]at r;have p:Sat (cP w0.heap.size l []) C (pM (gC bl bo kk L (f.put k T g o n m h) (k+1) (q.take i++k::q.drop i) x A)++(oR kk.A 2 [i6 ((k+1:Nat):Int)] true::(qb (f.put k T g o n m h) (k+1)++(sM kk.A bl bo (f.put k T g o n m h) (k+1)++M)))):=by
   rw[HN,JH];refine B.perm (eN (pM (gC bl bo kk L f k q x A)) (List.Perm.cons _ ?_));simp only[dU,um,List.nil_append];refine List.Perm.trans ?_ (eY (a:=dO T (.pointer none) (.slice none 0 0) false false) (l₁:=qb f k)).symm;refine List.Perm.trans (List.Perm.swap _ _ _) (List.Perm.cons _ ?_);have:=fA [oR T 0 [ptr kk.A,i6 (k:Int),i6 (k:Int),.chan (some g)] false,oR o 0 [ptr kk.A] false,oR m 0 [.func (.func 30) #[] #[ptr bl,ptr bo,ptr h]] false,oR n 0 [ptr T] false,oR h 0 [i6 (k:Int)] false] (qb f k++sM kk.A bl bo f k) M;simpa using this
  refine V _ _ _ p λl l S2 DF l=>?_;generalize t:pM (gC bl bo kk L (f.put k T g o n m h) (k+1) (q.take i++k::q.drop i) x A)++(oR kk.A 2 [i6 ((k+1:Nat):Int)] true::(qb (f.put k T g o n m h) (k+1)++(sM kk.A bl bo (f.put k T g o n m h) (k+1)++M)))=MM at S2;refine Rb F X s DF S2 7 [] 1 [] [(35,i6 (IntKind.wrap .i64 ((↑k:Int)+1))),(34,i6 kk.V.nc),(33,.slice (some Y) kk.V.nc u),(12,ptr kk.A),(11,ptr bo),(10,ptr bl),(9,ptr kk.J),(4,ptr rs)] 92 6 [] λa3 w3 S3 CJ l l mH=>?_;rw[show pc prog 15 92 (Bo 6) []=pc prog 15 59 [false] [] by kernel_rfl];rw[Vn]at S3;have l:(k:Int)+1=((k+1:Nat):Int):=ψ
  rw[l]at S3;subst t;have D:kN w3 g:=mH.obj _ _ mQ (λ_ _ _ z=>by cases z);have Yb:g<w3.heap.size:=(cU.1 D).1;have U:∀j,j<k->f.aS j<g:=λj R=>by have:=(I.lt j R).1;omega
  have l:=I.wl;refine At.assume FK λH=>At.keep (K':=K2 w0 kk.A (BM bM bJ (f.put k T g o n m h) (k+1))) (λd=>⟨H.1,⟨H.2.1.1,λc W=>?_⟩,H.2.2⟩) (Ic hV hL hA X s qh hM hC K left (k+1) (f.put k T g o n m h) (q.take i++k::q.drop i) x A a3 w3 _ ω CJ ω rfl ⟨λj R=>?_,λa d b d e=>?_,⟨ω,ω⟩⟩ ⟨r.jr,r.en,r.eo,r.fb,r.rm,zi,λ_ _=>Vs⟩ XP ?_ ⟨S3.env,S3.sat,rfl⟩)
  .show∃d,w3.heap[c]? =_;rcases ak.1 W with rfl|W
   .exact H.2.1.2 _ (bI ..)
   .rcases ak.1 W with rfl|W
    .exact H.2.1.2 _ (aP _ (bI ..))
    .obtain⟨j,R,rfl⟩:=gV.1 W;have c:=aZ.1 R;by_cases e:j=k
     .rw[e,(rO f k T g o n m h).2.1];exact⟨0,D⟩
     .rw[(LB f (by omega:j<k) T g o n m h).2.1];exact H.2.1.2 _ (aP _ (aP _ (gV.2 ⟨j,aZ.2 ω,rfl⟩)))
  .by_cases e:j=k
   .rw[e,(rO f k T g o n m h).2.1];exact⟨Yb,ω,ω⟩
   .rw[(LB f (by omega:j<k) T g o n m h).2.1];have:=I.lt j ω;exact⟨ω,this.2⟩
  .by_cases d:a=k
   .by_cases c:b=k
    .rw[d,c]
    .rw[d,(rO f k T g o n m h).2.1,(LB f (by omega:b<k) T g o n m h).2.1]at e;have:=U b ω;omega
   .by_cases c:b=k
    .rw[c,(rO f k T g o n m h).2.1,(LB f (by omega:a<k) T g o n m h).2.1]at e;have:=U a ω;omega
    .rw[(LB f (by omega:a<k) T g o n m h).2.1,(LB f (by omega:b<k) T g o n m h).2.1]at e;exact I.inj a ω b ω e
  .simp only[YA,gB,uq,Ea];omega
def At.Uc{K:cK}{a pZ Still:dm}{Mem:p8}{b:Nat->Option Seat}{h:Nat}{g:aV}(f:∀x,a x->pZ x)(e:∀x,pZ x->a x\/Sf w.heap.size x)(H:At P Post K pZ Still Mem b h n g w):At P Post K a Still Mem b h n g w:=
 λd g T q a b c C=>H d g T q a b c (R2.grow C (λ_ x=>x) (λ_ x=>.inl x) f e)
def My{α:Type}(sR vR eR A c b bo d bl a J rs:α)(T:List α):(sR::vR::eR::A::c::b::bo::d::bl::a::J::rs::T).Perm (A::eR::J::vR::sR::a::d::c::b::bo::bl::rs::T):=
 (eY (l₁:=[sR,vR,eR])).trans (.cons _ ((eY (l₁:=[sR,vR])).trans (.cons _ ((eY (l₁:=[sR,vR,c,b,bo,d,bl,a])).trans (.cons _ ((eY (l₁:=[sR])).trans (.cons _ (.cons _ ((eY (l₁:=[c,b,bo,d,bl])).trans (.cons _ ((eY (l₁:=[c,b,bo])).trans (.cons _ (.refl _)))))))))))))
abbrev Ys(A J HD O:Nat)(V:Ev0)(lb:bU)(y:eP)(u:Nat)(dL:p9)(nj:bU)(bM bJ:Nat):PK:={A:=A,J:=J,HD:=HD,O:=O,V:=V,lb:=lb,ca:=y.getD ⟨0,0,none⟩,cc:=u,dL:=dL,nj:=nj,bM:=bM,bJ:=bJ}
def OU:Bg:=⟨λ_=>0,λ_=>0,λ_=>0,λ_=>0,λ_=>0,λ_=>0⟩
def Ry:mW:=⟨0,0,0,λ_=>undef⟩
def Uj(hV:wM V)(H:yI V L)(hl:∀x∈l,x<w0.heap.size){a7:Act}{w7:aj}{b:Nat}(R:Q.kind=.normal)(qh:Q.fn=15)(CI:a7.defers=[])(s:w7.heap.size=b)(YQ:w0.heap.size<=b)(hX:Flat (X++M))(hC:0<V.nc->∃ca,y=some ca/\Has M (fR ca 2 (λj=>[i6 (V.st j),.slice (dL j) (V.nt j) (nj j)]) V.nc false))(t:St (cP w0.heap.size l []) b 53 [(11,ptr bo),(10,ptr bl),(9,ptr J),(4,ptr rs),(1,.slice y V.nc u)] (bR bo [.slice (some ⟨O,0,none⟩) V.nc V.nc]::fR ⟨O,0,none⟩ 4 (λ_=>[i6 0,i6 0,i6 0,.slice none 0 0]) V.nc true::bR bl [Yw V lb 0]::fR ⟨HD,0,none⟩ 1 (λ_=>[i6 0]) V.nc true::bR J [.slice none 0 0]::bR rs [.slice none 0 0,.slice none 0 0]::(X++M)) 0 a7 w7)(K:∀(bM bJ:Nat)(f:Bg)(q:aN)(en:ay)(U:mW)(a1:Act)(P:aj)(B1:Nat),w0.heap.size<=bM->w0.heap.size<=bJ->bM≠bJ->a1.defers=[]->b+3<=B1->P.heap.size=B1->Ss V bM bJ f V.nc P->K2 w0 (b+2) (BM bM bJ f V.nc) P->PV (cP w0.heap.size ((b+2)::l) []) (gC bl bo (Ys (b+2) J HD O V lb y u dL nj bM bJ) L f V.nc q en U) (bA (gC bl bo (Ys (b+2) J HD O V lb y u dL nj bM bJ) L f V.nc q en U))->QI (gC bl bo (Ys (b+2) J HD O V lb y u dL nj bM bJ) L f V.nc q en U)->q.length=V.nc->
 St (cP w0.heap.size ((b+2)::l) []) B1 53 [(47,ptr (b+2)),(11,ptr bo),(9,ptr J),(4,ptr rs)] (pM (gC bl bo (Ys (b+2) J HD O V lb y u dL nj bM bJ) L f V.nc q en U)++(oR (b+2) 2 [i6 V.nc] true::(qb f V.nc++(sM (b+2) bl bo f V.nc++(oR (b+2) 3 [.chan (some bM),.chan (some bJ)] false::oR bo 0 [.slice (some ⟨O,0,none⟩) V.nc V.nc] false::oR bl 0 [Yw V lb 0] false::bR rs [.slice none 0 0,.slice none 0 0]::(X++M)))))) 0 a1 P->
 nM prog Post (K2 w0 (b+2) (BM bM bJ f V.nc)) (jq ((b+2)::l)) ng (G (Q.at a1 (pc prog 15 69 [false,false] [])) (E::v)) P):
 nM prog Post (Old w0) (jq l) ng (G (Q.at a7 (pc prog 15 47 [false] [])) (E::v)) w7:=by
 refine At.Uc (pZ:=jq ((b+2)::l)) (λx h=>Ey h) (λx h=>(JE h).imp id fun⟨a,e1,e2⟩=>⟨a,e1,ω⟩) ?_;have F:=nA (P:=prog) (Post:=Post) (wI:=w0) (l:=(b+2)::l) ng;have B:∀(a:Addr)(wr:Bool),a.block<b->cP w0.heap.size l [] a wr->cP w0.heap.size ((b+2)::l) [] a wr:=λa wr hb o=>⟨fun⟨A',n,g⟩=>by
  rcases ak.1 n with rfl|n
  .rcases g with g|g<;>(cases g;simp only at hb;omega)
  .exact o.1 ⟨A',n,g⟩,o.2⟩
 have x:St (cP w0.heap.size ((b+2)::l) []) b 53 _ _ 0 a7 w7:=⟨t.env,t.sat.OB (λr Z j C o=>B _ _ (by have:=t.sat.blk Z C;rw[s]at this;exact this) o) (λr Z _ j C o=>B _ _ (by have:=t.sat.blk Z C;rw[s]at this;exact this) o),t.sz⟩;clear t;have t:=x;clear x;have hBn:∀(a:Addr)(wr:Bool),w0.heap.size<=a.block->(a.off=5\/a.off=6)\/cP w0.heap.size ((b+2)::l) [] a wr:=λa wr hb=>by
  by_cases h5:a.off=5\/a.off=6
  .exact .inl h5
  .refine .inr ⟨fun⟨A',n,g⟩=>?_,λ_=>⟨hb,fun⟨p,hp,_⟩=>by cases hp⟩⟩;rcases g with g|g
   .cases g;exact h5 (.inl rfl)
   .cases g;exact h5 (.inr rfl)
 let⟨x,Y⟩:=vP V lb 0;rw[Y]at t;refine ah F R CI t 32 28 #[] λx x=>PF F hBn t.sat ω λA I W h8 o1 o2 B B qM B B ag=>x _ _ _ (by rw[s]at h8;exact h8) λx x S8 Nn x=>?_;have hB:∀(a:Addr)(wr:Bool),b+3<=a.block->cP w0.heap.size ((b+2)::l) [] a wr:=λa wr hb=>⟨fun⟨A',n,g⟩=>by
  have x:A'<b+3:=by
   rcases ak.1 n with rfl|n
   .omega
   .have:=hl A' n;omega
  rcases g with g|g<;>(cases g;simp only at hb;omega),λ_=>⟨ω,fun⟨p,hp,_⟩=>by cases hp⟩⟩
 rw[s]at S8;refine Rb F hB R Nn S8 11 [] 1 [] [(35,i6 0),(34,i6 V.nc),(33,.slice y V.nc u),(12,ptr (b+2)),(11,ptr bo),(10,ptr bl),(9,ptr J),(4,ptr rs)] 59 2 [] λa9 N S9 QH x x T=>?_;have x:pM (gC bl bo (Ys (b+2) J HD O V lb y u dL nj A I) L OU 0 [] (.slice none 0 0) Ry)=[bR (b+2) [i6 0,.slice none 0 0],eR Ry,bR J [.slice none 0 0],vR none 5 (λj=>yt (L.ev j)) 0 0 55,sR none 5 (λ_=>[]) 0 0,fR ⟨HD,0,none⟩ 1 (λ_=>[i6 0]) V.nc true,fR ⟨O,0,none⟩ 4 (λ_=>[i6 0,i6 0,i6 0,.slice none 0 0]) V.nc true]:=by
  simp only[pM,H.now,H.el,H.us,H.ou];rfl
 have hs9:Sat (cP w0.heap.size ((b+2)::l) []) N (pM (gC bl bo (Ys (b+2) J HD O V lb y u dL nj A I) L OU 0 [] (.slice none 0 0) Ry)++(oR (b+2) 2 [i6 ((0:Nat):Int)] true::(qb OU 0++(sM (b+2) bl bo OU 0++(oR (b+2) 3 [.chan (some A),.chan (some I)] false::oR bo 0 [.slice (some ⟨O,0,none⟩) V.nc V.nc] false::oR bl 0 [Yw V lb 0] false::bR rs [.slice none 0 0,.slice none 0 0]::(X++M)))))):=by
  rw[x,Y];have l:=Sat.yg (A:=[_,_,_]) S9.sat;have x:=Sat.yg (A:=[_,_,_,_,_]) l;have l:=Sat.qj (Sat.qj (Sat.qj x (r:=eR Ry) rfl rfl) (r:=vR none 5 (λj=>yt (L.ev j)) 0 0 55) rfl rfl) (r:=sR none 5 (λ_=>[]) 0 0) rfl rfl;exact l.perm (My ..)
 have m:∀{c:Nat},kN W c->c<W.heap.size:=λh=>(cU.1 h).1;have w:∀o,o=5\/o=6->N.cell? ⟨b+2,o,none⟩=W.cell? ⟨b+2,o,none⟩/\N.frozen? ⟨b+2,o,none⟩=W.frozen? ⟨b+2,o,none⟩:=λo h=>T.cell _ (by show b+2<W.heap.size;omega) (fun⟨i,r,j,n,g,h3,h4⟩=>by
  have:=((S8.sat.ok i r n j h3).2 g).1.1;rw[h4]at this;exact this ⟨b+2,bI ..,by rcases h with rfl|rfl;exact .inl rfl;exact .inr rfl⟩)
 rw[s]at ag;have ag5:=ag.a5;have ag6:=ag.a6;refine At.assume gN λh=>At.keep (K':=K2 w0 (b+2) (BM A I OU 0)) (λd=>⟨h,⟨λp hp=>(by cases hp),λc hc=>?_⟩,⟨?_,?_⟩,⟨?_,?_⟩⟩) (Ic (kk:=Ys (b+2) J HD O V lb y u dL nj A I) hV H (bI ..) hB R qh (M:=oR (b+2) 3 [.chan (some A),.chan (some I)] false::oR bo 0 [.slice (some ⟨O,0,none⟩) V.nc V.nc] false::oR bl 0 [Yw V lb 0] false::bR rs [.slice none 0 0,.slice none 0 0]::(X++M)) ((((hX.cons rfl).cons rfl).cons rfl).cons rfl) (dL:=dL) (nj:=nj) (λz=>?_) ?_ V.nc 0 OU [] (.slice none 0 0) Ry a9 N _ rfl QH ω rfl ⟨λj C=>ω,λi D=>ω,?_⟩ ?_ ?_ rfl ⟨S9.env,hs9,rfl⟩)
 .show∃b,N.heap[c]? =_;have q1:kN N A:=T.obj _ _ o1 (λ_ _ _ z=>by cases z);have q2:kN N I:=T.obj _ _ o2 (λ_ _ _ z=>by cases z);simp only[BM,List.range_zero,uf,ak,bH,or_false]at hc;rcases hc with rfl|rfl
  .exact⟨0,q1⟩
  .exact⟨0,q2⟩
 .exact(w 5 (.inl rfl)).1.trans ag5
 .exact(w 5 (.inl rfl)).2.trans (ag.z 5)
 .exact(w 6 (.inr rfl)).1.trans ag6
 .exact(w 6 (.inr rfl)).2.trans (ag.z 6)
 .let⟨ca,e1,e2⟩:=hC z;exact⟨ca,e1,(e2.app X).cons.cons.cons.cons⟩
 .intro f q en U a1 P B1 n g h3 h4 h5 c b h8 S;exact K A I f q en U a1 P B1 ω ω qM n g h3 h4 h5 c b h8 S
 .exact⟨by have:=m o1;omega,by have:=m o2;omega⟩
 .refine⟨⟨.inl ⟨rfl,H.el,rfl⟩,?_,gl _,λa ha=>(by cases ha)⟩,⟨λe he=>(by cases he),.inl ⟨rfl,rfl,rfl⟩⟩,λz=>(by cases z),λk _ _=>by show qv _ (L.gt k).la jC;rw[H.gt];exact Zj,λk _ _=>⟨λ_=>⟨rfl,rfl,rfl⟩,λz=>(by cases z),λz=>(by cases z),λj C=>(by cases C)⟩,λr Z=>(by cases Z),λj C=>absurd C (uk _)⟩;show L.el<=0;rw[H.el];exact az _
 .exact⟨λi D=>(by cases D),λi D=>absurd D (uk _),List.Pairwise.nil,λi D=>(by cases D),λi D=>(by cases D)⟩
abbrev Kk(w0:aj)(l:aN)(kk:PK)(f:Bg)(cR:aC)(lT:cO)(X M:aW)(rs bl bo:Nat)(Lf:LS->Prop):RN:=
 {wI:=w0,l:=kk.A::l,k:=kk,cR:=cR,lT:=lT,S:=sM kk.A bl bo f kk.V.nc++(oR kk.A 3 [.chan (some kk.bM),.chan (some kk.bJ)] false::oR bo 0 [.slice (some ⟨kk.O,0,none⟩) kk.V.nc kk.V.nc] false::oR bl 0 [Yw kk.V kk.lb 0] false::(X++M)),W:=[bR rs [.slice none 0 0,.slice none 0 0]],Lf:=Lf,n:=9990,bi:=f.bi,bl:=bl,bo:=bo}
structure InR(V:Ev0)(y:eP)(dL:p9)(nj:bU)(M:aW):Prop where
 ro:∀r∈M,r.wr=false
 fl:Flat M
 OT:0<V.nc->∃ca,y=some ca/\Has M (fR ca 2 (λj=>[i6 (V.st j),.slice (dL j) (V.nt j) (nj j)]) V.nc false)
 trn:∀c,c<V.nc->0<V.nt c->∃ta,dL c=some ta/\Has M (fR ta 3 (λj=>s9 (V.tr c j)) (V.nt c) false)
 err:Has M (oR 0 0 [.iface 233 (.agg #[.pointer (some ⟨1,136,none⟩)])] false)
def NA{f:Bg}(c:j<k)(a:r∈HQ A bl bo f j):Has (sM A bl bo f k) r:=by
 have b:r∈sM A bl bo f k:=mL.2 ⟨j,aZ.2 c,a⟩;let⟨i,c⟩:=lP b;refine⟨?_,i,c⟩;simp only[HQ,ak,bH,or_false]at a;rcases a with rfl|rfl|rfl|rfl|rfl<;>rfl
def RD(B:wM V)(w:∀x∈l,x<w0.heap.size){f:Bg}{cR:aC}{lT:cO}{s:aj}(C:w0.heap.size<=A)(t:w0.heap.size<=bM)(z:w0.heap.size<=bJ)(i:bM≠bJ)(D:Ss V bM bJ f V.nc s)(g:InR V y dL nj M)(q:Flat X)(p:∀r∈X,r.wr=false)(e:tV V lb J 0 (X++M))(o:Has X (tQ (lb V.nl) .nilIface (-1) J))(n:Has X (oR (lb V.nl) 3 [.slice y V.nc u,.slice (some ⟨HD,0,none⟩) V.nc V.nc] false)):
 tZ (Kk w0 l (Ys A J HD O V lb y u dL nj bM bJ) f cR lT X M rs bl bo Lf):=by
 have up:∀{r},Has (X++M) r->Has (Kk w0 l (Ys A J HD O V lb y u dL nj bM bJ) f cR lT X M rs bl bo Lf).S r:=λh=>h.cons.cons.cons.app _;have h:∀{j r},j<V.nc->r∈HQ A bl bo f j->Has (Kk w0 l (Ys A J HD O V lb y u dL nj bM bJ) f cR lT X M rs bl bo Lf).S r:=λb a=>(NA b a).pre _;refine⟨B,rfl,bI ..,λx d=>?_,C,t,z,i,λv=>?_,?_,?_,?_,?_,λj b=>h b (by simp[HQ]),?_,?_⟩
 .rcases ak.1 d with rfl|d
  .exact az _
  .have:=w x d;show x<=A;omega
 .let⟨d,m,k⟩:=g.OT v;subst m;exact⟨λj b=>up (e.lay j (gl _) b),λj b d=>up (e.Ig j (gl _) b d),λj b d=>up (e.Mi j (gl _) b d),λj b d=>up (e.Lh j (gl _) b d),λj b d=>up (e.Kj j (gl _) b d),λj b d=>up (e.Tn j (gl _) b d),up (o.pre _),up (n.pre _),up (k.app _),λc e d=>by
   let⟨b,i,h⟩:=g.trn c e d;exact⟨b,i,up (h.app _)⟩,up (g.err.app _)⟩
 .exact(Bn _ _ _ f _).app ((((q.app g.fl).cons rfl).cons rfl).cons rfl)
 .exact Flat.nil.cons rfl
 .intro r a;rcases dJ.1 a with a|a
  .let⟨j,_,a⟩:=mL.1 a;simp only[HQ,ak,bH,or_false]at a;rcases a with rfl|rfl|rfl|rfl|rfl<;>rfl
  .rcases ak.1 a with rfl|a
   .rfl
   .rcases ak.1 a with rfl|a
    .rfl
    .rcases ak.1 a with rfl|a
     .rfl
     .rcases dJ.1 a with a|a
      .exact p r a
      .exact g.ro r a
 .exact Has.app (C:=_::_) ⟨rfl,0,rfl⟩ _
 .exact Has.app (C:=_::_::_) ⟨rfl,1,rfl⟩ _
 .exact Has.app (C:=_::_::_::_) ⟨rfl,2,rfl⟩ _
def Sat.zn(h:Sat (cP N l []) w M)(b:∀p∈st,∃r∈M,r.wr=false/\∃j,r.has j/\r.ad j=p.1):Sat (cP N l st) w M:=by
 refine h.OB (λr _ j _ o=>⟨o.1,λz=>by cases z⟩) (λr d a j f o=>⟨o.1,λ_=>⟨(o.2 rfl).1,fun⟨p,c,e⟩=>?_⟩⟩);let⟨_,k,j,_,i,g⟩:=b p c;simp only[Loc.cell.injEq]at e;exact h.dj d k a j f i (by rw[e,g])
def PV.zn{s:PS}{es:jl}(P:PV (cP N l []) s es)(h:s.ea=none)(f:∀k,(s.f k).s=false)(m:∀j,(s.bf j).s=false)(r:s.eb.c=1->∀p∈st,p.1.block≠s.eb.E):PV (cP N l st) s es:=by
 refine⟨⟨P.jr.row,P.jr.le,P.jr.mx,λa q=>?_⟩,P.en,λi=>⟨(P.eo i).1,λa wr n=>?_⟩,λk d c=>⟨(P.fb k d c).nil,(P.fb k d c).len,λz=>(by rw[f]at z;cases z),(P.fb k d c).val⟩,λk d b=>⟨(P.rm k d b).nil,(P.rm k d b).len,λz=>(by rw[f]at z;cases z),(P.rm k d b).val⟩,P.cx,λj g=>⟨(P.bg j g).nil,(P.bg j g).len,λz=>(by rw[m]at z;cases z),(P.bg j g).val⟩⟩
 .rw[h]at q;cases q
 .have o:=(P.eo i).2 a wr n;refine⟨o.1,λz=>⟨(o.2 z).1,fun⟨p,a,e⟩=>?_⟩⟩;simp only[Loc.cell.injEq]at e;exact r i p a (by rw[<-e];exact n)
def tA(A:Nat)(f:Bg)(k:Nat):List aH:=(List.range k).flatMap λj=>[dO (f.T j) (.pointer none) (.slice none 0 0) false false,fR ⟨jC.g,jC.o,none⟩ 1 jC.v (rK jC) true,wF (f.T j) A j j (f.aS j)]
def Uf{Ok:dh}{w:aj}{A:Nat}{f:Bg}{Y:aW}:∀k,(∀j,j<k->wF (f.T j) A j j (f.aS j)∈Y)->∀Z,Sat Ok w (qb f k++(Z++Y))->Sat Ok w (tA A f k++(Z++Y))
 |0,_,Z,h=>h
 |k+1,b,Z,h=>by
  unfold qb at h;unfold tA;rw[rj,yZ]at h ⊢;simp only[DN,List.flatMap_nil,List.append_nil]at h ⊢;rw[dU]at h ⊢;have e:=Uf k (λj g=>b j ω) ([dO (f.T k) (.pointer none) (.slice none 0 0) false false]++Z) (by rw[dU];exact h);have d:=e.Rz (Z:=[wF (f.T k) A k k (f.aS k)]) λr a=>by
   simp only[ak,bH,or_false]at a;subst a;exact⟨gF _ (gF _ (b k ω)),rfl⟩
  have b:=Sat.qj d (r:=fR ⟨jC.g,jC.o,none⟩ 1 jC.v (rK jC) true) rfl rfl;refine b.perm ?_;have c:=fA [fR ⟨jC.g,jC.o,none⟩ 1 jC.v (rK jC) true,wF (f.T k) A k k (f.aS k)] (tA A f k++[dO (f.T k) (.pointer none) (.slice none 0 0) false false]) (Z++Y);unfold tA at c ⊢;simpa using c
def Vg(b:yI V L){f:Bg}{a:mW}:tS (gC bl bo (Ys A J HD O V lb y u dL nj bM bJ) L f V.nc q en a)=tA A f V.nc:=by
 unfold tS tA;refine zD _ _ V.nc λj a=>?_;have h:=b.tk j a;unfold j7;show[dO (f.T j) (j9 _ (L.tk j).o) (su jC 0) (L.tk j).x (L.tk j).e,_,wF (f.T j) A j (L.tk j).c (f.aS j)]=_;rw[h.1,h.2.2.1,h.2.2.2.1,h.2.2.2.2];rfl
def VZ(a:yI V L){f:Bg}{b:mW}:gS (gC bl bo (Ys A J HD O V lb y u dL nj bM bJ) L f V.nc q en b)=gT V lb 0++(oR A 2 [i6 V.nc] true::(tA A f V.nc++T3 A bl bo f V.nc)):=by
 unfold gS xS;rw[Vg a];unfold gA wS gT;rw[List.range_eq_range',Al,show(gC bl bo (Ys A J HD O V lb y u dL nj bM bJ) L f V.nc q en b).l.wl=0 from a.wl];simp only[a.gt];rfl
def Sk(C T P G Y:aW)(a:aH):(C++(T++((P++(G++[a]))++Y))).Perm (P++((G++(a::(T++C)))++Y)):=by
 have c:=fA C T ((P++(G++[a]))++Y);have b:=fA (T++C) (P++(G++[a])) Y;rw[dU]at b;have a:=c.trans b;simpa using a
def Po(hV:wM V)(hL:yI V L)(hf:Fin V Lf m none L)(U8:0<ng)(hl:∀x∈l,x<w0.heap.size){f:Bg}{a1:Act}{T:aj}{B1:Nat}{c:mW}(QX:Q.kind=.normal)(qh:Q.fn=15)(hA:w0.heap.size<=A)(x:A<B1)(hw:w0.heap.size<=bM)(he:w0.heap.size<=bJ)(x:bM≠bJ)(Nt:a1.defers=[])(zS:T.heap.size=B1)(hI:Ss V bM bJ f V.nc T)(hM:InR V y dL nj M)(hXf:Flat X)(hXr:∀r∈X,r.wr=false)(hS:tV V lb J 0 (X++M))(Hj:Has X (tQ (lb V.nl) .nilIface (-1) J))(Bl:Has X (oR (lb V.nl) 3 [.slice y V.nc u,.slice (some ⟨HD,0,none⟩) V.nc V.nc] false))(hK:K2 w0 A (BM bM bJ f V.nc) T)(hP:PV (cP w0.heap.size (A::l) []) (gC bl bo (Ys A J HD O V lb y u dL nj bM bJ) L f V.nc q en c) (bA (gC bl bo (Ys A J HD O V lb y u dL nj bM bJ) L f V.nc q en c)))(hQ:QI (gC bl bo (Ys A J HD O V lb y u dL nj bM bJ) L f V.nc q en c))(hq:q.length=V.nc)(S1:St (cP w0.heap.size (A::l) []) B1 53 [(47,ptr A),(11,ptr bo),(9,ptr J),(4,ptr rs)] (pM (gC bl bo (Ys A J HD O V lb y u dL nj bM bJ) L f V.nc q en c)++(oR A 2 [i6 V.nc] true::(qb f V.nc++(sM A bl bo f V.nc++(oR A 3 [.chan (some bM),.chan (some bJ)] false::oR bo 0 [.slice (some ⟨O,0,none⟩) V.nc V.nc] false::oR bl 0 [Yw V lb 0] false::bR rs [.slice none 0 0,.slice none 0 0]::(gT V lb 0++(X++M))))))) 0 a1 T)(K:∀(Z:aC)(S:Nat)(s:PS)(Y:aW)(I:aj),0<S->s.k=(Kk w0 l (Ys A J HD O V lb y u dL nj bM bJ) f Z (E::v) X M rs bl bo Lf).k->Lf s.l->Old w0 I->Sat (cP w0.heap.size (A::l) []) I (bR rs [.slice (some ⟨O,0,none⟩) V.nc V.nc,.slice s.ea s.l.el s.ec]::(pM s++(Y++(Kk w0 l (Ys A J HD O V lb y u dL nj bM bJ) f Z (E::v) X M rs bl bo Lf).S)))->PV (cP w0.heap.size (A::l) []) s (bA s)->(∀j,j<V.nc->fu (Y++(Kk w0 l (Ys A J HD O V lb y u dL nj bM bJ) f Z (E::v) X M rs bl bo Lf).S) (s.oh j) (s.l.ou j).b.ch)->
 nM prog Post (Old w0) (jq (A::l)) S (G (E.finish (.tuple #[.agg #[.slice (some ⟨O,0,none⟩) V.nc V.nc,.slice s.ea s.l.el s.ec],i6 0,i6 0])) v) I):
 nM prog Post (K2 w0 A (BM bM bJ f V.nc)) (jq (A::l)) ng (G (Q.at a1 (pc prog 15 69 [false,false] [])) (E::v)) T:=by
 have F:=NN (Post:=Post) (w0:=w0) (A:=A) (cc:=BM bM bJ f V.nc) (l:=A::l) (bI ..) ng;refine Af F QX 48 32 #[ptr A] ρ ρ δ S1 λZ hcR=>At.keep (K':=Old w0) (λd=>hK.1) ?_;have H:=RD (cR:=Z) (lT:=E::v) (rs:=rs) (bl:=bl) (bo:=bo) (Lf:=Lf) (O:=O) hV hl hA hw he x hI hM hXf hXr hS Hj Bl;have ZJ:Sat (cP w0.heap.size (A::l) []) T (pM (gC bl bo (Ys A J HD O V lb y u dL nj bM bJ) L f V.nc q en c)++(gS (gC bl bo (Ys A J HD O V lb y u dL nj bM bJ) L f V.nc q en c)++([bR rs [.slice none 0 0,.slice none 0 0]]++(Kk w0 l (Ys A J HD O V lb y u dL nj bM bJ) f Z (E::v) X M rs bl bo Lf).S))):=by
  rw[show gS (gC bl bo (Ys A J HD O V lb y u dL nj bM bJ) L f V.nc q en c)=_ from VZ hL];have bgm:∀{j r},j<V.nc->r∈HQ A bl bo f j->r∈[bR rs [.slice none 0 0,.slice none 0 0]]++(Kk w0 l (Ys A J HD O V lb y u dL nj bM bJ) f Z (E::v) X M rs bl bo Lf).S:=λn hr=>gF _ (gU _ (mL.2 ⟨_,aZ.2 n,hr⟩));generalize hPP:pM (gC bl bo (Ys A J HD O V lb y u dL nj bM bJ) L f V.nc q en c)=PP at S1 ⊢;have h0:Sat (cP w0.heap.size (A::l) []) T (qb f V.nc++((PP++(gT V lb 0++[oR A 2 [i6 V.nc] true]))++([bR rs [.slice none 0 0,.slice none 0 0]]++(sM A bl bo f V.nc++(oR A 3 [.chan (some bM),.chan (some bJ)] false::oR bo 0 [.slice (some ⟨O,0,none⟩) V.nc V.nc] false::oR bl 0 [Yw V lb 0] false::(X++M)))))):=by
   refine S1.sat.perm ?_;have p1:=fA (PP++[oR A 2 [i6 V.nc] true]) (qb f V.nc) (sM A bl bo f V.nc++(oR A 3 [.chan (some bM),.chan (some bJ)] false::oR bo 0 [.slice (some ⟨O,0,none⟩) V.nc V.nc] false::oR bl 0 [Yw V lb 0] false::bR rs [.slice none 0 0,.slice none 0 0]::(gT V lb 0++(X++M))));have G:=fA (sM A bl bo f V.nc++[oR A 3 [.chan (some bM),.chan (some bJ)] false,oR bo 0 [.slice (some ⟨O,0,none⟩) V.nc V.nc] false,oR bl 0 [Yw V lb 0] false]) (bR rs [.slice none 0 0,.slice none 0 0]::gT V lb 0) (X++M);have x:=fA [oR A 2 [i6 V.nc] true,bR rs [.slice none 0 0,.slice none 0 0]] (gT V lb 0) (sM A bl bo f V.nc++(oR A 3 [.chan (some bM),.chan (some bJ)] false::oR bo 0 [.slice (some ⟨O,0,none⟩) V.nc V.nc] false::oR bl 0 [Yw V lb 0] false::(X++M)));have d:(PP++(oR A 2 [i6 V.nc] true::(qb f V.nc++(sM A bl bo f V.nc++(oR A 3 [.chan (some bM),.chan (some bJ)] false::oR bo 0 [.slice (some ⟨O,0,none⟩) V.nc V.nc] false::oR bl 0 [Yw V lb 0] false::bR rs [.slice none 0 0,.slice none 0 0]::(gT V lb 0++(X++M))))))).Perm (qb f V.nc++(PP++(oR A 2 [i6 V.nc] true::(sM A bl bo f V.nc++(oR A 3 [.chan (some bM),.chan (some bJ)] false::oR bo 0 [.slice (some ⟨O,0,none⟩) V.nc V.nc] false::oR bl 0 [Yw V lb 0] false::bR rs [.slice none 0 0,.slice none 0 0]::(gT V lb 0++(X++M))))))):=by simpa using p1
   refine d.trans (eN _ ?_);rw[dU];refine eN _ ?_;have d:(oR A 2 [i6 V.nc] true::(sM A bl bo f V.nc++(oR A 3 [.chan (some bM),.chan (some bJ)] false::oR bo 0 [.slice (some ⟨O,0,none⟩) V.nc V.nc] false::oR bl 0 [Yw V lb 0] false::bR rs [.slice none 0 0,.slice none 0 0]::(gT V lb 0++(X++M))))).Perm (oR A 2 [i6 V.nc] true::bR rs [.slice none 0 0,.slice none 0 0]::(gT V lb 0++(sM A bl bo f V.nc++(oR A 3 [.chan (some bM),.chan (some bJ)] false::oR bo 0 [.slice (some ⟨O,0,none⟩) V.nc V.nc] false::oR bl 0 [Yw V lb 0] false::(X++M))))):=List.Perm.cons _ (by simpa using G);refine d.trans ?_;simpa using x
  have N:=Uf (A:=A) V.nc (λj n=>bgm n (by simp[HQ])) _ h0;have P:=N.Rz (Z:=T3 A bl bo f V.nc) λr hr=>by
   refine⟨gF _ (gF _ ?_),(zi r hr).1⟩;let⟨j,n,hr⟩:=mL.1 hr;refine bgm (aZ.1 n) ?_;simp only[ak,bH,or_false]at hr;rcases hr with rfl|rfl|rfl<;>simp[HQ,ZE]
  exact P.perm (Sk ..)
 generalize B:Kk w0 l (Ys A J HD O V lb y u dL nj bM bJ) f Z (E::v) X M rs bl bo Lf=R at*;have eA:R.k.A=A:=by rw[<-B]
 have eI:R.wI=w0:=by rw[<-B]
 have el:R.l=A::l:=by rw[<-B]
 have eV:R.k.V=V:=by rw[<-B]
 have ew:R.k.bM=bM:=by rw[<-B]
 have ee:R.k.bJ=bJ:=by rw[<-B]
 have eL:R.Lf=Lf:=by rw[<-B]
 have Wa:dD R (yc R (gC bl bo (Ys A J HD O V lb y u dL nj bM bJ) L f V.nc q en c) ng) (gC bl bo (Ys A J HD O V lb y u dL nj bM bJ) L f V.nc q en c)=gS (gC bl bo (Ys A J HD O V lb y u dL nj bM bJ) L f V.nc q en c)++([bR rs [.slice none 0 0,.slice none 0 0]]++R.S):=by rw[<-B];rfl
 have W:∀j,j<V.nc->Has R.S (wF (f.T j) A j j (f.aS j)):=λj n=>by rw[<-B];exact(NA n (by simp[HQ])).pre _
 have hmS:∀{r},Has R.S r->Has (pM (gC bl bo (Ys A J HD O V lb y u dL nj bM bJ) L f V.nc q en c)++(gS (gC bl bo (Ys A J HD O V lb y u dL nj bM bJ) L f V.nc q en c)++([bR rs [.slice none 0 0,.slice none 0 0]]++R.S))) r:=λh=>((h.app _).app _).app _;let⟨_,d,ZB⟩:=hmS H.ch;have Qi:∀p∈Oz R (gC bl bo (Ys A J HD O V lb y u dL nj bM bJ) L f V.nc q en c),∃r∈pM (gC bl bo (Ys A J HD O V lb y u dL nj bM bJ) L f V.nc q en c)++(gS (gC bl bo (Ys A J HD O V lb y u dL nj bM bJ) L f V.nc q en c)++([bR rs [.slice none 0 0,.slice none 0 0]]++R.S)),r.wr=false/\∃j,r.has j/\r.ad j=p.1/\r.get j=p.2:=λp C=>by
  rcases dJ.1 C with C|C
  .simp only[qd,ak,bH,or_false]at C;rcases C with rfl|rfl
   .exact⟨_,gO ZB,rfl,(0,0),⟨aD,(by decide:0<2)⟩,rfl,rfl⟩
   .exact⟨_,gO ZB,rfl,(0,1),⟨aD,(by decide:1<2)⟩,rfl,rfl⟩
  .obtain⟨qq,hqq,rfl⟩:=gV.1 C;obtain⟨j,n,rfl⟩:=gV.1 hqq;have d:j<V.nc:=aZ.1 n;let⟨_,i,U⟩:=hmS (W j d);exact⟨_,gO U,rfl,(0,3),⟨aD,(by decide:3<4)⟩,rfl,rfl⟩
 have d:Flat (gS (gC bl bo (Ys A J HD O V lb y u dL nj bM bJ) L f V.nc q en c)++([bR rs [.slice none 0 0,.slice none 0 0]]++R.S)):=Flat.app (bO.2 (r9 _ λr hr=>(zi r hr).2)) ((Flat.nil.cons rfl).app H.fl);have hTb:∀j,j<V.nc->f.T j<T.heap.size:=λj n=>au (Has.sat ZJ (hmS (W j n)));have hTE:∀j,j<V.nc->c.c=1->f.T j≠c.E:=λj n hc=>by
  let⟨_,i,U⟩:=hmS (W j n);refine l9 (b:=f.T j) ZJ hP d U (λz=>by subst z;have h9:=cT (λo=>o.map aH.wr) U;cases h9) (λz=>by subst z;have h9:=cT (λo=>o.map aH.wr) U;cases h9) (j0:=(0,0)) ⟨aD,(by decide:0<4)⟩ rfl (eR c) (gU _ (by simp[pM])) c.E 143 c.n ?_;show(match c.c with|0=>none|_+1=>some (c.E,143,c.n))=_;rw[hc]
 have hl0:({L with al:=V.nc,tl:=V.nc}:LS)=L:=by
  have N:=hL.al;have P:=hL.tl;cases L;simp only at N P;subst N;rw[P]
 have c0:Co R (yc R (gC bl bo (Ys A J HD O V lb y u dL nj bM bJ) L f V.nc q en c) ng) (gC bl bo (Ys A J HD O V lb y u dL nj bM bJ) L f V.nc q en c) T.heap.size:=by
  have d:=hV.nc;refine Wh H (by rw[<-B]) U8 (by rw[eI];omega) (by rw[eA];omega) (by rw[ew,ee];exact hI.wl) hTb (λj n=>?_) (λi j U n e=>hI.inj i U j n e) (by rw[H.hn];show V.nc<=_;omega) (λj n=>by rw[<-B];rfl) (λi U=>?_) (λi U=>(hQ.lt i U).1) (λt d=>?_) ?_ hL.wl
  .have:=hI.lt j n;rw[eI,ew,ee];exact⟨by show _<=f.aS j;omega,this.1,by show f.aS j≠_;omega,by show f.aS j≠_;omega⟩
  .have KG:i<V.nc:=(hQ.lt i U).1;have:=hL.ag i KG;exact⟨i,KG,this.2.1,this.2.2.1⟩
  .have:=hL.ag t d;exact⟨t,hQ.all t d this.2.2.2,this.2.1⟩
  .have d:q.Pairwise (fQ L.ag):=hQ.pN;refine LK (fun{a b} o hb h=>?_) d;have N:=(hL.ag a (hQ.lt a o).1).2.1;have P:=(hL.ag b (hQ.lt b hb).1).2.1;show(L.ag a).t≠(L.ag b).t;rw[N,P];intro e;have:a=b:=ω
   subst this;exact nE h h
 have hKD:KD R.wI R.k.A (cD R (yc R (gC bl bo (Ys A J HD O V lb y u dL nj bM bJ) L f V.nc q en c) ng)) (Oz R (gC bl bo (Ys A J HD O V lb y u dL nj bM bJ) L f V.nc q en c)) T:=by
  refine⟨by rw[eI];exact hK.1,⟨λp C=>?_,?_⟩,⟨_,by rw[eA];exact hK.2.2.1.1⟩,by rw[eA];exact hK.2.2.1.2,⟨_,by rw[eA];exact hK.2.2.2.1⟩⟩
  .let⟨r,N,_,j,d,b,e⟩:=Qi p C;rw[<-b,<-e];exact(ZJ.mem N).val j d
  .have:cD R (yc R (gC bl bo (Ys A J HD O V lb y u dL nj bM bJ) L f V.nc q en c) ng)=BM bM bJ f V.nc:=by
    show R.k.bM::R.k.bJ::((List.range V.nc).map λj=>(f.T j,f.aS j)).map Prod.snd=_;rw[List.map_map,ew,ee];rfl
   rw[this];exact hK.2.1.2
 have hSg:Sat (jO R (yc R (gC bl bo (Ys A J HD O V lb y u dL nj bM bJ) L f V.nc q en c) ng)) T (pM (gC bl bo (Ys A J HD O V lb y u dL nj bM bJ) L f V.nc q en c)++dD R (yc R (gC bl bo (Ys A J HD O V lb y u dL nj bM bJ) L f V.nc q en c) ng) (gC bl bo (Ys A J HD O V lb y u dL nj bM bJ) L f V.nc q en c)):=by
  rw[Wa];show Sat (cP R.wI.heap.size R.l (Oz R (gC bl bo (Ys A J HD O V lb y u dL nj bM bJ) L f V.nc q en c))) _ _;rw[eI,el];exact ZJ.zn λp C=>by let⟨r,N,P,j,d,b,_⟩:=Qi p C;exact⟨r,N,P,j,d,b⟩
 have hPg:PV (jO R (yc R (gC bl bo (Ys A J HD O V lb y u dL nj bM bJ) L f V.nc q en c) ng)) (gC bl bo (Ys A J HD O V lb y u dL nj bM bJ) L f V.nc q en c) (bA (gC bl bo (Ys A J HD O V lb y u dL nj bM bJ) L f V.nc q en c)):=by
  show PV (cP R.wI.heap.size R.l (Oz R (gC bl bo (Ys A J HD O V lb y u dL nj bM bJ) L f V.nc q en c))) _ _;rw[eI,el];refine hP.zn rfl (λ_=>rfl) (λ_=>rfl) λhc p C=>?_;have b:A<c.E:=(hP.eo hc).1;rcases dJ.1 C with C|C
  .simp only[qd,ak,bH,or_false]at C;rcases C with rfl|rfl
   .show R.k.A≠c.E;rw[eA];omega
   .show R.k.A≠c.E;rw[eA];omega
  .obtain⟨qq,hqq,rfl⟩:=gV.1 C;obtain⟨j,n,rfl⟩:=gV.1 hqq;exact hTE j (aZ.1 n) hc
 have VT:Rm R Post:=by
  intro S s b I U7 D;let⟨Y,hY⟩:=D.dW;have eW:R.W=[bR rs [.slice none 0 0,.slice none 0 0]]:=by rw[<-B]
  have e1:R.cR=Z:=by rw[<-B]
  have e2:R.lT=E::v:=by rw[<-B]
  have VU:=D.sat;have XW:=D.pv;have XX:=D.old;rw[hY,eW]at VU;rw[eI,el]at VU XW ⊢;rw[eI]at XX;rw[e1,e2];have b:Sat (cP w0.heap.size (A::l) []) I (bR rs [.slice none 0 0,.slice none 0 0]::(pM s++(Y++R.S))):=VU.perm (by
   have:=(fA [bR rs [.slice none 0 0,.slice none 0 0]] (pM s++Y) R.S).symm;simpa using this)
  have c:R.bo=bo:=by rw[<-B]
  have d:R.k.O=O:=by rw[<-B]
  have e:s.k.J=J:=by rw[D.hk,<-B]
  have Ja:=H.Ja;rw[c,d,eV]at Ja;have c:=b.get ((Ja.app Y).app (pM s)).cons;refine hcR (λg w=>nM prog Post (Old w0) (jq (A::l)) S g w) (.tuple #[]) I λd b DF=>?_;have S2:St (cP w0.heap.size (A::l) []) I.heap.size 53 _ _ 0 d I:=⟨b,c,rfl⟩;rw[<-e]at S2;have b:d.defers=[]:=DF.trans Nt;clear DF;have DF:=b;have F:=nA (P:=prog) (Post:=Post) (wI:=w0) (l:=A::l) S;have hDA:=D.AB;rw[eA]at hDA;have b:=XX.2.2.2.1;generalize hB2:I.heap.size=B2 at*;have hB:∀(a:Addr)(wr:Bool),B2<=a.block->cP w0.heap.size (A::l) [] a wr:=λa wr hb=>⟨fun⟨A',N,P⟩=>by
   have a:A'<B2:=by
    rcases ak.1 N with rfl|N
    .omega
    .have:=hl A' N;omega
   rcases P with P|P<;>(cases P;simp only at hb;omega),λ_=>⟨ω,fun⟨p,C,_⟩=>by cases C⟩⟩
  refine aq (λM=>bh 1 (0,1) (.slice s.ea s.l.el s.ec) (bh 1 (0,0) (.slice (some ⟨O,0,none⟩) V.nc V.nc) (M))) 0 F hB QX DF S2 11 [0,0,0,1,4,0,0,1,1,0,0,2] 1 [] [(6,i6 0),(5,i6 0),(4,ptr rs)] 81 4 [] λa c b a d d d=>cC F b QX qh a [1,0,0,2] (.tuple #[.agg #[.slice (some ⟨O,0,none⟩) V.nc V.nc,.slice s.ea s.l.el s.ec],i6 0,i6 0]) ?_;refine At.assume gN λa=>K Z S s Y c U7 (by rw[D.hk,<-B]) (by rw[<-eL];exact D.l) a ?_ XW (λj n=>?_)
  .rw[B];exact b.sat.tail
  .have hc:=D.ch j (by rw[eV];exact n);rw[B];rcases hc with hc|⟨ca,cap',i,N,P⟩
   .exact .inl hc
   .have hm:gQ ca (s.l.ou j).b.ch∈Y++R.S:=by
     have:=gO P;rw[hY,eW]at this;simp only[dU,dJ,ak,bH,or_false]at this;rcases this with z|z|z
     .exact gU _ z
     .have h9:=cT aH.wr z;cases h9
     .exact gF _ z
    let⟨a,KG⟩:=lP hm;exact .inr ⟨ca,cap',a,N,KG⟩
 have:=GZ (m:=m) H VT hKD (by rw[eA];exact hK.2.2.2) (by rw[eA];exact hK.2.2.1) c0 hSg hPg hQ (Z9 hL) (λk _ _=>⟨List.Pairwise.nil,λw hw=>(by cases hw),λw hw=>(by have N:w<L.wl:=hw;rw[hL.wl]at N;cases N)⟩) (by rw[eV,eL];show Fin V Lf m none ({L with al:=V.nc,tl:=V.nc}:LS);rw[hl0];exact hf);rw[eI,el,eA]at this;have e1:R.cR=Z:=by rw[<-B]
 have e2:R.lT=E::v:=by rw[<-B]
 rw[e1,e2]at this;exact this
def mq:Has C r↔r.wr=false/\r∈C:=⟨fun⟨b,i,a⟩=>⟨b,gO a⟩,fun⟨b,a⟩=>⟨b,lP a⟩⟩
def Pm(B:wM V)(N:yI V L)(R:Fin V Lf m none L)(o:0<ng)(t:∀x∈l,x<w0.heap.size)(D:InR V y dL nj M)(g:0<V.nl->∃m,sL=some m/\Has M (fR m 6 (λi=>EV (V.ly i)) V.nl false))(w:Sat (cP w0.heap.size l []) w0 M)(e:O3 (cP w0.heap.size l []) (nM prog Post (Old w0) (jq l) ng) w0.heap.size M 14 #[.slice sL V.nl U,.slice y V.nc u] (.tuple #[i6 0,i6 0]))(K:∀(c A:Nat)(s:PS)(C:aW)(I:aj),0<c->w0.heap.size<=A->A<I.heap.size->Lf s.l->s.k.V=V->Old w0 I->Sat (cP w0.heap.size (A::l) []) I (pM s++C)->PV (cP w0.heap.size (A::l) []) s (bA s)->(∀r,Has M r->Has C r)->(∀j,j<V.nc->fu C (s.oh j) (s.l.ou j).b.ch)->
 nM prog Post (Old w0) (jq (A::l)) c (G (E.finish (.tuple #[.agg #[.slice (some ⟨s.k.O,0,none⟩) V.nc V.nc,.slice s.ea s.l.el s.ec],i6 0,i6 0])) v) I):
 nM prog Post (Old w0) (jq l) ng (G (Frame.enter prog 15 #[.slice sL V.nl U,.slice y V.nc u] .normal) (E::v)) w0:=by
 have F:=nA (P:=prog) (Post:=Post) (wI:=w0) (l:=l) ng;have S:∀(a:Addr)(wr:Bool),w0.heap.size<=a.block->cP w0.heap.size l [] a wr:=λa wr H=>⟨fun⟨a,d,b⟩=>by
  have:=t a d;rcases b with b|b<;>(cases b;simp only at H;omega),λ_=>⟨H,fun⟨p,n,_⟩=>by cases n⟩⟩
 refine Pq F S B g w (az _) e λQ S G F lb HD J O bl bo rs X i j p m n k L x w C=>?_;have g:∀{r},Has X r->Has (X.filter λr=>!r.wr) r:=λh=>by
  let⟨d,b⟩:=mq.1 h;exact mq.2 ⟨d,mK.2 ⟨b,by simp[d]⟩⟩
 have A:∀{r},Has (X++M) r->Has ((X.filter λr=>!r.wr)++M) r:=λh=>by
  let⟨d,b⟩:=mq.1 h;rcases dJ.1 b with z|z
  .exact(g (mq.2 ⟨d,z⟩)).pre _
  .exact(mq.2 ⟨d,z⟩:Has M _).app _
 have h:∀r∈X.filter λr=>!r.wr,r.wr=false:=λr e=>by simpa using(mK.1 e).2
 have a:Flat (X.filter λr=>!r.wr):=by
  rw[bO]at k ⊢;exact λr e=>k r (mK.1 e).1
 have z:tV V lb J 0 ((X.filter λr=>!r.wr)++M):=L.up λr e=>A e
 have A:St (cP w0.heap.size l []) F 53 _ (bR bo [.slice (some ⟨O,0,none⟩) V.nc V.nc]::fR ⟨O,0,none⟩ 4 (λ_=>[i6 0,i6 0,i6 0,.slice none 0 0]) V.nc true::bR bl [Yw V lb 0]::fR ⟨HD,0,none⟩ 1 (λ_=>[i6 0]) V.nc true::bR J [.slice none 0 0]::bR rs [.slice none 0 0,.slice none 0 0]::((gT V lb 0++(X.filter λr=>!r.wr))++M)) 0 S G:=
  ⟨C.env,C.sat.sub (by
   repeat apply List.Sublist.cons_cons
   rw[dU];exact nN (D7 List.filter_sublist _) _),C.sz⟩
 refine Uj B N t i j p m n (((bO.2 (NK V lb 0)).app a).app D.fl) D.OT A λbM bJ f q en f f f f d b C A f q p n m l f P=>Po B N R o t i j ω ω d b C A q p D a h z (g x) (g w) n m l f (by rw[dU]at P;exact P) λa c s Y I l d j i f h g=>?_;have m:s.k.O=O:=by rw[d]
 have b:=au (f.tail.val 0 _ rfl (0,0) ⟨aD,(by decide:0<2)⟩);have a:s.k.A=F+2:=by rw[d]
 have:=K c (F+2) s _ I l ω (by rw[<-a];exact b) j (by rw[d]) i f.tail h (λr e=>((((e.app _).cons.cons.cons).app _).app Y)) g;rw[m]at this;exact this
def Ui(F:aB prog true (DX Ok) Ψ)(h:HB B Ok){nl b:Nat}{c i:Int}(a:c≠0)(a:Sat Ok w M)(d:B<=w.heap.size)(e:O3 Ok Ψ B M 14 #[.slice sL nl U,.slice y b u] (.tuple #[i6 c,i6 i]))(K:∀I,Sat Ok I M->w.heap.size<=I.heap.size->Ψ (G (E.finish (.tuple #[.agg #[.slice none 0 0,.slice none 0 0],i6 c,i6 i])) v) I):
 Ψ (G (Frame.enter prog 15 #[.slice sL nl U,.slice y b u] .normal) (E::v)) w:=by
 refine cJ func15 a 53 λQ a g a a f d k j=>aq (λM=>bR (g) [.slice none 0 0,.slice none 0 0]::(M)) 1 F h a d k 11 [] 1 [] [(17,.slice y b u),(16,.slice sL nl U),(4,ptr g),(0,.slice sL nl U),(1,.slice y b u)] 11 1 [] λd d j d k k k=>ah F a d j 18 14 #[.slice sL nl U,.slice y b u] λb b=>e _ _ _ _ (λr d=>d.cons) j.sat ω λd e d=>b _ _ _ e λb b e b d=>TP F h a b e 21 [0,0,0,2] 6 [] [(6,i6 i),(5,i6 c),(4,ptr g)] 33 3 [] [] [(c !=0,true)] [] [] λb e d b g g g=>cC F d a f b [0,0,0,2] (.tuple #[.agg #[.slice none 0 0,.slice none 0 0],i6 c,i6 i]) ?_;exact K e d.sat.tail ω
def nC(n:Nat)(L:oF)(m:Nat)(g:Nat->Cl):Ev0:=⟨n,λi=>⟨L i 0,L i 1,L i 2,L i 3,L i 4,L i 5⟩,m,λi=>(g i).st,λi=>(g i).nt,λi j=>⟨(g i).T j 0,(g i).T j 1,(g i).T j 2⟩⟩
def BO(L:oF):∀(m k:Nat)(r:Int),cZ L m k r=k+m->∀j,k<=j->j<k+m->aF (L j 0) (L j 1) (L j 2) (L j 3) (L j 4) (L j 5)=true
 |0,k,r,_,j,d,c=>ω
 |m+1,k,r,h,j,d,c=>by
  unfold cZ at h;by_cases a:2<(if L k 0=1 then r+1 else r)\/aF (L k 0) (L k 1) (L k 2) (L k 3) (L k 4) (L k 5)=false
  .rw[sJ a]at h;omega
  .rw[af a]at h;by_cases e:j=k
   .subst e;cases b:aF (L j 0) (L j 1) (L j 2) (L j 3) (L j 4) (L j 5)with
    |true=>rfl
    |false=>exact absurd (.inr b) a
   .exact BO L m (k+1) (if L k 0=1 then r+1 else r) (by rw[h];omega) j ω ω
def uT(g:Nat->Cl):∀(m k:Nat),fY g m k=k+m->∀j,k<=j->j<k+m->(g j).YM=true
 |0,k,_,j,c,b=>ω
 |m+1,k,h,j,c,b=>by
  unfold fY at h;split at h
  .omega
  .rename_i a;by_cases e:j=k
   .subst e;simpa using a
   .exact uT g m (k+1) ω j ω ω
def uG(T:oF):∀(m k:Nat),lQ T m k=true->∀j,k<=j->j<k+m->(1<=T j 0/\T j 0<=4)/\(0<=T j 2/\T j 2<=1000)
 |0,k,_,j,b,a=>ω
 |m+1,k,h,j,b,a=>by
  unfold lQ at h;simp only[bZ,eB,decide_eq_true_eq]at h;by_cases e:j=k
  .subst e;exact⟨by simpa using h.1.1,by simpa using h.1.2⟩
  .exact uG T m (k+1) h.2 j ω ω
def GU{ly:Nat->ju}{L:oF}(a:∀i,(ly i).k=L i 0):∀(m k:Nat)(r:Int),r=(Ih ly k:Int)->r<=2->cZ L m k r=k+m->Ih ly (k+m)<=2
 |0,k,r,c,b,_=>by rw[jI];omega
 |m+1,k,r,c,b,h=>by
  unfold cZ at h;by_cases b:2<(if L k 0=1 then r+1 else r)\/aF (L k 0) (L k 1) (L k 2) (L k 3) (L k 4) (L k 5)=false
  .rw[sJ b]at h;omega
  .rw[af b]at h;have c:(if L k 0=1 then r+1 else r)=(Ih ly (k+1):Int):=by
    unfold Ih;rw[a k];split<;>omega
   have:=GU a m (k+1) _ c (Int.not_lt.1 λz=>b (.inl z)) (by rw[h];omega);rw[show k+(m+1)=k+1+m by omega];exact this
def zl{L:oF}{g:Nat->Cl}(h:jG n L m g=(0,0)):wM (nC n L m g):=by
 unfold jG at h;split at h
 .cases h
 .rename_i z;split at h
  .cases h
  .rename_i B;split at h
   .cases h
   .rename_i A;split at h
    .cases h
    .rename_i l;have q:cZ L n 0 0=0+n:=by have:=yB L n 0 0;omega
     have r:fY g m 0=0+m:=by have:=BP g m 0;omega
     have o:=BO L n 0 0 q;have s:=uT g m 0 r;refine⟨by show n<=6;omega,by show m<=9;omega,λk f=>?_,?_,λk f d=>?_,λk f d=>?_,λk f d=>?_,λk f d=>?_,λk f d=>?_,λc l=>?_,λc l=>?_,λc l j y=>?_⟩
     .have e:k<n:=f;have a:=o k ω ω;show L k 0=1\/L k 0=2\/L k 0=3\/L k 0=4\/L k 0=5\/L k 0=6;unfold aF at a;by_cases q:L k 0=1
      .exact .inl q
      .by_cases r:L k 0=2
       .exact .inr (.inl r)
       .by_cases w:L k 0=3
        .exact .inr (.inr (.inl w))
        .by_cases v:L k 0=4
         .exact .inr (.inr (.inr (.inl v)))
         .by_cases u:L k 0=5
          .exact .inr (.inr (.inr (.inr (.inl u))))
          .by_cases t:L k 0=6
           .exact .inr (.inr (.inr (.inr (.inr t))))
           .rw[af q,af r,af w,af v,af u,af t]at a;cases a
     .have:=GU (ly:=(nC n L m g).ly) (λi=>rfl) n 0 0 rfl ω q;rw[bK]at this;exact this
     .have e:k<n:=f;have a:=o k ω ω;have b:L k 0=3:=d;unfold aF at a;rw[af ω,af ω,sJ b]at a;simp only[bZ,eB,decide_eq_true_eq]at a;show(1<=L k 1/\L k 1<=1000)/\(1<=L k 2/\L k 2<=20);omega
     .have e:k<n:=f;have a:=o k ω ω;have b:L k 0=4:=d;unfold aF at a;rw[af ω,af ω,af ω,sJ b]at a;simp only[bZ,eB,decide_eq_true_eq]at a;show(1<=L k 1/\L k 1<=20)/\(1<=L k 2/\L k 2<=L k 1)/\(1<=L k 3/\L k 3<=100)/\(0<=L k 4/\L k 4<=1000)/\(1<=L k 5/\L k 5<=9);omega
     .have e:k<n:=f;have a:=o k ω ω;have b:L k 0=5:=d;unfold aF at a;rw[af ω,af ω,af ω,af ω,sJ b]at a;simp only[bZ,eB,decide_eq_true_eq]at a;show(1<=L k 1/\L k 1<=9)/\(0<=L k 2/\L k 2<=1000);omega
     .have e:k<n:=f;have a:=o k ω ω;have b:L k 0=6:=d;unfold aF at a;rw[af ω,af ω,af ω,af ω,af ω,sJ b]at a;simp only[bZ,eB,decide_eq_true_eq]at a;show 1<=L k 1/\L k 1<=1000;omega
     .have e:k<n:=f;have a:=o k ω ω;have b:L k 0=1:=d;unfold aF at a;rw[sJ b]at a;simp only[bZ,eB,decide_eq_true_eq]at a;show(1<=L k 1/\L k 1<=9)/\(0<=L k 2/\L k 2<=1000)/\(1<=L k 3/\L k 3<=9)/\(0<=L k 4/\L k 4<=10000);omega
     .have p:c<m:=l;have a:=s c ω ω;simp only[Cl.YM,iF,bZ,eB,decide_eq_true_eq,mA,decide_eq_false_iff_not]at a;show 0<=(g c).st/\(g c).st<=1000;omega
     .have p:c<m:=l;have a:=s c ω ω;simp only[Cl.YM,iF,bZ,eB,decide_eq_true_eq,mA,decide_eq_false_iff_not]at a;show(g c).nt<=12;omega
     .have p:c<m:=l;have x:j<(g c).nt:=y;have a:=s c ω ω;simp only[Cl.YM,iF,bZ]at a;exact uG (g c).T (g c).nt 0 a.2 j ω ω
end Go.Proofs.YtobagnjnbmgidabGreatDoor
