import Derived.Test.YtobagnjnbmgidabGreatDoorX30
import Derived.Test.YtobagnjnbmgidabGreatDoorA1
import Derived.Deep.AppendSrc
import Derived.Laws.IdiomCopy
set_option linter.all false
set_option maxHeartbeats 0
set_option maxRecDepth 100000
namespace Go.Proofs.YtobagnjnbmgidabGreatDoor
open Tryz Go.Conc Go.RowKit
variable{ca:Addr}{E:Env}{L:List iN}{B' N T U c cap d e m n Z q sc O t W x:Nat}{s:PS}{r:aH}{α:Type}{C:aW}{h v:ay}{Post:qz}{es:jl}{ON:eP}{args:gd}{news olds vs:iO}
variable{Q:Bool}{Ok Wy:dh}{V:gi}{b:aC}{a:Act}{k:eC}{Y:cO}{w I:aj}{X:g8}{i B:Nat}{J:aN}{o:Oper}{M:aW}{P:aG}
def bn(b:Bool):Nat:=if b then 1 else 0
def kN(w:aj)(c:Nat):Prop:=w.heap[c]? =some (.chan 0 #[] false 0 0 false)
def kN.al{o:Obj}(h:kN w c)(e:w.alloc o=I):kN I c:=by
 subst e;unfold kN;rw[Below.heap_alloc _ _ _ (cU.1 h).1];exact h
def kN.st{a:Addr}(h:kN w c)(e:w.setCell a v=I):kN I c:=by
 subst e;unfold kN at h ⊢;simp only[World.setCell,sU,h];simp
structure BV(w:aj)(A wc ec:Nat):Prop where
 a0:w.cell? ⟨A,0,none⟩=some (.int .i64 0)
 a1:w.cell? ⟨A,1,none⟩=some (.slice none 0 0)
 a2:w.cell? ⟨A,2,none⟩=some (.int .i64 0)
 a3:w.cell? ⟨A,3,none⟩=some (.chan (some wc))
 a4:w.cell? ⟨A,4,none⟩=some (.chan (some ec))
 a5:w.cell? ⟨A,5,none⟩=some (.int .u64 0)
 a6:w.cell? ⟨A,6,none⟩=some (.int .u32 0)
 z:∀i,w.frozen? ⟨A,i,none⟩=false
def vM(p:aj):
 fG prog Q (DX Ok) 28 #[] p λv I=>∃D L,v=.pointer (some ⟨p.heap.size+2,0,none⟩)/\Kp [] p I/\I.heap.size=p.heap.size+3/\p.heap.size<=D/\D<p.heap.size+2/\p.heap.size<=L/\L<p.heap.size+2/\D≠L/\kN I D/\kN I L/\BV I (p.heap.size+2) D L:=by
 intro V F c Y Z;generalize S:p.heap.size=s at Z;have c:s<=p.heap.size/\p.heap.size<=s:=ω
 clear S;simp only[enter_at _ func28 rfl,ntmps28];walk_nrm;have t:Kp [] p p:=Kp.refl _;have k:s+(bn false+bn false+bn false)<=p.heap.size/\p.heap.size<=s+(bn false+bn false+bn false):=by simp[bn];omega
 refine F.cF ?_;refine F.aJ ?_;refine F.es ?_;refine F.yw (γ:=Nat×Nat) (n:=5) mixed [[],[],[0,1],[2],[0,1,2,3]] rfl ρ (λb g=>[(1,dB (b 0) (.chan (some g.1)) (undef)),(2,dB (b 1) (.chan (some g.2)) (undef)),(3,dB (b 2) (.agg #[.int .i64 0,.slice none 0 0,.int .i64 0,.chan (some g.1),.chan (some g.2),.int .u64 0,.int .u32 0]) (undef)),(4,dB (b 3) (.pointer (some ⟨s+2,0,none⟩)) (undef)),(0,dB (b 4) (.pointer (some ⟨s+2,0,none⟩)) (.pointer none))]) (λb g w=>(Kp [] p w)/\(s+(bn (b 0)+bn (b 1)+bn (b 3))<=w.heap.size/\w.heap.size<=s+(bn (b 0)+bn (b 1)+bn (b 3)))/\(b 0=true->s<=g.1/\g.1<s+2/\g.1<w.heap.size/\kN w g.1)/\(b 1=true->s<=g.2/\g.2<s+2/\g.2<w.heap.size/\kN w g.2)/\(b 0=true->b 1=true->g.1≠g.2)/\(b 3=true->BV w (s+2) g.1 g.2)) ((0,0)) φ (⟨t,k,λh=>(by cases h),λh=>(by cases h),λh=>(by cases h),λh=>(by cases h)⟩) (all_cons ?_ (all_cons ?_ (all_cons ?_ (all_cons ?_ (all_cons ?_ (all_nil)))))) ?_
 .intro b g w y l a m J A o;let⟨t,k,r,q,B,C⟩:=y;replace a:b 0=false:=a;have xR:=dy (l 2 0 rfl) a;have Yl:=dy (l 3 2 rfl) xR;have gD:=dy (l 4 0 rfl) a;simp only[xR,Yl,gD,a,pu,Nat.reduceAdd,Nat.reduceEqDiff,reduceIte];have W:bn (b 1)<=1:=by simp only[bn];split<;>omega
  have X:bn (b 3)=0:=χ
  have G:bn (b 0)=0:=χ
  refine F.op rfl rfl δ (λd K H=>?_);go_simp;rw[ID];go_simp;rw[alloc_at'];refine H _ _ ⟨DX.alloc _ _ (λe U=>?_),?_⟩
  .have T:=mem_listed U;simp[go_sem,ID,Ky]at T
  clear H K d;try walk_nrm
  generalize f:World.alloc w _=P;generalize x:(World.heap w).size=R;have E:=rC f x;have j:=o (R,g.2) _ ⟨t.yT f,(by have O:bn (tick b 0 0)=1:=φ;have N:tick b 0 1=b 1:=(by simp[tick]);have M:tick b 0 3=b 3:=(by simp[tick]);rw[O,N,M];omega),λ_=>⟨ω,ω,ω,ny f x⟩,λh=>⟨(q (by simpa [tick]using h)).1,(q (by simpa [tick]using h)).2.1,by have:=(q (by simpa [tick]using h)).2.2.1;omega,(q (by simpa [tick]using h)).2.2.2.al f⟩,λ_ h=>(λz=>by have:=(q (by simpa [tick]using h)).2.2.1;omega),λh=>absurd (show b 3=true from(by simpa [tick]using h)) χ⟩;simp only[xR,Yl,gD,a,pu,Nat.reduceAdd,Nat.reduceEqDiff,reduceIte]at j;exact j
 .intro b g w y l a m J A o;let⟨t,k,r,q,B,C⟩:=y;replace a:b 1=false:=a;have xR:=dy (l 2 1 rfl) a;have Yl:=dy (l 3 2 rfl) xR;have gD:=dy (l 4 1 rfl) a;simp only[xR,Yl,gD,a,pu,Nat.reduceAdd,Nat.reduceEqDiff,reduceIte];have W:bn (b 0)<=1:=by simp only[bn];split<;>omega
  have X:bn (b 3)=0:=χ
  have G:bn (b 1)=0:=χ
  refine F.op rfl rfl δ (λd K H=>?_);go_simp;rw[ID];go_simp;rw[alloc_at'];refine H _ _ ⟨DX.alloc _ _ (λe U=>?_),?_⟩
  .have T:=mem_listed U;simp[go_sem,ID,Ky]at T
  clear H K d;try walk_nrm
  generalize f:World.alloc w _=P;generalize x:(World.heap w).size=R;have E:=rC f x;have j:=o (g.1,R) _ ⟨t.yT f,(by have O:bn (tick b 1 1)=1:=φ;have N:tick b 1 0=b 0:=(by simp[tick]);have M:tick b 1 3=b 3:=(by simp[tick]);rw[O,N,M];omega),λh=>⟨(r (by simpa [tick]using h)).1,(r (by simpa [tick]using h)).2.1,by have:=(r (by simpa [tick]using h)).2.2.1;omega,(r (by simpa [tick]using h)).2.2.2.al f⟩,λ_=>⟨ω,ω,ω,ny f x⟩,λh _=>(λz=>by have:=(r (by simpa [tick]using h)).2.2.1;omega),λh=>absurd (show b 3=true from(by simpa [tick]using h)) χ⟩;simp only[xR,Yl,gD,a,pu,Nat.reduceAdd,Nat.reduceEqDiff,reduceIte]at j;exact j
 .intro b g w y l a m J A o;let⟨t,k,r,q,B,C⟩:=y;replace a:b 2=false:=a;have u:=m 0 rfl;have d1:=m 1 rfl;simp only[u,d1,a,pu,Nat.reduceAdd,Nat.reduceEqDiff,reduceIte];refine F.aJ ?_;have j:=o g _ ⟨t,k,r,q,B,C⟩;simp only[u,d1,a,pu,Nat.reduceAdd,Nat.reduceEqDiff,reduceIte]at j;exact j
 .intro b g w y l a m J A o;let⟨t,k,r,q,B,C⟩:=y;replace a:b 3=false:=a;have d2:=m 2 rfl;have u:=l 2 0 rfl d2;have d1:=l 2 1 rfl d2;simp only[d2,u,d1,a,pu,Nat.reduceAdd,Nat.reduceEqDiff,reduceIte];have O:bn (b 0)=1:=by rw[u];rfl
  have N:bn (b 1)=1:=by rw[d1];rfl
  have M:bn (b 3)=0:=χ
  have n:w.heap.size=s+2:=ω
  clear k;refine F.GV ?_;generalize f:World.alloc w _=P;have E:=rC f n;have h:BV P (s+2) g.1 g.2:=⟨aY (i:=0) f n rfl,aY (i:=1) f n rfl,aY (i:=2) f n rfl,aY (i:=3) f n rfl,aY (i:=4) f n rfl,aY (i:=5) f n rfl,aY (i:=6) f n rfl,λi=>cy f n i⟩;have j:=o g _ ⟨t.yT f,(by have e:tick b 3 0=b 0:=(by simp[tick]);have d:tick b 3 1=b 1:=(by simp[tick]);have c:bn (tick b 3 3)=1:=φ;rw[e,d,c];omega),λ_=>⟨(r u).1,(r u).2.1,χ,(r u).2.2.2.al f⟩,λ_=>⟨(q d1).1,(q d1).2.1,χ,(q d1).2.2.2.al f⟩,λ_ _=>B u d1,λ_=>h⟩;simp only[d2,u,d1,a,pu,Nat.reduceAdd,Nat.reduceEqDiff,reduceIte]at j;exact j
 .intro b g w y l a m J A o;let⟨t,k,r,q,B,C⟩:=y;replace a:b 4=false:=a;have u:=m 0 rfl;have d1:=m 1 rfl;have d2:=m 2 rfl;have d3:=m 3 rfl;simp only[u,d1,d2,d3,a,pu,Nat.reduceAdd,Nat.reduceEqDiff,reduceIte];refine F.aJ ?_;have j:=o g _ ⟨t,k,r,q,B,C⟩;simp only[u,d1,d2,d3,a,pu,Nat.reduceAdd,Nat.reduceEqDiff,reduceIte]at j;exact j
 intro b g w y b;let⟨t,k,r,q,B,C⟩:=y;simp only[b 0 δ,b 1 δ,b 2 δ,b 3 δ,b 4 δ,pu,Nat.reduceAdd,Nat.reduceEqDiff,reduceIte];have f0:=r (b 0 δ);have f1:=q (b 1 δ);have f2:=B (b 0 δ) (b 1 δ);have f3:=C (b 3 δ);rw[b 0 δ,b 1 δ,b 3 δ]at k;simp only[bn,if_true]at k;refine F.tC func28 ?_;exact Z _ _ ⟨g.1,g.2,rfl,t,ω,f0.1,f0.2.1,f1.1,f1.2.1,f2,f0.2.2.2,f1.2.2.2,f3⟩
structure mz(w:aj)(T A aS:Nat)(cl kn:Int):Prop where
 t0:w.cell? ⟨T,0,none⟩=some (.pointer (some ⟨A,0,none⟩))
 t1:w.cell? ⟨T,1,none⟩=some (.int .i64 kn)
 t2:w.cell? ⟨T,2,none⟩=some (.int .i64 cl)
 t3:w.cell? ⟨T,3,none⟩=some (.chan (some aS))
 t4:w.cell? ⟨T,4,none⟩=some (.pointer none)
 t5:w.cell? ⟨T,5,none⟩=some (.slice none 0 0)
 t6:w.cell? ⟨T,6,none⟩=some (.bool false)
 t7:w.cell? ⟨T,7,none⟩=some (.bool false)
 z4:w.frozen? ⟨T,4,none⟩=false
 z5:w.frozen? ⟨T,5,none⟩=false
 z6:w.frozen? ⟨T,6,none⟩=false
 z7:w.frozen? ⟨T,7,none⟩=false
def mz.kp{L:aN}{C:List Addr}{A b:Nat}{d kn:Int}(h:mz w T A b d kn)(k:Kp L w I C)(a:T∉L)(e:∀x∈C,x.block≠T):mz I T A b d kn:=
 have c:∀i,(⟨T,i,none⟩:Addr)∉C:=λi z=>e _ z rfl
 ⟨k.cellC _ _ a (c _) h.t0,k.cellC _ _ a (c _) h.t1,k.cellC _ _ a (c _) h.t2,k.cellC _ _ a (c _) h.t3,k.cellC _ _ a (c _) h.t4,k.cellC _ _ a (c _) h.t5,k.cellC _ _ a (c _) h.t6,k.cellC _ _ a (c _) h.t7,(k.Q6 _ _ a (c _) h.t4).trans h.z4,(k.Q6 _ _ a (c _) h.t5).trans h.z5,(k.Q6 _ _ a (c _) h.t6).trans h.z6,(k.Q6 _ _ a (c _) h.t7).trans h.z7⟩
def kN.dx{es:dS}(D:DX Ok w I es)(h:kN w c):kN I c:=D.obj c _ h (λ_ _ _ z=>by cases z)
def fG.keep{R:cK}{f:FuncId}(b:∀w d,R w->R (w.at d))(j:∀w I es,DX Ok w I es->R w->R I)(h:fG prog Q (DX Ok) f args w Post)(i:R w):
 fG prog Q (DX Ok) f args w (λv I=>Post v I/\R I):=λV F c Y f=>
 h (λg w=>R w->V g w) ⟨λg w d x a=>F.at' _ _ _ (x (show R w from b (w.at d) w.drawn a)),F.idle,F.less,λg w e x a=>F.step g w e λd=>by
  let⟨l,I,es,k,e,h,g⟩:=x d;exact⟨l,I,es,k,e,h (j _ _ _ e (b _ d a)),g⟩⟩ c Y (λv I b a=>f v I ⟨b,a⟩) i
def fG.MW{f:FuncId}(h:fG prog Q (DX Ok) f args w Post)(a:kN w c):
 fG prog Q (DX Ok) f args w (λv I=>Post v I/\kN I c):=h.keep (λ_ _ x=>x) (λ_ _ _ D x=>x.dx D) a
def MD{b:Nat}(h:kN w c)(a:w.cell? ⟨b,i,none⟩=some v):c≠b:=λz=>by
 subst z;unfold kN at h;simp only[World.cell?,h]at a;simp at a
def GS(ff N A bl bo bi cl k:Nat)(at':Int)(en:ay)(es:jl)(O:aj)(hN:N<=O.heap.size)(lA:A<N)(he:fZ N O en es)(To:es.length<1000000)(Tt:k<1000000)(n:O.cell? ⟨A,1,none⟩=some en)(m:O.cell? ⟨A,2,none⟩=some (.int .i64 (k:Int)))(s:O.frozen? ⟨A,1,none⟩=false)(o:O.frozen? ⟨A,2,none⟩=false)(o1:Ok ⟨A,1,none⟩ false)(ZO:Ok ⟨A,1,none⟩ true)(o2:Ok ⟨A,2,none⟩ false)(o2w:Ok ⟨A,2,none⟩ true)(W8:∀(a:Addr)(wr:Bool),a.block∈cw en\/O.heap.size<=a.block->Ok a wr):
 fG prog Q (DX Ok) 29 #[.pointer (some ⟨A,0,none⟩),.int .i64 (cl:Int),.int .i64 at',.func (.func ff) #[] #[.pointer (some ⟨bl,0,none⟩),.pointer (some ⟨bo,0,none⟩),.pointer (some ⟨bi,0,none⟩)]] O λv I=>∃ba bw aS T U P tP i,v=.pointer (some ⟨T,0,none⟩)/\Kp (cw en) O I [⟨A,1,none⟩,⟨A,2,none⟩]/\
  (O.heap.size<=ba/\ba<bw/\bw<aS/\bw<T/\bw<U/\aS<P/\T<P/\U<P/\P<=I.heap.size/\U≠T/\aS≠T/\aS≠U)/\
  I.cell? ⟨ba,0,none⟩=some (.pointer (some ⟨A,0,none⟩))/\I.cell? ⟨bw,0,none⟩=some (.func (.func ff) #[] #[.pointer (some ⟨bl,0,none⟩),.pointer (some ⟨bo,0,none⟩),.pointer (some ⟨bi,0,none⟩)])/\I.cell? ⟨U,0,none⟩=some (.pointer (some ⟨T,0,none⟩))/\mz I T A aS (cl:Int) (k:Int)/\kN I aS/\
  I.cell? ⟨A,1,none⟩=some tP/\I.frozen? ⟨A,1,none⟩=false/\I.cell? ⟨A,2,none⟩=some (.int .i64 ((k:Int)+1))/\I.frozen? ⟨A,2,none⟩=false/\i<=es.length/\iM es at' i/\fZ N I tP (es.take i++(at',.func (.func 48) #[] #[.pointer (some ⟨ba,0,none⟩),.pointer (some ⟨U,0,none⟩),.pointer (some ⟨bw,0,none⟩)])::es.drop i)/\∀g∈cw tP,g∈cw en\/P<=g:=by
 intro V F c Y hc;have Hh:∀(a:Addr)(wr:Bool),O.heap.size<=a.block->Ok a wr:=λa wr h=>W8 a wr (.inr h);have c:∀g,g∈cw en->N<=g/\g<O.heap.size:=λg hg=>by
  let⟨_,_,c⟩:=he.lt (bS.1 hg);grind
 have c:IntKind.i64.wrap 1=1:=δ
 have c:IntKind.i64.wrap ((k:Int)+1)=(k:Int)+1:=by simp only[IntKind.wrap,IntKind.bits,IntKind.signed]<;>(try simp)<;>omega
 simp only[enter_at _ func29 rfl,ntmps29];walk_nrm;refine F.cF ?_;refine F.GV ?_;generalize Z:World.alloc O _=w1;generalize CH:(World.heap O).size=n1;have T8:=gH Z CH;replace s:=dP s n Z;replace o:=dP o m Z;replace n:=bN n Z;replace m:=bN m Z;have r:=aY (i:=0) Z CH rfl;have TX:=cy Z CH 0;try simp only[sS,sW,sV]at r
 have G:Kp [] O O []:=Kp.refl _;replace G:=G.yT Z;refine F.GV ?_;generalize W:World.alloc w1 _=c;generalize QC:(World.heap w1).size=n2;have P:=gH W QC;replace s:=dP s n W;replace o:=dP o m W;replace TX:=dP TX r W;replace n:=bN n W;replace m:=bN m W;replace r:=bN r W;have q:=aY (i:=0) W QC rfl;have c:=cy W QC 0;try simp only[sS,sW,sV]at q
 replace G:=G.yT W;refine F.aJ ?_;refine F.es ?_;have aa0:O.heap.size<=n1/\n1<n2:=ω
 clear T8 P CH QC Z W TX c;refine F.yw (γ:=Nat×Nat×Nat) (n:=11) mixed [[],[],[1],[2],[3],[],[],[0,4,5,6],[7],[],[0,1,2,3,4,5,6,7,8,9]] rfl ρ (λb g=>[(10,dB (b 0) (.pointer (some ⟨A,0,none⟩)) (undef)),(11,dB (b 1) (.pointer (some ⟨A,0,none⟩)) (undef)),(12,dB (b 2) (.pointer (some ⟨A,0,none⟩)) (undef)),(13,dB (b 3) (.pointer (some ⟨A,2,none⟩)) (undef)),(14,dB (b 4) (.int .i64 (k:Int)) (undef)),(15,dB (b 5) (.int .i64 (cl:Int)) (undef)),(16,dB (b 6) (.chan (some g.1)) (undef)),(17,dB (b 7) (.agg #[.pointer (some ⟨A,0,none⟩),.int .i64 (k:Int),.int .i64 (cl:Int),.chan (some g.1),.pointer none,.slice none 0 0,.bool false,.bool false]) (undef)),(18,dB (b 8) (.pointer (some ⟨g.2.1,0,none⟩)) (undef)),(9,dB (b 9) (.pointer (some ⟨g.2.2,0,none⟩)) (undef))]) (λb g w=>(b 10=false->((Kp [] O w)/\(w.cell? ⟨n1,0,none⟩=some (.pointer (some ⟨A,0,none⟩)))/\(w.cell? ⟨n2,0,none⟩=some (.func (.func ff) #[] #[.pointer (some ⟨bl,0,none⟩),.pointer (some ⟨bo,0,none⟩),.pointer (some ⟨bi,0,none⟩)]))/\(w.cell? ⟨A,2,none⟩=some (.int .i64 (k:Int)))/\(w.cell? ⟨A,1,none⟩=some en)/\(w.frozen? ⟨A,2,none⟩=false)/\(w.frozen? ⟨A,1,none⟩=false)/\(b 6=true->n2<g.1/\g.1<w.heap.size/\kN w g.1)/\(b 8=true->n2<g.2.1/\g.2.1<w.heap.size/\mz w g.2.1 A g.1 (cl:Int) (k:Int))/\(b 9=true->n2<g.2.2/\g.2.2<w.heap.size/\w.cell? ⟨g.2.2,0,none⟩=some (.pointer none)/\w.frozen? ⟨g.2.2,0,none⟩=false)/\(b 8=true->b 9=true->g.2.1≠g.2.2)))/\(b 10=true->(Kp [] O w/\w.cell? ⟨n1,0,none⟩=some (.pointer (some ⟨A,0,none⟩))/\w.cell? ⟨n2,0,none⟩=some (.func (.func ff) #[] #[.pointer (some ⟨bl,0,none⟩),.pointer (some ⟨bo,0,none⟩),.pointer (some ⟨bi,0,none⟩)])/\w.cell? ⟨A,2,none⟩=some (.int .i64 (k:Int))/\w.cell? ⟨A,1,none⟩=some en/\w.frozen? ⟨A,2,none⟩=false/\w.frozen? ⟨A,1,none⟩=false/\(n2<g.1/\g.1<w.heap.size/\kN w g.1)/\(n2<g.2.1/\g.2.1<w.heap.size/\mz w g.2.1 A g.1 (cl:Int) (k:Int))/\n2<g.2.2/\g.2.2<w.heap.size/\w.cell? ⟨g.2.2,0,none⟩=some (.pointer (some ⟨g.2.1,0,none⟩))/\g.2.1≠g.2.2))) ((0,0,0)) (by simp only[pu,Nat.reduceAdd,Nat.reduceEqDiff,reduceIte]) (⟨λ_=>⟨G,r,q,m,n,o,s,λh=>(by cases h),λh=>(by cases h),λh=>(by cases h),λh=>(by cases h)⟩,λh=>by cases h⟩) (all_cons ?_ (all_cons ?_ (all_cons ?_ (all_cons ?_ (all_cons ?_ (all_cons ?_ (all_cons ?_ (all_cons ?_ (all_cons ?_ (all_cons ?_ (all_cons ?_ (all_nil)))))))))))) ?_
 .intro b g w R u j y J X C;let⟨p,B⟩:=R;replace j:b 0=false:=j;have f:=dy (u 10 0 rfl) j;let⟨G,r,q,m,n,o,s,L,S,H,E⟩:=p f;clear p B;simp only[f,j,pu,Nat.reduceAdd,Nat.reduceEqDiff,reduceIte];refine F.ow ?_;have t:=C g _ ⟨λ_=>⟨G,r,q,m,n,o,s,L,S,H,E⟩,λh=>no f h⟩;simp only[f,j,pu,Nat.reduceAdd,Nat.reduceEqDiff,reduceIte]at t;exact t
 .intro b g w R u j y J X C;let⟨p,B⟩:=R;replace j:b 1=false:=j;have f:=dy (u 10 1 rfl) j;let⟨G,r,q,m,n,o,s,L,S,H,E⟩:=p f;clear p B;simp only[f,j,pu,Nat.reduceAdd,Nat.reduceEqDiff,reduceIte];refine F.ow ?_;have t:=C g _ ⟨λ_=>⟨G,r,q,m,n,o,s,L,S,H,E⟩,λh=>no f h⟩;simp only[f,j,pu,Nat.reduceAdd,Nat.reduceEqDiff,reduceIte]at t;exact t
 .intro b g w R u j y J X C;let⟨p,B⟩:=R;replace j:b 2=false:=j;have d1:=y 1 rfl;have f:=dy (u 10 2 rfl) j;let⟨G,r,q,m,n,o,s,L,S,H,E⟩:=p f;clear p B;simp only[d1,f,j,pu,Nat.reduceAdd,Nat.reduceEqDiff,reduceIte];refine F.aJ ?_;have t:=C g _ ⟨λ_=>⟨G,r,q,m,n,o,s,L,S,H,E⟩,λh=>no f h⟩;simp only[d1,f,j,pu,Nat.reduceAdd,Nat.reduceEqDiff,reduceIte]at t;exact t
 .intro b g w R u j y J X C;let⟨p,B⟩:=R;replace j:b 3=false:=j;have d2:=y 2 rfl;have f:=dy (u 10 3 rfl) j;let⟨G,r,q,m,n,o,s,L,S,H,E⟩:=p f;clear p B;simp only[d2,f,j,pu,Nat.reduceAdd,Nat.reduceEqDiff,reduceIte];refine F.aJ ?_;have t:=C g _ ⟨λ_=>⟨G,r,q,m,n,o,s,L,S,H,E⟩,λh=>no f h⟩;simp only[d2,f,j,pu,Nat.reduceAdd,Nat.reduceEqDiff,reduceIte]at t;exact t
 .intro b g w R u j y J X C;let⟨p,B⟩:=R;replace j:b 4=false:=j;have d3:=y 3 rfl;have f:=dy (u 10 4 rfl) j;let⟨G,r,q,m,n,o,s,L,S,H,E⟩:=p f;clear p B;simp only[d3,f,j,pu,Nat.reduceAdd,Nat.reduceEqDiff,reduceIte];refine F.ow ?_;have t:=C g _ ⟨λ_=>⟨G,r,q,m,n,o,s,L,S,H,E⟩,λh=>no f h⟩;simp only[d3,f,j,pu,Nat.reduceAdd,Nat.reduceEqDiff,reduceIte]at t;exact t
 .intro b g w R u j y J X C;let⟨p,B⟩:=R;replace j:b 5=false:=j;have f:=dy (u 10 5 rfl) j;let⟨G,r,q,m,n,o,s,L,S,H,E⟩:=p f;clear p B;simp only[f,j,pu,Nat.reduceAdd,Nat.reduceEqDiff,reduceIte];refine F.aJ ?_;have t:=C g _ ⟨λ_=>⟨G,r,q,m,n,o,s,L,S,H,E⟩,λh=>no f h⟩;simp only[f,j,pu,Nat.reduceAdd,Nat.reduceEqDiff,reduceIte]at t;exact t
 .intro b g w R u j y J X C;let⟨p,B⟩:=R;replace j:b 6=false:=j;have vN:=dy (u 7 6 rfl) j;have f:=dy (u 10 6 rfl) j;let⟨G,r,q,m,n,o,s,L,S,H,E⟩:=p f;clear p B;simp only[vN,f,j,pu,Nat.reduceAdd,Nat.reduceEqDiff,reduceIte];refine F.op rfl rfl δ (λd K hK=>?_);go_simp;rw[A8];go_simp;rw[alloc_at'];refine hK _ _ ⟨DX.alloc _ _ (λe he=>?_),?_⟩
  .have hm:=mem_listed he;simp[go_sem,A8,zO]at hm
  clear hK K d;try walk_nrm
  generalize l:World.alloc w _=w3;generalize D:(World.heap w).size=n3;have T7:=rC l D;have Bl:n2<n3:=by have:n2<w.heap.size:=au q;omega
  have PI:b 8=false:=by
   cases hx:b 8 with
   |false=>rfl
   |true=>have c:=u 8 7 rfl hx;have XZ:=u 7 6 rfl c;rw[show b 6=false from j]at XZ;cases XZ
  have t:=C (n3,g.2) _ ⟨λ_=>⟨G.yT l,bN r l,bN q l,bN m l,bN n l,dP o m l,dP s n l,λ_=>⟨Bl,(show n3<w3.heap.size by omega),ny l D⟩,λh=>absurd (show b 8=true from(by simpa [tick]using h)) (by rw[PI];decide),λh=>⟨(H (by simpa [tick]using h)).1,ga (H (by simpa [tick]using h)).2.1 ω,bN (H (by simpa [tick]using h)).2.2.1 l,dP (H (by simpa [tick]using h)).2.2.2 (H (by simpa [tick]using h)).2.2.1 l⟩,λh=>absurd (show b 8=true from(by simpa [tick]using h)) (by rw[PI];decide)⟩,λh=>absurd (show b 10=true from(by simpa [tick]using h)) (by rw[f];decide)⟩;simp only[vN,f,j,pu,Nat.reduceAdd,Nat.reduceEqDiff,reduceIte]at t;exact t
 .intro b g w R u j y J X C;let⟨p,B⟩:=R;replace j:b 7=false:=j;have d0:=y 0 rfl;have d4:=y 4 rfl;have d5:=y 5 rfl;have d6:=y 6 rfl;have f:=dy (u 10 7 rfl) j;let⟨G,r,q,m,n,o,s,L,S,H,E⟩:=p f;clear p B;simp only[d0,d4,d5,d6,f,j,pu,Nat.reduceAdd,Nat.reduceEqDiff,reduceIte];refine F.aJ ?_;have t:=C g _ ⟨λ_=>⟨G,r,q,m,n,o,s,L,S,H,E⟩,λh=>no f h⟩;simp only[d0,d4,d5,d6,f,j,pu,Nat.reduceAdd,Nat.reduceEqDiff,reduceIte]at t;exact t
 .intro b g w R u j y J X C;let⟨p,B⟩:=R;replace j:b 8=false:=j;have d7:=y 7 rfl;have d0:=u 7 0 rfl d7;have d4:=u 7 4 rfl d7;have d5:=u 7 5 rfl d7;have d6:=u 7 6 rfl d7;have d3:=u 4 3 rfl d4;have d2:=u 3 2 rfl d3;have d1:=u 2 1 rfl d2;have f:=dy (u 10 8 rfl) j;let⟨G,r,q,m,n,o,s,L,S,H,E⟩:=p f;clear p B;simp only[d7,d0,d4,d5,d6,d3,d2,d1,f,j,pu,Nat.reduceAdd,Nat.reduceEqDiff,reduceIte];refine F.op rfl rfl δ (λd K hK=>?_);go_simp
  skip
  rw[alloc_at'];refine hK _ _ ⟨DX.alloc _ _ (λe he=>?_),?_⟩
  .have hm:=mem_listed he;simp[go_sem,A8,zO]at hm
  clear hK K d;try walk_nrm
  generalize l:World.alloc w _=w3;generalize D:(World.heap w).size=n3;have T7:=rC l D;have Bl:n2<n3:=by have:n2<w.heap.size:=au q;omega
  have t:=C (g.1,n3,g.2.2) _ ⟨λ_=>⟨G.yT l,bN r l,bN q l,bN m l,bN n l,dP o m l,dP s n l,λh=>⟨(L ω).1,ga (L ω).2.1 ω,(L ω).2.2.al l⟩,λ_=>⟨Bl,(show n3<w3.heap.size by omega),aY (i:=0) l D rfl,aY (i:=1) l D rfl,aY (i:=2) l D rfl,aY (i:=3) l D rfl,aY (i:=4) l D rfl,aY (i:=5) l D rfl,aY (i:=6) l D rfl,aY (i:=7) l D rfl,cy l D 4,cy l D 5,cy l D 6,cy l D 7⟩,λh=>⟨(H (by simpa [tick]using h)).1,ga (H (by simpa [tick]using h)).2.1 ω,bN (H (by simpa [tick]using h)).2.2.1 l,dP (H (by simpa [tick]using h)).2.2.2 (H (by simpa [tick]using h)).2.2.1 l⟩,λ_ h=>(λz=>by have:=(H (by simpa [tick]using h)).2.1;dsimp only at z;omega)⟩,λh=>absurd (show b 10=true from(by simpa [tick]using h)) (by rw[f];decide)⟩;simp only[d7,d0,d4,d5,d6,d3,d2,d1,f,j,pu,Nat.reduceAdd,Nat.reduceEqDiff,reduceIte]at t;exact t
 .intro b g w R u j y J X C;let⟨p,B⟩:=R;replace j:b 9=false:=j;have f:=dy (u 10 9 rfl) j;let⟨G,r,q,m,n,o,s,L,S,H,E⟩:=p f;clear p B;simp only[f,j,pu,Nat.reduceAdd,Nat.reduceEqDiff,reduceIte];refine F.op rfl rfl δ (λd K hK=>?_);go_simp
  skip
  rw[alloc_at'];refine hK _ _ ⟨DX.alloc _ _ (λe he=>?_),?_⟩
  .have hm:=mem_listed he;simp[go_sem,A8,zO]at hm
  clear hK K d;try walk_nrm
  generalize l:World.alloc w _=w3;generalize D:(World.heap w).size=n3;have T7:=rC l D;have Bl:n2<n3:=by have:n2<w.heap.size:=au q;omega
  have t:=C (g.1,g.2.1,n3) _ ⟨λ_=>⟨G.yT l,bN r l,bN q l,bN m l,bN n l,dP o m l,dP s n l,λh=>⟨(L (by simpa [tick]using h)).1,ga (L (by simpa [tick]using h)).2.1 ω,(L (by simpa [tick]using h)).2.2.al l⟩,λh=>⟨(S (by simpa [tick]using h)).1,ga (S (by simpa [tick]using h)).2.1 ω,(S (by simpa [tick]using h)).2.2.kp (Kp.alloc (L:=[]) l) ψ ψ⟩,λ_=>⟨Bl,(show n3<w3.heap.size by omega),aY (i:=0) l D rfl,cy l D 0⟩,λh _=>(λz=>by have:=(S (by simpa [tick]using h)).2.1;dsimp only at z;omega)⟩,λh=>absurd (show b 10=true from(by simpa [tick]using h)) (by rw[f];decide)⟩;simp only[f,j,pu,Nat.reduceAdd,Nat.reduceEqDiff,reduceIte]at t;exact t
 .intro b g w R u j y J X C;let⟨p,B⟩:=R;replace j:b 10=false:=j;have d0:=y 0 rfl;have d1:=y 1 rfl;have d2:=y 2 rfl;have d3:=y 3 rfl;have d4:=y 4 rfl;have d5:=y 5 rfl;have d6:=y 6 rfl;have d7:=y 7 rfl;have d8:=y 8 rfl;have d9:=y 9 rfl;let⟨G,r,q,m,n,o,s,L,S,H,E⟩:=p j;clear p B;simp only[d0,d1,d2,d3,d4,d5,d6,d7,d8,d9,j,pu,Nat.reduceAdd,Nat.reduceEqDiff,reduceIte];let⟨q1,q2,q3⟩:=L d6;let⟨q4,q5,q6⟩:=S d8;let⟨q7,q8,q9,c⟩:=H d9;have Te:=E d8 d9;clear L S H E;have hlA:A<w.heap.size:=au n;have f:A<n1:=ω
  refine F.op rfl rfl δ (λd K hK=>?_);go_simp;rw[setCell_at'];refine hK _ _ ⟨DX.set _ (Hh _ _ (by dsimp only;omega)) (λe he=>?_),?_⟩
  .have hm:=mem_listed he;simp[go_sem,storedEv,ig,q9,c]at hm;subst hm;exact .inl ⟨_,rfl,rfl,Hh _ _ (by dsimp only;omega),by simp only[iL,size_set];exact q8⟩
  clear hK K d;try walk_nrm
  generalize l:World.setCell w _ _=w3;have T7:=Kg l;have ks:=Kp.H8 l;have t:=C g _ ⟨λh=>by simp[tick]at h,λ_=>⟨G.EH l (.inr (.inr (by dsimp only;omega))),dQ r l ψ,dQ q l Θ,dQ m l Θ,dQ n l Θ,eF o l,eF s l,⟨q1,ω,q3.st l⟩,⟨q4,ω,q6.kp ks ψ Θ⟩,q7,ω,kP q9 l,Te⟩⟩;simp only[d0,d1,d2,d3,d4,d5,d6,d7,d8,d9,j,pu,Nat.reduceAdd,Nat.reduceEqDiff,reduceIte]at t;exact t
 intro b g w R b;let⟨p,B⟩:=R;simp only[b 0 δ,b 1 δ,b 2 δ,b 3 δ,b 4 δ,b 5 δ,b 6 δ,b 7 δ,b 8 δ,b 9 δ,b 10 δ,pu,Nat.reduceAdd,Nat.reduceEqDiff,reduceIte];let⟨E,u,k,y,C,c,f,⟨q1,q2,q3⟩,⟨q4,q5,q6⟩,q7,q8,q9,Te⟩:=B (b 10 δ);clear p B b G r q m n o s;let⟨aS,T,U⟩:=g;dsimp only at q1 q2 q3 q4 q5 q6 q7 q8 q9 Te ⊢;have G:Kp (cw en) O w [⟨A,1,none⟩,⟨A,2,none⟩]:=E.old ψ ψ;have kz:Kp [] O w [⟨A,2,none⟩]:=E.old ψ ψ;have r:=u;have q:=k;have m:=y;have n:=C;have o:=c;have s:=f;have TB:=q9;have hlA:A<n1:=ω
 clear E u k y C c f q9;refine F.dA ?_;refine F.ow ?_;iterate 2 (refine F.aJ ?_)
 refine F.ow ?_;iterate 3 (refine F.aJ ?_)
 refine F.op rfl rfl δ (λd K hK=>?_);go_simp;rw[setCell_at'];refine hK _ _ ⟨DX.set _ (by(first|assumption|(apply Hh<;>dsimp only<;>omega))) (λe he=>?_),?_⟩
 .have hm:=mem_listed he;simp[go_sem,storedEv,fD,ig,fE,jc,gP, *]at hm;subst hm;exact .inl ⟨_,rfl,rfl,by(first|assumption|(apply Hh<;>dsimp only<;>omega)),by simp only[iL,size_set];first|omega|exact au (by assumption)⟩
 clear hK K d;try walk_nrm
 generalize M:World.setCell w _ _=w4;have b:=lu M;replace s:=eF s M;replace o:=eF o M;replace r:=dQ r M ψ;replace q:=dQ q M Θ;replace TB:=dQ TB M Θ;replace n:=dQ n M Θ;replace m:=kP m M;replace G:=G.EH M (by first|(left;simp;done)|(right;left;simp;done)|(right;right;dsimp only;omega));refine F.re ?_;have ks:=Kp.H8 M;have q3:=q3.st M;have q6:=q6.kp ks ψ Θ;have b:w4.heap.size<=w4.heap.size:=az _;refine F.cF ?_;refine F.ow ?_;iterate 2 (refine F.aJ ?_)
 have b:fZ N w4 en es:=Kp.bA (kz.EH M (.inr (.inl ψ))) he λg hg=>⟨ψ,λx hx=>χ⟩
 have c:O.heap.size<=w4.heap.size:=G.size;refine F.uO func47 ?_;refine(fG.MW (EX N A at' (.func 48) #[] #[.pointer (some ⟨n1,0,none⟩),.pointer (some ⟨U,0,none⟩),.pointer (some ⟨n2,0,none⟩)] en es w4 ω lA To b n s o1 ZO (λa wr h=>W8 a wr (h.imp id λh=>ω))) q3) _ F _ _ (λv a a=>?_);obtain⟨⟨rfl,kq,tP,i,e0,epl,e1,e2,e3,e4⟩,hq3⟩:=a;have nr:∀x,O.heap.size<=x->x∉cw en:=λx hx z=>χ
 have a:A∉cw en:=λz=>χ
 have r:=kq.cellC _ _ (nr n1 ω) ψ r;have q:=kq.cellC _ _ (nr n2 ω) Θ q;have TB:=kq.cellC _ _ (nr U ω) Θ TB;have o:=(kq.Q6 _ _ a Θ m).trans o;have m:=kq.cellC _ _ a Θ m;have q6:=q6.kp kq (nr T ω) Θ;have G:=G.pX kq (λx hx=>.inl hx) (λx hx=>.inl (by simp at hx;simp[hx]));have n3:=MD hq3 q6.t0;have b:=MD hq3 TB;rw[bQ];try walk_nrm
 refine F.dA ?_;refine F.ow ?_;refine F.aJ ?_;refine F.tC func29 ?_;have a:=kq.size;exact hc _ _ ⟨n1,n2,aS,T,U,w4.heap.size,tP,i,rfl,G,⟨ω,ω,ω,ω,ω,ω,ω,ω,a,λz=>Te z.symm,n3,b⟩,r,q,TB,q6,hq3,e1,e2,m,o,e0,epl,e3,e4⟩
abbrev O3(Ok:dh)(V:gi)(B:Nat)(M:aW)(f:Nat)(args:gd)(v:ay):Prop:=∀(cf:aC)(Y:cO)(I:aj)(M':aW),(∀r,Has M r->Has M' r)->Sat Ok I M'->B<=I.heap.size->(∀w2,Sat Ok w2 M'->I.heap.size<=w2.heap.size->V (G (cf.finish v) Y) w2)->V (G (Frame.enter Tryz.prog f args .normal) (cf::Y)) I
def t152:Qc prog 168 4 1 1=true:=ρ
def t156:Qc prog 172 129 1 8=true:=ρ
def EJ(r:Qc prog t e q U=true)(s:U<=48)(w:aj)(W:TypeId)(y:olds.length=O*q)(holds:∀a,ON=some a->∀j u,olds[j]? =some u->w.cell? (a.add j)=some u)(y:ON=none->O=0){a:Addr}(y:news.length=m*q)(d:∀j u,news[j]? =some u->w.cell? (a.add j)=some u)(E:∀u∈news,u.oneCell'=true)(D:sc<O+m)(C:(O+m)*48<=140737488355328):
 ∃n j,(Builtin.append_ #[t,t] W #[.slice ON O sc,.slice (some a) m c]).run prog w=.ok (.slice (some ⟨w.heap.size,0,none⟩) (O+m) n) (w.drew.alloc (.cells ((olds++news).toArray++j) e))/\O+m<=n/\j.size=(n-(O+m))*q/\
  ∀ev∈(Builtin.append_ #[t,t] W #[.slice ON O sc,.slice (some a) m c]).events prog w #[],(∃o,ev.loc=.cell o/\ev.write=false/\(o.block=a.block\/∃b,ON=some b/\o.block=b.block))\/ev=noRoomEvent:=by
 let⟨inf,z,p,x,v,_,B,A,j⟩:=kv r;have f:olds.length=O*inf.size:=ξ
 have i:news.length=m*inf.size:=ξ
 have k:(Builtin.firstCells inf.size O (.slice ON O sc)).run prog w.drew=.ok olds.toArray w.drew:=by
  cases ON with
  |none=>
   have e:olds=[]:=WC ξ;rw[e];rfl
  |some b=>exact run_firstCells_some (P:=prog) w.drew inf.size O b O sc olds f ξ
 have j:=run_firstCells_some (P:=prog) w.drew inf.size m a m c news i ξ;have f:=growslice_fits (need:=O+m) (old:=sc) (bytes:=inf.bytes) ω (by rw[B];exact aT (Nat.mul_le_mul (az _) s) C);have q:=run_append_grow_src (P:=prog) w t t W e inf z p x v ON O sc olds k (.slice (some a) m c) m news (Src.ofSlice w p a m c news i d E) D ω f;refine⟨_,_,q,grownCap_ge w (O+m) sc e,by rw[size_zeroCells,A],λev l=>?_⟩;have f:¬(O+m<=sc):=ω
 have c:¬(9223372036854775807<((O:Int)+(m:Int))):=ω
 have d:¬(281474976710656<Builtin.nextslicecap (O+m) sc*inf.bytes):=ω
 simp[Builtin.append_,run_underlying p,sizeOf,typeInfo,zeroValue,x,v,Builtin.lenOf,f,c,d,Question.forced,k,j,newRow]at l;rcases events_firstCells_in (P:=prog) (λg=>g=a.block\/∃b,ON=some b/\g=b.block) inf.size m _ w.drew _ (λj c n e=>by
  simp_all) ev l with h|⟨o,i,f,d⟩
 .rcases events_firstCells_in (P:=prog) (λg=>g=a.block\/∃b,ON=some b/\g=b.block) inf.size O _ w.drew _ (λj c n e=>by
   simp_all) ev h with h|⟨o,i,f,d⟩
  .exact .inr (qC _ _ ev h)
  simp_all
 simp_all
def aB.Om(D:Qc prog t e q U=true)(N:U<=48)(F:aB prog Q (DX Ok) V)(Z:X[i]? =some o)(T:Region.wanted o (yielded X a.tmps)=true)(H:b.kind≠.early)(s x:Operand)(y:o.op=.call {callee:=.builtin .append,args:=#[s,x],argTypes:=#[t,t]}){p:Addr}(R:a.eval s=.slice ON O sc)(P:a.eval x=.slice (some p) m c)(E:olds.length=O*q)(holds:∀a,ON=some a->∀j u,olds[j]? =some u->w.cell? (a.add j)=some u)(A:ON=none->O=0)(hl:news.length=m*q)(f:∀j u,news[j]? =some u->w.cell? (p.add j)=some u)(h1:∀u∈news,u.oneCell'=true)(hg:sc<O+m)(u:(O+m)*48<=140737488355328)(r:∀l,ON=some l->l.block<w.heap.size/\∀a:Addr,a.block=l.block->Ok a false)(v:p.block<w.heap.size/\∀a:Addr,a.block=p.block->Ok a false)(h:∀C n j,O+m<=C->n.size=(C-(O+m))*q->w.alloc (.cells ((olds++news).toArray++n) e)=j->V (G (b.at (a.put o.dst (.slice (some ⟨w.heap.size,0,none⟩) (O+m) C)) (.inRegion X J::k)) Y) j):
 V (G (b.at a (.inRegion X (i::J)::k)) Y) w:=by
 refine F.OA Z T H λd K b=>?_;let⟨C,n,a,hc,M,L⟩:=EJ D N (w.at d) o.type (ON:=ON) (sc:=sc) (a:=p) (c:=c) E holds A hl f h1 hg u;have B:(w.at d).grownBy ((w.at d).drew.alloc (.cells ((olds++news).toArray++n) e)) none:=⟨rfl,rfl,rfl,ψ,λk H _=>Below.heap_alloc (w.at d).drew _ k H⟩;refine uponK_append s x t y R P a (b _ _ ⟨WG (g:=none) (λev W=>?_) B (λg I=>by cases I) (λp wr z=>by cases z),?_⟩)
 .have S:=mem_listed W;rw[events_append_op s x t y R P]at S;rcases L ev S with ⟨b,c,f,a⟩|c
  .refine .inl ⟨b,c,rfl,?_,?_⟩
   .rw[f];rcases a with a|⟨l,a,b⟩
    .exact v.2 _ a
    .exact(r l a).2 _ b
   .refine ga ?_ B.size;rcases a with a|⟨l,a,b⟩
    .rw[a];exact v.1
    .rw[b];exact(r l a).1
  .exact .inr c
 .exact F.at' _ (w.alloc (.cells ((olds++news).toArray++n) e)) (d+1) (h C n _ hc M rfl)
def EK(a:Qc prog t e q U=true)(w:aj)(W:TypeId)(e:ON=none->O=0){x:eP}(b:O<=sc):(Builtin.append_ #[t,t] W #[.slice ON O sc,.slice x 0 c]).run prog w=.ok (.slice ON O sc) w/\(Builtin.append_ #[t,t] W #[.slice ON O sc,.slice x 0 c]).events prog w #[]=#[]:=by
 let⟨inf,z,f,d,_,_,_,_,c⟩:=kv a;cases x<;>cases ON<;>simp[Builtin.append_,run_underlying f,sizeOf,typeInfo,d,Builtin.lenOf,b,Builtin.firstCells,loadCells,loadCellsFrom,storeCells]
def aB.app0(j:Qc prog t e q U=true)(F:aB prog Q (DX Ok) V)(y:X[i]? =some o)(q:Region.wanted o (yielded X a.tmps)=true)(B:b.kind≠.early)(s x:Operand)(f:o.op=.call {callee:=.builtin .append,args:=#[s,x],argTypes:=#[t,t]}){n:eP}(r:a.eval s=.slice ON O sc)(p:a.eval x=.slice n 0 c)(A:ON=none->O=0)(e:O<=sc)(h:V (G (b.at (a.put o.dst (.slice ON O sc)) (.inRegion X J::k)) Y) w):
 V (G (b.at a (.inRegion X (i::J)::k)) Y) w:=by
 refine F.OA y q B λd K b=>?_;let⟨a,m⟩:=EK j (w.at d) o.type (x:=n) (c:=c) A e;refine uponK_append s x t f r p a (b _ _ ⟨WG (g:=none) (λev v=>?_) ⟨rfl,rfl,rfl,az _,λ_ _ _=>rfl⟩ (λg l=>by cases l) (λa wr z=>by cases z),F.at' _ _ _ h⟩);have u:=mem_listed v;rw[events_append_op s x t f r p,m]at u;simp at u
def Lit(M:aW)(ON:eP)(L0:List iN):Prop:=(ON=none/\L0=[])\/∃Z y p,ON=some ⟨Z,0,none⟩/\L0=[y]/\nth M p=some (bR Z (qg y))
def Mb(o:Oper)(x d W:Nat):Bool:=o.guard.isNone&&(match o.dst with|some d'=>d'==d|none=>false)&&(match o.op with
 |.slice t (.tmp x') (some (.const (.int .i64 l))) none none=>t==W&&x'==x&&l==1
 |_=>false)
def HZ(h:Mb o x d W=true):o.guard=none/\o.dst=some d/\o.op=.slice W (.tmp x) (some (.const (.int .i64 1))) none none:=by
 unfold Mb at h;simp only[bZ]at h;let⟨⟨_,_⟩,a⟩:=h;have a:o.guard=none:=by
  simp_all
 grind
def vu(a:Qc prog W e n U=true)(w:aj)(b:q+1<=cap):(Instr.sliceAt W (.slice (some ca) (q+1) cap) (some (.int .i64 1)) none none).run prog w=.ok (.slice (some (if cap=1 then ca else ca.add n)) q (cap-1)) w/\
 (Instr.sliceAt W (.slice (some ca) (q+1) cap) (some (.int .i64 1)) none none).events prog w #[]=#[]:=by
 let⟨inf,z,c,b,_,d,_,_,e⟩:=kv a;have a:(1:Int)<=(q:Int)+1:=ω
 constructor
 .simp[Instr.sliceAt,run_underlying c,Instr.slice,Instr.sliceBounds,Instr.sliceBound,asIntOf,sizeOf,typeInfo,b,d,a];grind
 .simp[Instr.sliceAt,run_underlying c,Instr.slice,Instr.sliceBounds,Instr.sliceBound,asIntOf,sizeOf,typeInfo,b,a]
def Ub(f:Qc prog W e n U=true)(F:aB prog Q (DX Ok) V)(o:b.kind≠.early){t:eC}(x d:Nat)(m:kI t=true)(e:Mb (aQ t) x d W=true)(p:d<N)(k:look E x=some (.slice (some ca) (q+1) cap))(h:q+1<=cap)(S:St Ok B' N E M c a w)(K:∀j,aR ((d,.slice (some (if cap=1 then ca else ca.add n)) q (cap-1))::E) N j->j.defers=a.defers->V (G (b.at j (jB t)) Y) w):V (G (b.at a t) Y) w:=by
 let⟨X,i,r,b,l,d,n⟩:=dH m;let⟨r,m,i⟩:=HZ e;have b:a.eval (.tmp x)=.slice (some ca) (q+1) cap:=by rw[S.env.eval (by simp[kn,k])];simp[ev,k]
 have c:a.eval (.const (.int .i64 1))=.int .i64 1:=rfl;rw[l];refine F.AZ d (by simp[Region.wanted,r]) o (λg=>?_) λg a a=>?_
 .unfold execOp;simp only[i,fI,YU,b,c,YV,(vu f (w.at g) (ca:=ca) h).1,(vu f (w.at g) (ca:=ca) h).2,xg];rfl
 .unfold execOp;simp only[i,fI,YU,b,c,Am,(vu f (w.at g) (ca:=ca) h).1,Hv];refine a _ ?_;rw[<-n,m];exact K _ (S.env.put p) (put_defers _ _ _)
def kG{p:Nat}(a:aH)(h:nth M p=some r):nth (cG M p a) p=some a:=by rw[dX];simp[h]
def jM:∀(M:aW)(p:Nat)(a b:aH),cG (cG M p a) p b=cG M p b
 |[],_,_,_=>by simp[cG]
 |_::_,0,_,_=>by simp[cG]
 |_::M,p+1,a,b=>by simp only[cG];rw[jM M p a b]
def fU(f:Nat->α)(k:Nat):upd f k (f k)=f:=by funext j;unfold upd;split<;>simp_all
def LS.pU(y:ju)(t j:Nat)(L:LS):LS:=
 if((L.gt j).st=0/\y.b<=(L.gt j).la.length\/(L.gt j).st=2/\((L.gt j).la.length:Int)=y.e)/\over y (L.gt j).la=true then(L.aO j ((L.gt j).turn L.now 1)).say t j 9 0
 else if(L.gt j).st=2/\((L.gt j).la.length:Int)=y.e then(L.aO j ((L.gt j).turn L.now 0)).say t j 11 0 else L
def uS{L:iy}(h:i<L.length):dY (L.take (i+1))=dY (L.take i)+(if L.getD i false=true then 1 else 0):=by
 unfold dY;rw[List.take_add_one,mZ h,ni,mZ h];cases a:L[i]<;>simp
def Yy(L:iy):dY L<=L.length:=List.length_filter_le _ _
def pW{y:ju}{k:Nat}{b:Bk}{L:LS}(c:(L.tk t).q k=(L.gt k).pd)(d:¬(bq b=3\/bq b=5)):L.count y t k b=(L.aO k {L.gt k with la:=(L.gt k).keep y (decide (b.k≠1))}).pU y t k:=by
 have e:∀g:Gt,(L.aO k g).gt k=g:=λg=>by simp[LS.aO,upd]
 have b:∀g a:Gt,(L.aO k g).aO k a=L.aO k a:=λg a=>by
  unfold LS.aO;congr 1;funext j;unfold upd;by_cases h:j=k<;>simp[h]
 unfold LS.count LS.pU;rw[af (by rw[c];simp),af d];simp only[e,b];rfl
def fu.app(H:fu C h L)(A:aW):fu (A++C) h L:=by
 rcases H with H|⟨ca,cap,i,b,a⟩
 .exact .inl H
 .exact .inr ⟨ca,cap,A.length+i,b,by rw[kR,af ω,D4];exact a⟩
def gO(h:nth M i=some r):r∈M:=by rw[dF]at h;grind
def lP(h:r∈M):∃i,nth M i=some r:=by
 let⟨i,a⟩:=u9 h;exact⟨i,by rw[dF];exact a⟩
def Sat.kp{C:List Addr}(h:Sat Ok w M)(k:Kp [] w I C)(d:∀r∈M,∀j,r.has j->r.ad j∉C)(f:∀r∈M,∀g e n,r.row=some (g,e,n)->∀x∈C,x.block≠g):Sat Ok I M:=by
 refine⟨λi r a j b=>?_,λi r a j b=>?_,h.sep,λi r a g e n c=>?_⟩
 .exact k.cellC _ _ ψ (d r (gO a) j b) (h.val i r a j b)
 .have:=h.ok i r a j b;exact⟨this.1,λz=>⟨(this.2 z).1,(k.Q6 _ _ ψ (d r (gO a) j b) (h.val i r a j b)).trans (this.2 z).2⟩⟩
 .let⟨m,l,b,j,d⟩:=h.row i r a g e n c;exact⟨m,l,b,k.blk g b e (0,0) ψ (f r (gO a) g e n c) j,d⟩
def Sat.PZ(h:Sat Ok w M)(k:Kp [] w I []):Sat Ok I M:=h.kp k (λ_ _ _ _=>ψ) (λ_ _ _ _ _ _ x a=>by cases a)
def Sat.OB(h:Sat Ok w M)(d:∀r∈M,∀j,r.has j->Ok (r.ad j) false->Wy (r.ad j) false)(c:∀r∈M,r.wr=true->∀j,r.has j->Ok (r.ad j) true->Wy (r.ad j) true):Sat Wy w M:=by
 refine⟨h.val,λi r b j a=>?_,h.sep,h.row⟩;have:=h.ok i r b j a;exact⟨d r (gO b) j a this.1,λz=>⟨c r (gO b) z j a (this.2 z).1,(this.2 z).2⟩⟩
def Sat.dj(h:Sat Ok w M){a:aH}(d:r∈M)(b:a∈M)(g:r.wr=true)(c:a.wr=false){j j':Ix}(k:r.has j)(c:a.has j'):r.ad j≠a.ad j':=λe=>by
 let⟨i,l⟩:=lP d;let⟨f,d⟩:=lP b;obtain⟨rfl,_⟩:=h.sep i r f a l d g j j' k c e;simp_all
def Sat.blk(h:Sat Ok w M)(a:r∈M){j:Ix}(b:r.has j):(r.ad j).block<w.heap.size:=au ((h.mem a).val j b)
def l9{b i0:Nat}{r0:aH}{j0:Ix}(h:Sat Ok w (pM s++C))(P:PV Ok s es)(m:Flat C)(j:nth (pM s++C) i0=some r0)(o:i0≠1)(o:i0≠3)(i:r0.has j0)(l:r0.ad j0=⟨b,0,none⟩):
 ∀r∈pM s++C,∀g e n,r.row=some (g,e,n)->b≠g:=by
 intro r c g e n a f;subst f;rcases dJ.1 c with c|c
 .simp only[pM,ak,bH,or_false]at c;rcases c with rfl|rfl|rfl|rfl|rfl|rfl|rfl
  .cases a
  .let⟨d,k,_⟩:=h.row 1 _ rfl b e n a;have:=(h.sep 1 _ i0 r0 rfl j rfl (0,0) j0 d i ξ).1;omega
  .cases a
  .let⟨d,k,_⟩:=h.row 3 _ rfl b e n a;have e:s.ea=some ⟨b,0,none⟩:=by
    rcases P.jr.row with ⟨z,_⟩|⟨g,b,_⟩
    .simp_all
    simp_all
   have:=(h.sep 3 _ i0 r0 rfl j rfl (0,0) j0 d i (by
    rw[l];show((s.ea.getD ⟨0,0,none⟩).add (0*5)).add 0=_;rw[e];rfl)).1
   omega
  .cases a
  .cases a
  .cases a
 .rw[bO.1 m r c]at a;cases a
def fu.pre(x:fu C h L)(A:aW):fu (C++A) h L:=by
 rcases x with x|⟨ca,cap,i,b,a⟩
 .exact .inl x
 .exact .inr ⟨ca,cap,i,b,by rw[kR,sJ (qH _ _ _ a)];exact a⟩
def nq{b o:Nat}(h:∀j,j<vs.length->w.cell? ⟨b,o+j,none⟩=some (vs.getD j undef))(d:∀j,j<vs.length->Ok ⟨b,o+j,none⟩ false):xE Ok w (oR b o vs false):=by
 refine⟨λj a=>?_,λj a=>⟨d j.2 a.2,λz=>(by cases z)⟩,λz=>(by cases z),λg e n z=>(by cases z)⟩;have c:j.2<vs.length:=a.2;have:=h j.2 c;cases vs with
 |nil=>cases c
 |cons z a=>exact this
def qB{b o:Nat}(h:∀j,j<vs.length->w.cell? ⟨b,o+j,none⟩=some (vs.getD j undef)/\w.frozen? ⟨b,o+j,none⟩=false)(i:∀j,j<vs.length->Ok ⟨b,o+j,none⟩ false/\Ok ⟨b,o+j,none⟩ true):xE Ok w (oR b o vs true):=by
 refine⟨λj a=>?_,λj a=>⟨(i j.2 a.2).1,λz=>⟨(i j.2 a.2).2,(h j.2 a.2).2⟩⟩,λ_ j f a d e=>?_,λg e n z=>(by cases z)⟩
 .have c:j.2<vs.length:=a.2;have:=(h j.2 c).1;cases vs with
  |nil=>cases c
  |cons z b=>exact this
 .have b:o+j.2=o+f.2:=cT Addr.off e;have b:j.1<1:=a.1;have c:f.1<1:=d.1;grind
def AA(F:aB prog Q (DX Ok) V)(hB:HB B Ok){cf:aC}{ff k cl bl bo bi:Nat}{at':Int}(J:Sat Ok w (pM s++(oR s.k.A 2 [i6 k] true::C)))(H:PV Ok s es)(hC:Flat C)(R:B<=w.heap.size)(hq:es.length<1000000)(Tt:k<1000000)(K:∀O N q T U B R i I,i<=es.length->iM es at' i->Sat Ok I (pM {s with en:=B,eb:=R}++(oR s.k.A 2 [i6 ((k:Int)+1)] true::oR T 0 [ptr s.k.A,i6 k,i6 cl,.chan (some q)] false::dO T (.pointer none) (.slice none 0 0) false false::oR O 0 [ptr s.k.A] false::oR N 0 [.func (.func ff) #[] #[ptr bl,ptr bo,ptr bi]] false::oR U 0 [ptr T] false::C))->
 PV Ok {s with en:=B,eb:=R} (es.take i++(at',.func (.func 48) #[] #[ptr O,ptr U,ptr N])::es.drop i)->kN I q->w.heap.size<=q/\w.heap.size<=T/\T<I.heap.size/\T≠q->w.heap.size<=I.heap.size->Kp (cw s.en) w I [⟨s.k.A,1,none⟩,⟨s.k.A,2,none⟩]->V (G (cf.finish (ptr T)) Y) I):
 V (G (Frame.enter prog 29 #[ptr s.k.A,i6 cl,i6 at',.func (.func ff) #[] #[ptr bl,ptr bo,ptr bi]] .normal) (cf::Y)) w:=by
 have G:=J.ok 0 _ rfl (0,1) ⟨aD,gr 1⟩;have TG:=J.val 0 _ rfl (0,1) ⟨aD,gr 1⟩;have R:nth (pM s++(oR s.k.A 2 [i6 k] true::C)) 7=some (oR s.k.A 2 [i6 k] true):=rfl;have OR:=J.val 7 _ R (0,0) ⟨aD,aD⟩;have B:=J.ok 7 _ R (0,0) ⟨aD,aD⟩;have hAl:=au TG;have he:fZ (s.k.A+1) w s.en es:=Mp (i:=1) J rfl H.en λz=>(H.eo z).1;have S:∀g,g∈cw s.en->s.eb.c=1/\g=s.eb.E:=λg M=>by
  rcases H.en.2 with ⟨R,z2,z3⟩|⟨o,c,R,z2,_⟩
  .rw[R,bS]at M;simp[Value.ownBlock]at M
  .rw[R,bS]at M;simp[Value.ownBlock]at M;omega
 refine GS ff (s.k.A+1) s.k.A bl bo bi cl k at' s.en es w (by exact hAl) (gr _) he hq Tt TG OR (G.2 rfl).2 (B.2 rfl).2 G.1 (G.2 rfl).1 B.1 (B.2 rfl).1 (λa wr h=>?_) V F cf Y λv I F=>?_
 .rcases h with h|h
  .let⟨R,z2⟩:=S _ h;exact(H.eo R).2 a wr z2
  .exact hB a wr ω
 obtain⟨O,N,q,T,U,P,D,i,rfl,hk,⟨B,B,B,B,B,B,B,B,B,B,B,B⟩,OO,TA,TB,x,mQ,c1,c2,d1,d2,W,UT,c3,c4⟩:=F;have B:(es.take i++(at',Value.func (.func 48) #[] #[ptr O,ptr U,ptr N])::es.drop i).length=es.length+1:=θ
 have B:=l9 (b:=s.k.A) J H (hC.cons rfl) (i0:=0) (j0:=(0,0)) rfl δ δ ⟨aD,(by decide:0<2)⟩ rfl;have Z:Sat Ok w (bR s.k.A [i6 s.l.now,s.en]::eR s.eb::((pM s).tail.tail++C)):=J.BC (A:=pM s);have h7d:∀r∈bR s.k.A [i6 s.l.now,s.en]::eR s.eb::((pM s).tail.tail++C),Dj (oR s.k.A 2 [i6 k] true) r:=by
  have:=J.perm (eY (a:=oR s.k.A 2 [i6 k] true) (l₁:=pM s) (l₂:=C));exact(iG.1 (sat_iff.1 this).2).1
 have F:∀v:Value,(oR s.k.A 2 [v] true).has (0,0):=λv=>⟨aD,aD⟩
 let⟨m,q1,q2,v,q4,q5⟩:=Sat.K6 (C':=[⟨s.k.A,2,none⟩]) Z H.en (λz=>(H.eo z).1) (λa wr z=>hB a wr ω) (λz=>(H.eo z).2) (λa a=>χ) (λi r W j d z=>by
  simp only[ak,bH,or_false]at z;exact h7d r (aP _ (aP _ (gO W))) (.inl rfl) (0,0) j (F _) d z.symm) hk c1 c2 c3 (λg M=>(c4 g M).imp id λz=>ω) χ (λi r g e n W M=>λz=>B r (by
  have:=gO W;rcases dJ.1 this with z|z
  .exact gU _ (aP _ (aP _ z))
  grind) g e n M z.symm)
 have a:(m.E<w.heap.size\/P<=m.E):=by
  rcases q2.2 with ⟨_,_,z⟩|⟨o,c,z,_⟩
  .omega
  .rcases c4 m.E (by rw[z,bS];rfl)with y|y
   .let⟨a,c⟩:=S _ y;let⟨cu,c,_⟩:=uw J (i:=1) rfl a;grind
   omega
 have a:s.k.A<w.heap.size:=hAl;have l:∀(b o:Nat)(vs:iO)(wr:Bool),w.heap.size<=b->b<P->∀r∈bR s.k.A [i6 s.l.now,D]::eR m::((pM s).tail.tail++C),Dj (oR b o vs wr) r:=λb o vs wr h1 h2 r f _ j L d A e=>by
  have e1:b=(r.ad L).block:=cT Addr.block e;rcases ak.1 f with rfl|f
  .grind
  .rcases ak.1 f with rfl|f
   .grind
   .have:=Z.blk (aP _ (aP _ f)) A;omega
 have a:∀r∈bR s.k.A [i6 s.l.now,D]::eR m::((pM s).tail.tail++C),Dj (oR s.k.A 2 [i6 ((k:Int)+1)] true) r:=λr f hw j L d A e=>by
  rcases ak.1 f with rfl|f
  .have e1:2+j.2=L.2:=cT Addr.off e;have:L.2<2:=A.2;omega
  .rcases ak.1 f with rfl|f
   .grind
   .exact h7d r (aP _ (aP _ f)) (.inl rfl) j L d A e
 have u:∀(r E:aH),r.wr=false->E.wr=false->Dj r E:=λr E h1 h2 hw=>by
  grind
 have p:∀(b g o n:Nat)(vs c:iO)(wr a:Bool),b≠g->Dj (oR b o vs wr) (oR g n c a):=λb g o n vs c wr a a _ j L _ _ e=>a (cT Addr.block e);have t:∀(b o:Nat)(wr:Bool),w.heap.size<=b->Ok ⟨b,o,none⟩ wr:=λb o wr h=>hB _ _ χ;refine K O N q T U D m i I W UT ?_ {H with en:=q2,eo:=λ_=>⟨q4,q5⟩} mQ ⟨ω,ω,ω,ω⟩ hk.size hk;have X:Sat Ok I ([oR s.k.A 2 [i6 ((k:Int)+1)] true,oR T 0 [ptr s.k.A,i6 k,i6 cl,.chan (some q)] false,dO T (.pointer none) (.slice none 0 0) false false,oR O 0 [ptr s.k.A] false,oR N 0 [.func (.func ff) #[] #[ptr bl,ptr bo,ptr bi]] false,oR U 0 [ptr T] false]++(bR s.k.A [i6 s.l.now,D]::eR m::((pM s).tail.tail++C))):=by
  have a:=sat_iff.1 q1;rw[sat_iff];refine⟨λr f=>?_,YS.2 ⟨?_,a.2,λr f E a=>?_⟩⟩
  .rcases dJ.1 f with f|f
   .simp only[ak,bH,or_false]at f;rcases f with rfl|rfl|rfl|rfl|rfl|rfl
    .refine qB (λj d=>?_) (λj d=>?_)
     .have:j=0:=uj.1 d;subst this;exact⟨d1,d2⟩
     .have:j=0:=uj.1 d;subst this;grind
    .refine nq (λj d=>?_) (λj d=>t _ _ _ ω);match j,d with
     |0,_=>exact x.t0
     |1,_=>exact x.t1
     |2,_=>exact x.t2
     |3,_=>exact x.t3
    .refine qB (λj d=>?_) (λj d=>⟨t _ _ _ ω,t _ _ _ ω⟩);match j,d with
     |0,_=>exact⟨x.t4,x.z4⟩
     |1,_=>exact⟨x.t5,x.z5⟩
     |2,_=>exact⟨x.t6,x.z6⟩
     |3,_=>exact⟨x.t7,x.z7⟩
    .exact nq (λj d=>by have:j=0:=uj.1 d
                        subst this;exact OO) (λj d=>t _ _ _ ω)
    .exact nq (λj d=>by have:j=0:=uj.1 d
                        subst this;exact TA) (λj d=>t _ _ _ ω)
    .exact nq (λj d=>by have:j=0:=uj.1 d
                        subst this;exact TB) (λj d=>t _ _ _ ω)
   grind
  .simp only[iG,ak,bH,or_false,forall_eq_or_imp,forall_eq,false_implies,implies_true,and_true,List.Pairwise.nil];refine⟨⟨p _ _ _ _ _ _ _ _ ω,p _ _ _ _ _ _ _ _ ω,p _ _ _ _ _ _ _ _ ω,p _ _ _ _ _ _ _ _ ω,p _ _ _ _ _ _ _ _ ω⟩,⟨?_,u _ _ rfl rfl,u _ _ rfl rfl,u _ _ rfl rfl⟩,⟨p _ _ _ _ _ _ _ _ ω,p _ _ _ _ _ _ _ _ ω,p _ _ _ _ _ _ _ _ ω⟩,⟨u _ _ rfl rfl,u _ _ rfl rfl⟩,u _ _ rfl rfl⟩;intro _ j L d A e;have e1:0+j.2=4+L.2:=cT Addr.off e;have:j.2<4:=d.2;omega
  .simp only[ak,bH,or_false]at f;rcases f with rfl|rfl|rfl|rfl|rfl|rfl
   .grind
   .exact l _ _ _ _ ω ω E ω
   .exact l _ _ _ _ ω ω E ω
   .exact l _ _ _ _ ω ω E ω
   .exact l _ _ _ _ ω ω E ω
   .exact l _ _ _ _ ω ω E ω
 exact X.perm (fA _ (pM {s with en:=D,eb:=m}) C)
def Sat.R0(h:Sat Ok w M)(f:HB w.heap.size Ok)(b:gd)(e:TypeId):Sat Ok (w.alloc (.cells b e)) (fR ⟨w.heap.size,0,none⟩ 1 (λj=>[(b[j]?).getD undef]) b.size true::M):=by
 have l:=sat_iff.1 (h.new b e f).tail;refine sat_iff.2 ⟨λr c=>?_,iG.2 ⟨λr c b j g k d e=>?_,l.2⟩⟩
 .rcases ak.1 c with rfl|c
  .refine rI (λj k i b=>?_) (λa wr b=>f a wr ω);simp_all
  simp_all
 .have a:=au (((sat_iff.1 h).1 r c).val g d);simp only[add_add]at e;grind
def Sat.inst(h:Sat Ok w (r::M))(p:Nat):Sat Ok w (cG M p r):=by
 refine h.map (λi=>if i=p then 0 else i+1) (λi b a=>?_) (λi j b a _ e=>?_)
 .rw[dX]at a;by_cases z:i=p
  .simp only[z,if_true]at a ⊢;cases c:nth M p with
   |none=>simp_all
   |some q=>rw[c]at a;simp at a;exact⟨r,rfl,.inl a.symm⟩
  .simp only[z,if_false]at a ⊢;exact⟨b,a,.inl rfl⟩
 grind
def EI(k:Qc prog T e 1 U=true)(w:aj)(W:TypeId){b off:Nat}{x u:ay}(t:w.cell? ⟨Z,0,none⟩=some x)(s:x.oneCell'=true)(y:w.cell? ⟨b,off+n,none⟩=some u)(A:w.frozen? ⟨b,off+n,none⟩=false)(B:n<c):
 (Builtin.append_ #[T,T] W #[.slice (some ⟨b,off,none⟩) n c,.slice (some ⟨Z,0,none⟩) 1 1]).run prog w=.ok (.slice (some ⟨b,off,none⟩) (n+1) c) (w.setCell ⟨b,off+n,none⟩ x)/\
 ∀ev∈(Builtin.append_ #[T,T] W #[.slice (some ⟨b,off,none⟩) n c,.slice (some ⟨Z,0,none⟩) 1 1]).events prog w #[],(∃f,ev.loc=.cell f/\ev.write=false/\f.block=Z)\/∃f,ev.loc=.cell f/\f.block=b:=by
 let⟨inf,z,p,o,_,g,_,_,u⟩:=kv k;have r:∀(j:Nat)(v:ay),[x][j]? =some v->w.cell? ((⟨Z,0,none⟩:Addr).add j)=some v:=λj v m=>by
  rcases j with _|j
  .simp at m;subst m;exact t
  simp_all
 have k:n+1<=c:=B;have q:=run_append_room_cells (P:=prog) w T W e inf p o b off n c ⟨Z,0,none⟩ 1 1 [x] (by rw[g];rfl) r ξ k (λj m=>ξ) (λj m=>ξ);rw[g,lm]at q;refine⟨q,λev d=>?_⟩;have i:=run_firstCells_some (P:=prog) w inf.size 1 ⟨Z,0,none⟩ 1 1 [x] (by rw[g];rfl) r;simp[Builtin.append_,run_underlying p,sizeOf,typeInfo,o,Builtin.lenOf,k,ey,g]at d;rw[g]at i;simp only[i,xg,storeCells,YV,ey,jI]at d;rw[run_store prog w _ x _ s,events_store prog w _ _ x _ s,y]at d;simp[A]at d;rcases d with d|rfl
 .rcases events_firstCells_in (P:=prog) (·=Z) 1 1 _ w _ (λa l c e=>by
   grind) ev d with h|⟨f,a,a,a⟩
  .simp at h
  simp_all
 simp
def Wo(J:Qc prog T e 1 U=true)(W:U<=8)(F:aB prog Q (DX Ok) V)(hB:HB B Ok)(hk:b.kind=.normal){t:eC}(s x d p p2:Nat){base:eP}{g o0 o len:Nat}{y:ay}{v:eX}(ho:kI t=true)(UZ:oD (aQ t) s x d T=true)(hd:d<N)(hs:look E s=some (.slice base len cap))(hx:look E x=some (.slice (some ⟨Z,0,none⟩) 1 1))(hb:base=some ⟨g,o0+o,none⟩\/base=none/\o=0/\cap=0)(L:nth M p=some (fR ⟨g,o0,none⟩ 1 v n true))(hnn:o+cap<=n/\(0<cap->n=o+cap))(h1y:y.oneCell'=true)(OI:nth M p2=some (bR Z [y]))(M5:∀H,base=some H->g<w.heap.size/\∀(m:Addr)(wr:Bool),m.block=g->Ok m wr)(n:len<=cap)(hq:len<1000000)(n:B<=B')(n:B<=Z)(S:St Ok B' N E M c a w)(K:∀W B n v' C a' I,(B=o0\/B=0)->(n=o\/n=0)->Sat Ok I (cG M p (fR ⟨W,B,none⟩ 1 v' (n+C) true))->(∀j,j<len->(v' (n+j)).getD 0 undef=(v (o+j)).getD 0 undef)->(v' (n+len)).getD 0 undef=y->(base=some ⟨W,B+n,none⟩\/B'<=W/\n=0)->w.heap.size<=I.heap.size->len+1<=C->aR ((d,.slice (some ⟨W,B+n,none⟩) (len+1) C)::E) N a'->a'.defers=a.defers->V (G (b.at a' (jB t)) Y) I):V (G (b.at a t) Y) w:=by
 let⟨X,i,r,_,b,O,hn⟩:=dH ho;let⟨g1,g2,g3⟩:=mh UZ;have h:∀q v,look E q=some v->a.eval (.tmp q)=v:=λq v hq=>by rw[S.env.eval (by simp[kn,hq])];simp[ev,hq]
 have D:=S.sat;have d:=S.sz;have ZX:HB w.heap.size Ok:=λa wr z=>hB a wr ω;have A:w.cell? ⟨Z,0,none⟩=some y:=D.val p2 _ OI (0,0) ⟨aD,aD⟩;rw[b];by_cases hc:len<cap
 .rcases hb with P|⟨_,_,z⟩
  .obtain rfl:=hnn.2 ω;let⟨b,z3⟩:=M5 _ P;subst P;have l:(fR ⟨g,o0,none⟩ 1 v (o+cap) true).has (o+len,0):=⟨χ,aD⟩;have ea:(fR ⟨g,o0,none⟩ 1 v (o+cap) true).ad (o+len,0)=⟨g,o0+o+len,none⟩:=by simp[ey,Nat.add_assoc]
   have hv:=D.val p _ L _ l;have R:=((D.ok p _ L _ l).2 rfl).2;rw[ea]at hv R;refine F.OA O (by simp[Region.wanted,g1]) χ λd' b i=>?_;let⟨b,d⟩:=EI J (w.at d') (aQ t).type (n:=len) (c:=cap) A h1y hv R hc;refine uponK_append (.tmp s) (.tmp x) T g3 (h s _ hs) (h x _ hx) b (i _ _ ⟨WG (g:=some g) (λe b=>?_) ⟨rfl,rfl,rfl,ψ,λk _ hk=>?_⟩ (λbb e=>?_) (λm wr e=>z3 m wr χ),F.at' _ (w.setCell ⟨g,o0+o+len,none⟩ y) d' ?_⟩)
   .have hm:=mem_listed b;rw[events_append_op (.tmp s) (.tmp x) T g3 (h s _ hs) (h x _ hx)]at hm;rcases d e hm with ⟨m,d,e2,b⟩|⟨m,d,b⟩
    .exact .inl ⟨m,d,rfl,by rw[e2];exact hB m false ω,by rw[b];show Z<(w.heap.modify _ _).size;simpa using au A⟩
    .exact .inl ⟨m,d,rfl,z3 m _ b,by rw[b];show g<(w.heap.modify _ _).size;grind⟩
   .have:g≠k:=λz=>hk (by rw[z]);simp[World.setCell,sU,this]
   .cases e;have:=hv;unfold World.cell? at this;cases hh:w.heap[g]? with
    |none=>grind
    |some o=>cases o with
     |cells c t f=>exact⟨c,t,f,hh⟩
     |_=>grind
   .rw[<-hn,g2];have h3:=D.set L rfl l rfl y;rw[ea]at h3;have h4:=h3.re p (kG _ L) rfl (λj=>[if j=o+len then y else(v j).getD 0 undef]) (λj l f R=>?_)
    .rw[jM]at h4;exact K g o0 o _ cap _ _ (.inl rfl) (.inl rfl) h4 (λj l=>χ) ψ (.inl rfl) ψ hc (S.env.put hd) (put_defers _ _ _)
    .have b:f<1:=R;obtain rfl:f=0:=ω
     simp only[aH.set,JD];simp
  .omega
 .have b:cap=len:=ω
  have TW:∀H,base=some H->∀(j:Nat)(u:ay),((List.range len).map λj=>(v (o+j)).getD 0 undef)[j]? =some u->w.cell? (H.add j)=some u:=λH LM j u l=>by
   have b:j<len:=χ
   have:=D.val p _ L (o+j,0) ⟨χ,aD⟩;obtain rfl:H=⟨g,o0+o,none⟩:=by
    grind
   simp only[aH.get,lm,ey,jI,<-Nat.add_assoc]at this;rw[ey,this];grind
  refine aB.Om J ω F O (by simp[Region.wanted,g1]) χ (.tmp s) (.tmp x) g3 (olds:=(List.range len).map λj=>(v (o+j)).getD 0 undef) (news:=[y]) (h s _ hs) (h x _ hx) ψ TW (λz=>ξ) rfl (λj u l=>?_) χ ω ω (λbb LM=>χ) ⟨au A,λa b=>hB a false χ⟩ λC rs a hc a Dz=>?_
  .rcases j with _|j
   .simp at l;subst l;exact A
   grind
  .rw[<-hn,g2];subst Dz;have h2:=D.R0 ZX (((List.range len).map (λj=>(v (o+j)).getD 0 undef)++[y]).toArray++rs) e;have e2:(((List.range len).map (λj=>(v (o+j)).getD 0 undef)++[y]).toArray++rs).size=C:=θ
   rw[e2,<-bK C]at h2;refine K w.heap.size 0 0 _ C _ _ (.inr rfl) (.inr rfl) (h2.inst p) (λj l=>?_) ?_ (.inr ⟨ω,rfl⟩) ψ ω (S.env.put hd) (put_defers _ _ _)
   .grind
   .rw[bK,ve ψ];simp
def Ah:cV P program=some P:=rfl
def Bc(c:Prop)[Decidable c](x y:Sem α):cV P (if c then x else y)=if c then cV P x else cV P y:=by split<;>rfl
def PL(d:Nat)(t:TypeId)(k b:IntKind)(a:Int)(h:P.underlying t=some (.int b)):cV P (Op.equalIn (d+1) t (.int k a) (.int k a))=some true:=by
 simp[Op.equalIn,cr,nk _ _ h,gJ]
def JQ(d:Nat)(t:TypeId)(a:gd){c:Array Field}(h:P.underlying t=some (.struct c))(i:P.stoodInHeld t=false)(b:∀f∈c.toList,∃v,cV P (part f.type a f.offset)=some v/\cV P (Op.equalIn d f.type v v)=some true):
 cV P (Op.equalIn (d+1) t (.agg a) (.agg a))=some true:=by
 simp only[Op.equalIn,cr,nk _ _ h,fJ,Ah,i,sP,if_false];rw[<-Array.forIn_toList];generalize c.toList=l at b;induction l with
 |nil=>rfl
 |cons f l e=>
  let⟨v,h,d⟩:=b f (bI ..);have a:=e (λg c=>b g (aP _ c));simp only[List.forIn_cons,cr,Bc,h,d,fJ,Bool.not_true,sP,if_false,gJ];split
  .simpa [cr]using a
  .simpa [cr]using a
def JI(P:aG)(t n:Nat):Bool:=match P.underlying t,P.underlying 3 with
 |some (.struct fs),some (.int _)=>!P.stoodInHeld t&&!P.eqGuardType P.depth t&&fs.toList.all (λf=>f.type==3&&Nat.blt f.offset n)&&(match cV P (isAgg 3)with|some b=>!b|none=>false)
 |_,_=>false
def neQ(h:JI P t n=true)(x y:Operand)(c:List Int)(l:c.length=n):cV P (do eqGuard .neq t x y (.agg (c.map i6).toArray) (.agg (c.map i6).toArray);binOp .neq t (.agg (c.map i6).toArray) (.agg (c.map i6).toArray))=some (.bool false):=by
 unfold JI at h;split at h
 .rename_i v k j u;simp only[bZ,mA]at h;let⟨⟨⟨s,i⟩,r⟩,d⟩:=h;have g:cV P (isAgg 3)=some false:=by
   split at d
   .rename_i b q;rw[q];simp at d;rw[d]
   .cases d
  have m:cV P (eqGuard .neq t x y (.agg (c.map i6).toArray) (.agg (c.map i6).toArray))=some ():=by
   simp only[eqGuard,cr,Ah,fJ,i,Bc,gJ];simp[cr,Ah,i,gJ]
  have p:cV P (Op.equalIn 10000 t (.agg (c.map i6).toArray) (.agg (c.map i6).toArray))=some true:=by
   refine JQ 9999 t _ j s λf o=>?_;have:=eZ.1 r f o;simp only[bZ,beq_iff_eq,Nat.blt_eq]at this;have e:f.offset<c.length:=by rw[l];exact this.2
   refine⟨i6 c[f.offset],?_,?_⟩
   .rw[this.1];simp only[part,cr,g,fJ,Bc,sP,if_false];simp[e,gJ]
   .rw[this.1];exact PL 9998 3 .i64 k _ u
  rw[cr,m,fJ];show cV P (Op.equalIn 10000 t (.agg (c.map i6).toArray) (.agg (c.map i6).toArray)>>=λa=>pure (Value.bool (!a)))=_;rw[cr,p];rfl
 .cases h
def W1(o:Oper)(x y d t:Nat):Bool:=o.guard.isNone&&(match o.dst with|some d'=>d'==d|none=>false)&&(match o.op with
 |.binOp .neq t' (.tmp x') (.tmp y') _=>t'==t&&x'==x&&y'==y
 |_=>false)
def Mq{y:Nat}(h:W1 o x y d t=true):o.guard=none/\o.dst=some d/\∃c,o.op=.binOp .neq t (.tmp x) (.tmp y) c:=by
 unfold W1 at h;simp only[bZ]at h;let⟨⟨g,b⟩,a⟩:=h;refine⟨by simpa using g,?_,?_⟩
 .split at b
  .rename_i p f;rw[f];simp at b;rw[b]
  .cases b
 .split at a
  .rename_i n m l c e;simp only[bZ,beq_iff_eq]at a;let⟨⟨k,j⟩,i⟩:=a;subst k;subst j;subst i;exact⟨c,e⟩
  .cases a
def neS(F:aB prog Q (DX Ok) V)(n:b.kind=.normal){t:eC}(x y d W:Nat)(e:List Int)(f:JI prog W e.length=true)(l:kI t=true)(g:W1 (aQ t) x y d W=true)(o:d<N)(k:look E x=some (.agg (e.map i6).toArray))(j:look E y=some (.agg (e.map i6).toArray))(S:St Ok B' N E M c a w)(K:∀h,aR ((d,.bool false)::E) N h->h.defers=a.defers->V (G (b.at h (jB t)) Y) w):V (G (b.at a t) Y) w:=by
 let⟨X,_,r,b,i,d,m⟩:=dH l;let⟨r,p,b,l⟩:=Mq g;have b:∀q v,look E q=some v->a.eval (.tmp q)=v:=λq v c=>by rw[S.env.eval (by simp[kn,c])];simp[ev,c]
 have c:cV prog (execOp a.eval (aQ t))=some (.value (.bool false)):=by
  unfold execOp;rw[l];have a:=neQ f (.tmp x) (.tmp y) e rfl;simp only[b x _ k,b y _ j];rw[cr,a];rfl
 have a:=fV _ _ c;rw[i];refine F.AZ d (by simp[Region.wanted,r]) (by rw[n];decide) (λb=>?_) λb b b=>?_
 .unfold Sem.events;rw[a]
 .rw[<-fH (es:=#[]),a];refine b _ ?_;rw[<-m,p];exact K _ (S.env.put o) (put_defers _ _ _)
end Go.Proofs.YtobagnjnbmgidabGreatDoor
