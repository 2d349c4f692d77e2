import Derived.Test.YtobagnjnbmgidabGreatDoorX30
import Derived.Test.YtobagnjnbmgidabGreatDoorA1
import Derived.Laws.IdiomCopy
set_option linter.all false
set_option maxHeartbeats 0
set_option maxRecDepth 100000
namespace Go.Proofs.YtobagnjnbmgidabGreatDoor
open Tryz Go.Conc Go.RowKit
variable{a:Act}{b:Bk}{cb:Bool}{V:Ev0}{d ly num tc:Int}{L:List iN}{y:ju}{N T bt c S e i j k lb m n nb o aS x:Nat}{r r0:aH}{A C O R X Y:aW}{cf:aC}{en h u v wi:ay}{Post:qz}{q:aN}{es:jl}{U:cO}{args:gd}{vs:iO}
variable{D:Bool}{Ok Wy:dh}{B t:Nat}{Ψ:gi}{γ:Type}{I:PK}{w J:aj}{M:aW}
def bn(b:Bool):Nat:=if b then 1 else 0
def gw(w:aj)(c:Nat):Prop:=w.heap[c]? =some (.chan 0 #[] false 0 0 false)
def gw.al{o:Obj}(h:gw w c)(e:w.alloc o=J):gw J c:=by
 subst e;unfold gw;rw[Below.heap_alloc _ _ _ (cU.1 h).1];exact h
def gw.st{a:Addr}(h:gw w c)(e:w.setCell a v=J):gw J c:=by
 subst e;unfold gw at h ⊢;simp only[World.setCell,sU,h];simp
structure BV(w:aj)(A wc ec:Nat):Prop where
 a0:w.cell? ⟨A,0,none⟩=some (.int .i64 0)
 a1:w.cell? ⟨A,1,none⟩=some (.slice none 0 0)
 a2:w.cell? ⟨A,2,none⟩=some (.int .i64 0)
 a3:w.cell? ⟨A,3,none⟩=some (.chan (some wc))
 a4:w.cell? ⟨A,4,none⟩=some (.chan (some ec))
 a5:w.cell? ⟨A,5,none⟩=some (.int .u64 0)
 a6:w.cell? ⟨A,6,none⟩=some (.int .u32 0)
 z:∀i,w.frozen? ⟨A,i,none⟩=false
def vM(p:aj):
 fG prog D (DX Ok) 28 #[] p λv J=>∃E L,v=.pointer (some ⟨p.heap.size+2,0,none⟩)/\Kp [] p J/\J.heap.size=p.heap.size+3/\p.heap.size<=E/\E<p.heap.size+2/\p.heap.size<=L/\L<p.heap.size+2/\E≠L/\gw J E/\gw J L/\BV J (p.heap.size+2) E L:=by
 intro Ψ F c U X;generalize R:p.heap.size=s at X;have c:s<=p.heap.size/\p.heap.size<=s:=ω
 clear R;simp only[enter_at _ func28 rfl,ntmps28];walk_nrm;have t:Kp [] p p:=Kp.refl _;have k:s+(bn false+bn false+bn false)<=p.heap.size/\p.heap.size<=s+(bn false+bn false+bn false):=by simp[bn];omega
 refine F.cF ?_;refine F.aJ ?_;refine F.es ?_;refine F.yw (γ:=Nat×Nat) (n:=5) mixed [[],[],[0,1],[2],[0,1,2,3]] rfl ρ (λb g=>[(1,dB (b 0) (.chan (some g.1)) (undef)),(2,dB (b 1) (.chan (some g.2)) (undef)),(3,dB (b 2) (.agg #[.int .i64 0,.slice none 0 0,.int .i64 0,.chan (some g.1),.chan (some g.2),.int .u64 0,.int .u32 0]) (undef)),(4,dB (b 3) (.pointer (some ⟨s+2,0,none⟩)) (undef)),(0,dB (b 4) (.pointer (some ⟨s+2,0,none⟩)) (.pointer none))]) (λb g w=>(Kp [] p w)/\(s+(bn (b 0)+bn (b 1)+bn (b 3))<=w.heap.size/\w.heap.size<=s+(bn (b 0)+bn (b 1)+bn (b 3)))/\(b 0=true->s<=g.1/\g.1<s+2/\g.1<w.heap.size/\gw w g.1)/\(b 1=true->s<=g.2/\g.2<s+2/\g.2<w.heap.size/\gw w g.2)/\(b 0=true->b 1=true->g.1≠g.2)/\(b 3=true->BV w (s+2) g.1 g.2)) ((0,0)) φ (⟨t,k,λh=>(by cases h),λh=>(by cases h),λh=>(by cases h),λh=>(by cases h)⟩) (all_cons ?_ (all_cons ?_ (all_cons ?_ (all_cons ?_ (all_cons ?_ (all_nil)))))) ?_
 .intro b g w y l a m rest A o;let⟨t,k,r,q,B,C⟩:=y;replace a:b 0=false:=a;have xR:=dy (l 2 0 rfl) a;have Yl:=dy (l 3 2 rfl) xR;have gD:=dy (l 4 0 rfl) a;simp only[xR,Yl,gD,a,pu,Nat.reduceAdd,Nat.reduceEqDiff,reduceIte];have V:bn (b 1)<=1:=by simp only[bn];split<;>omega
  have W:bn (b 3)=0:=χ
  have H:bn (b 0)=0:=χ
  refine F.op rfl rfl δ (λd K I=>?_);go_simp;rw[ID];go_simp;rw[alloc_at'];refine I _ _ ⟨DX.alloc _ _ (λe T=>?_),?_⟩
  .have S:=mem_listed T;simp[go_sem,ID,Ky]at S
  clear I K d;try walk_nrm
  generalize f:World.alloc w _=P;generalize x:(World.heap w).size=Q;have G:=rC f x;have j:=o (Q,g.2) _ ⟨t.yT f,(by have O:bn (tick b 0 0)=1:=φ;have N:tick b 0 1=b 1:=(by simp[tick]);have M:tick b 0 3=b 3:=(by simp[tick]);rw[O,N,M];omega),λ_=>⟨ω,ω,ω,ny f x⟩,λh=>⟨(q (by simpa [tick]using h)).1,(q (by simpa [tick]using h)).2.1,by have:=(q (by simpa [tick]using h)).2.2.1;omega,(q (by simpa [tick]using h)).2.2.2.al f⟩,λ_ h=>(λz=>by have:=(q (by simpa [tick]using h)).2.2.1;omega),λh=>absurd (show b 3=true from(by simpa [tick]using h)) χ⟩;simp only[xR,Yl,gD,a,pu,Nat.reduceAdd,Nat.reduceEqDiff,reduceIte]at j;exact j
 .intro b g w y l a m rest A o;let⟨t,k,r,q,B,C⟩:=y;replace a:b 1=false:=a;have xR:=dy (l 2 1 rfl) a;have Yl:=dy (l 3 2 rfl) xR;have gD:=dy (l 4 1 rfl) a;simp only[xR,Yl,gD,a,pu,Nat.reduceAdd,Nat.reduceEqDiff,reduceIte];have V:bn (b 0)<=1:=by simp only[bn];split<;>omega
  have W:bn (b 3)=0:=χ
  have H:bn (b 1)=0:=χ
  refine F.op rfl rfl δ (λd K I=>?_);go_simp;rw[ID];go_simp;rw[alloc_at'];refine I _ _ ⟨DX.alloc _ _ (λe T=>?_),?_⟩
  .have S:=mem_listed T;simp[go_sem,ID,Ky]at S
  clear I K d;try walk_nrm
  generalize f:World.alloc w _=P;generalize x:(World.heap w).size=Q;have G:=rC f x;have j:=o (g.1,Q) _ ⟨t.yT f,(by have O:bn (tick b 1 1)=1:=φ;have N:tick b 1 0=b 0:=(by simp[tick]);have M:tick b 1 3=b 3:=(by simp[tick]);rw[O,N,M];omega),λh=>⟨(r (by simpa [tick]using h)).1,(r (by simpa [tick]using h)).2.1,by have:=(r (by simpa [tick]using h)).2.2.1;omega,(r (by simpa [tick]using h)).2.2.2.al f⟩,λ_=>⟨ω,ω,ω,ny f x⟩,λh _=>(λz=>by have:=(r (by simpa [tick]using h)).2.2.1;omega),λh=>absurd (show b 3=true from(by simpa [tick]using h)) χ⟩;simp only[xR,Yl,gD,a,pu,Nat.reduceAdd,Nat.reduceEqDiff,reduceIte]at j;exact j
 .intro b g w y l a m rest A o;let⟨t,k,r,q,B,C⟩:=y;replace a:b 2=false:=a;have u:=m 0 rfl;have d1:=m 1 rfl;simp only[u,d1,a,pu,Nat.reduceAdd,Nat.reduceEqDiff,reduceIte];refine F.aJ ?_;have j:=o g _ ⟨t,k,r,q,B,C⟩;simp only[u,d1,a,pu,Nat.reduceAdd,Nat.reduceEqDiff,reduceIte]at j;exact j
 .intro b g w y l a m rest A o;let⟨t,k,r,q,B,C⟩:=y;replace a:b 3=false:=a;have d2:=m 2 rfl;have u:=l 2 0 rfl d2;have d1:=l 2 1 rfl d2;simp only[d2,u,d1,a,pu,Nat.reduceAdd,Nat.reduceEqDiff,reduceIte];have O:bn (b 0)=1:=by rw[u];rfl
  have N:bn (b 1)=1:=by rw[d1];rfl
  have M:bn (b 3)=0:=χ
  have n:w.heap.size=s+2:=ω
  clear k;refine F.GV ?_;generalize f:World.alloc w _=P;have G:=rC f n;have h:BV P (s+2) g.1 g.2:=⟨aY (i:=0) f n rfl,aY (i:=1) f n rfl,aY (i:=2) f n rfl,aY (i:=3) f n rfl,aY (i:=4) f n rfl,aY (i:=5) f n rfl,aY (i:=6) f n rfl,λi=>cy f n i⟩;have j:=o g _ ⟨t.yT f,(by have e:tick b 3 0=b 0:=(by simp[tick]);have d:tick b 3 1=b 1:=(by simp[tick]);have c:bn (tick b 3 3)=1:=φ;rw[e,d,c];omega),λ_=>⟨(r u).1,(r u).2.1,χ,(r u).2.2.2.al f⟩,λ_=>⟨(q d1).1,(q d1).2.1,χ,(q d1).2.2.2.al f⟩,λ_ _=>B u d1,λ_=>h⟩;simp only[d2,u,d1,a,pu,Nat.reduceAdd,Nat.reduceEqDiff,reduceIte]at j;exact j
 .intro b g w y l a m rest A o;let⟨t,k,r,q,B,C⟩:=y;replace a:b 4=false:=a;have u:=m 0 rfl;have d1:=m 1 rfl;have d2:=m 2 rfl;have d3:=m 3 rfl;simp only[u,d1,d2,d3,a,pu,Nat.reduceAdd,Nat.reduceEqDiff,reduceIte];refine F.aJ ?_;have j:=o g _ ⟨t,k,r,q,B,C⟩;simp only[u,d1,d2,d3,a,pu,Nat.reduceAdd,Nat.reduceEqDiff,reduceIte]at j;exact j
 intro b g w y b;let⟨t,k,r,q,B,C⟩:=y;simp only[b 0 δ,b 1 δ,b 2 δ,b 3 δ,b 4 δ,pu,Nat.reduceAdd,Nat.reduceEqDiff,reduceIte];have f0:=r (b 0 δ);have f1:=q (b 1 δ);have f2:=B (b 0 δ) (b 1 δ);have f3:=C (b 3 δ);rw[b 0 δ,b 1 δ,b 3 δ]at k;simp only[bn,if_true]at k;refine F.tC func28 ?_;exact X _ _ ⟨g.1,g.2,rfl,t,ω,f0.1,f0.2.1,f1.1,f1.2.1,f2,f0.2.2.2,f1.2.2.2,f3⟩
structure mz(w:aj)(T A aS:Nat)(cl kn:Int):Prop where
 t0:w.cell? ⟨T,0,none⟩=some (.pointer (some ⟨A,0,none⟩))
 t1:w.cell? ⟨T,1,none⟩=some (.int .i64 kn)
 t2:w.cell? ⟨T,2,none⟩=some (.int .i64 cl)
 t3:w.cell? ⟨T,3,none⟩=some (.chan (some aS))
 t4:w.cell? ⟨T,4,none⟩=some (.pointer none)
 t5:w.cell? ⟨T,5,none⟩=some (.slice none 0 0)
 t6:w.cell? ⟨T,6,none⟩=some (.bool false)
 t7:w.cell? ⟨T,7,none⟩=some (.bool false)
 z4:w.frozen? ⟨T,4,none⟩=false
 z5:w.frozen? ⟨T,5,none⟩=false
 z6:w.frozen? ⟨T,6,none⟩=false
 z7:w.frozen? ⟨T,7,none⟩=false
def mz.kp{L:aN}{C:List Addr}{A:Nat}{b kn:Int}(h:mz w T A aS b kn)(k:Kp L w J C)(a:T∉L)(d:∀x∈C,x.block≠T):mz J T A aS b kn:=
 have c:∀i,(⟨T,i,none⟩:Addr)∉C:=λi z=>d _ z rfl
 ⟨k.cellC _ _ a (c _) h.t0,k.cellC _ _ a (c _) h.t1,k.cellC _ _ a (c _) h.t2,k.cellC _ _ a (c _) h.t3,k.cellC _ _ a (c _) h.t4,k.cellC _ _ a (c _) h.t5,k.cellC _ _ a (c _) h.t6,k.cellC _ _ a (c _) h.t7,(k.Q6 _ _ a (c _) h.t4).trans h.z4,(k.Q6 _ _ a (c _) h.t5).trans h.z5,(k.Q6 _ _ a (c _) h.t6).trans h.z6,(k.Q6 _ _ a (c _) h.t7).trans h.z7⟩
def gw.dx{es:dS}(D:DX Ok w J es)(h:gw w c):gw J c:=D.obj c _ h (λ_ _ _ z=>by cases z)
def fG.keep{R:cK}{f:FuncId}(b:∀w d,R w->R (w.at d))(j:∀w J es,DX Ok w J es->R w->R J)(h:fG prog D (DX Ok) f args w Post)(i:R w):
 fG prog D (DX Ok) f args w (λv J=>Post v J/\R J):=λΨ F c U f=>
 h (λg w=>R w->Ψ g w) ⟨λg w d x a=>F.at' _ _ _ (x (show R w from b (w.at d) w.drawn a)),F.idle,F.less,λg w e x a=>F.step g w e λd=>by
  let⟨l,J,es,k,e,h,g⟩:=x d;exact⟨l,J,es,k,e,h (j _ _ _ e (b _ d a)),g⟩⟩ c U (λv J b a=>f v J ⟨b,a⟩) i
def fG.MW{f:FuncId}(h:fG prog D (DX Ok) f args w Post)(a:gw w c):
 fG prog D (DX Ok) f args w (λv J=>Post v J/\gw J c):=h.keep (λ_ _ x=>x) (λ_ _ _ b x=>x.dx b) a
def MD{b:Nat}(h:gw w c)(a:w.cell? ⟨b,i,none⟩=some v):c≠b:=λz=>by
 subst z;unfold gw at h;simp only[World.cell?,h]at a;simp at a
def GS(ff N A bl bo bi cl k:Nat)(at':Int)(en:ay)(es:jl)(O:aj)(hN:N<=O.heap.size)(lA:A<N)(he:fZ N O en es)(To:es.length<1000000)(Tt:k<1000000)(n:O.cell? ⟨A,1,none⟩=some en)(m:O.cell? ⟨A,2,none⟩=some (.int .i64 (k:Int)))(s:O.frozen? ⟨A,1,none⟩=false)(o:O.frozen? ⟨A,2,none⟩=false)(o1:Ok ⟨A,1,none⟩ false)(ZO:Ok ⟨A,1,none⟩ true)(o2:Ok ⟨A,2,none⟩ false)(o2w:Ok ⟨A,2,none⟩ true)(W8:∀(a:Addr)(wr:Bool),a.block∈cw en\/O.heap.size<=a.block->Ok a wr):
 fG prog D (DX Ok) 29 #[.pointer (some ⟨A,0,none⟩),.int .i64 (cl:Int),.int .i64 at',.func (.func ff) #[] #[.pointer (some ⟨bl,0,none⟩),.pointer (some ⟨bo,0,none⟩),.pointer (some ⟨bi,0,none⟩)]] O λv J=>∃ba bw aS T bt P tP i,v=.pointer (some ⟨T,0,none⟩)/\Kp (cw en) O J [⟨A,1,none⟩,⟨A,2,none⟩]/\
  (O.heap.size<=ba/\ba<bw/\bw<aS/\bw<T/\bw<bt/\aS<P/\T<P/\bt<P/\P<=J.heap.size/\bt≠T/\aS≠T/\aS≠bt)/\
  J.cell? ⟨ba,0,none⟩=some (.pointer (some ⟨A,0,none⟩))/\J.cell? ⟨bw,0,none⟩=some (.func (.func ff) #[] #[.pointer (some ⟨bl,0,none⟩),.pointer (some ⟨bo,0,none⟩),.pointer (some ⟨bi,0,none⟩)])/\J.cell? ⟨bt,0,none⟩=some (.pointer (some ⟨T,0,none⟩))/\mz J T A aS (cl:Int) (k:Int)/\gw J aS/\
  J.cell? ⟨A,1,none⟩=some tP/\J.frozen? ⟨A,1,none⟩=false/\J.cell? ⟨A,2,none⟩=some (.int .i64 ((k:Int)+1))/\J.frozen? ⟨A,2,none⟩=false/\i<=es.length/\iM es at' i/\fZ N J tP (es.take i++(at',.func (.func 48) #[] #[.pointer (some ⟨ba,0,none⟩),.pointer (some ⟨bt,0,none⟩),.pointer (some ⟨bw,0,none⟩)])::es.drop i)/\∀g∈cw tP,g∈cw en\/P<=g:=by
 intro Ψ F c U hc;have Hh:∀(a:Addr)(wr:Bool),O.heap.size<=a.block->Ok a wr:=λa wr h=>W8 a wr (.inr h);have c:∀g,g∈cw en->N<=g/\g<O.heap.size:=λg hg=>by
  let⟨_,_,c⟩:=he.lt (bS.1 hg);grind
 have c:IntKind.i64.wrap 1=1:=δ
 have c:IntKind.i64.wrap ((k:Int)+1)=(k:Int)+1:=by simp only[IntKind.wrap,IntKind.bits,IntKind.signed]<;>(try simp)<;>omega
 simp only[enter_at _ func29 rfl,ntmps29];walk_nrm;refine F.cF ?_;refine F.GV ?_;generalize W:World.alloc O _=w1;generalize CH:(World.heap O).size=n1;have T8:=gH W CH;replace s:=dP s n W;replace o:=dP o m W;replace n:=bN n W;replace m:=bN m W;have r:=aY (i:=0) W CH rfl;have TX:=cy W CH 0;try simp only[sS,sW,sV]at r
 have H:Kp [] O O []:=Kp.refl _;replace H:=H.yT W;refine F.GV ?_;generalize S:World.alloc w1 _=c;generalize QC:(World.heap w1).size=X;have P:=gH S QC;replace s:=dP s n S;replace o:=dP o m S;replace TX:=dP TX r S;replace n:=bN n S;replace m:=bN m S;replace r:=bN r S;have q:=aY (i:=0) S QC rfl;have c:=cy S QC 0;try simp only[sS,sW,sV]at q
 replace H:=H.yT S;refine F.aJ ?_;refine F.es ?_;have aaN:O.heap.size<=n1/\n1<X:=ω
 clear T8 P CH QC W S TX c;refine F.yw (γ:=Nat×Nat×Nat) (n:=11) mixed [[],[],[1],[2],[3],[],[],[0,4,5,6],[7],[],[0,1,2,3,4,5,6,7,8,9]] rfl ρ (λb g=>[(10,dB (b 0) (.pointer (some ⟨A,0,none⟩)) (undef)),(11,dB (b 1) (.pointer (some ⟨A,0,none⟩)) (undef)),(12,dB (b 2) (.pointer (some ⟨A,0,none⟩)) (undef)),(13,dB (b 3) (.pointer (some ⟨A,2,none⟩)) (undef)),(14,dB (b 4) (.int .i64 (k:Int)) (undef)),(15,dB (b 5) (.int .i64 (cl:Int)) (undef)),(16,dB (b 6) (.chan (some g.1)) (undef)),(17,dB (b 7) (.agg #[.pointer (some ⟨A,0,none⟩),.int .i64 (k:Int),.int .i64 (cl:Int),.chan (some g.1),.pointer none,.slice none 0 0,.bool false,.bool false]) (undef)),(18,dB (b 8) (.pointer (some ⟨g.2.1,0,none⟩)) (undef)),(9,dB (b 9) (.pointer (some ⟨g.2.2,0,none⟩)) (undef))]) (λb g w=>(b 10=false->((Kp [] O w)/\(w.cell? ⟨n1,0,none⟩=some (.pointer (some ⟨A,0,none⟩)))/\(w.cell? ⟨X,0,none⟩=some (.func (.func ff) #[] #[.pointer (some ⟨bl,0,none⟩),.pointer (some ⟨bo,0,none⟩),.pointer (some ⟨bi,0,none⟩)]))/\(w.cell? ⟨A,2,none⟩=some (.int .i64 (k:Int)))/\(w.cell? ⟨A,1,none⟩=some en)/\(w.frozen? ⟨A,2,none⟩=false)/\(w.frozen? ⟨A,1,none⟩=false)/\(b 6=true->X<g.1/\g.1<w.heap.size/\gw w g.1)/\(b 8=true->X<g.2.1/\g.2.1<w.heap.size/\mz w g.2.1 A g.1 (cl:Int) (k:Int))/\(b 9=true->X<g.2.2/\g.2.2<w.heap.size/\w.cell? ⟨g.2.2,0,none⟩=some (.pointer none)/\w.frozen? ⟨g.2.2,0,none⟩=false)/\(b 8=true->b 9=true->g.2.1≠g.2.2)))/\(b 10=true->(Kp [] O w/\w.cell? ⟨n1,0,none⟩=some (.pointer (some ⟨A,0,none⟩))/\w.cell? ⟨X,0,none⟩=some (.func (.func ff) #[] #[.pointer (some ⟨bl,0,none⟩),.pointer (some ⟨bo,0,none⟩),.pointer (some ⟨bi,0,none⟩)])/\w.cell? ⟨A,2,none⟩=some (.int .i64 (k:Int))/\w.cell? ⟨A,1,none⟩=some en/\w.frozen? ⟨A,2,none⟩=false/\w.frozen? ⟨A,1,none⟩=false/\(X<g.1/\g.1<w.heap.size/\gw w g.1)/\(X<g.2.1/\g.2.1<w.heap.size/\mz w g.2.1 A g.1 (cl:Int) (k:Int))/\X<g.2.2/\g.2.2<w.heap.size/\w.cell? ⟨g.2.2,0,none⟩=some (.pointer (some ⟨g.2.1,0,none⟩))/\g.2.1≠g.2.2))) ((0,0,0)) (by simp only[pu,Nat.reduceAdd,Nat.reduceEqDiff,reduceIte]) (⟨λ_=>⟨H,r,q,m,n,o,s,λh=>(by cases h),λh=>(by cases h),λh=>(by cases h),λh=>(by cases h)⟩,λh=>by cases h⟩) (all_cons ?_ (all_cons ?_ (all_cons ?_ (all_cons ?_ (all_cons ?_ (all_cons ?_ (all_cons ?_ (all_cons ?_ (all_cons ?_ (all_cons ?_ (all_cons ?_ (all_nil)))))))))))) ?_
 .intro b g w Q u j y rest V C;let⟨p,B⟩:=Q;replace j:b 0=false:=j;have f:=dy (u 10 0 rfl) j;let⟨H,r,q,m,n,o,s,L,R,I,G⟩:=p f;clear p B;simp only[f,j,pu,Nat.reduceAdd,Nat.reduceEqDiff,reduceIte];refine F.ez ?_;have t:=C g _ ⟨λ_=>⟨H,r,q,m,n,o,s,L,R,I,G⟩,λh=>no f h⟩;simp only[f,j,pu,Nat.reduceAdd,Nat.reduceEqDiff,reduceIte]at t;exact t
 .intro b g w Q u j y rest V C;let⟨p,B⟩:=Q;replace j:b 1=false:=j;have f:=dy (u 10 1 rfl) j;let⟨H,r,q,m,n,o,s,L,R,I,G⟩:=p f;clear p B;simp only[f,j,pu,Nat.reduceAdd,Nat.reduceEqDiff,reduceIte];refine F.ez ?_;have t:=C g _ ⟨λ_=>⟨H,r,q,m,n,o,s,L,R,I,G⟩,λh=>no f h⟩;simp only[f,j,pu,Nat.reduceAdd,Nat.reduceEqDiff,reduceIte]at t;exact t
 .intro b g w Q u j y rest V C;let⟨p,B⟩:=Q;replace j:b 2=false:=j;have d1:=y 1 rfl;have f:=dy (u 10 2 rfl) j;let⟨H,r,q,m,n,o,s,L,R,I,G⟩:=p f;clear p B;simp only[d1,f,j,pu,Nat.reduceAdd,Nat.reduceEqDiff,reduceIte];refine F.aJ ?_;have t:=C g _ ⟨λ_=>⟨H,r,q,m,n,o,s,L,R,I,G⟩,λh=>no f h⟩;simp only[d1,f,j,pu,Nat.reduceAdd,Nat.reduceEqDiff,reduceIte]at t;exact t
 .intro b g w Q u j y rest V C;let⟨p,B⟩:=Q;replace j:b 3=false:=j;have d2:=y 2 rfl;have f:=dy (u 10 3 rfl) j;let⟨H,r,q,m,n,o,s,L,R,I,G⟩:=p f;clear p B;simp only[d2,f,j,pu,Nat.reduceAdd,Nat.reduceEqDiff,reduceIte];refine F.aJ ?_;have t:=C g _ ⟨λ_=>⟨H,r,q,m,n,o,s,L,R,I,G⟩,λh=>no f h⟩;simp only[d2,f,j,pu,Nat.reduceAdd,Nat.reduceEqDiff,reduceIte]at t;exact t
 .intro b g w Q u j y rest V C;let⟨p,B⟩:=Q;replace j:b 4=false:=j;have d3:=y 3 rfl;have f:=dy (u 10 4 rfl) j;let⟨H,r,q,m,n,o,s,L,R,I,G⟩:=p f;clear p B;simp only[d3,f,j,pu,Nat.reduceAdd,Nat.reduceEqDiff,reduceIte];refine F.ez ?_;have t:=C g _ ⟨λ_=>⟨H,r,q,m,n,o,s,L,R,I,G⟩,λh=>no f h⟩;simp only[d3,f,j,pu,Nat.reduceAdd,Nat.reduceEqDiff,reduceIte]at t;exact t
 .intro b g w Q u j y rest V C;let⟨p,B⟩:=Q;replace j:b 5=false:=j;have f:=dy (u 10 5 rfl) j;let⟨H,r,q,m,n,o,s,L,R,I,G⟩:=p f;clear p B;simp only[f,j,pu,Nat.reduceAdd,Nat.reduceEqDiff,reduceIte];refine F.aJ ?_;have t:=C g _ ⟨λ_=>⟨H,r,q,m,n,o,s,L,R,I,G⟩,λh=>no f h⟩;simp only[f,j,pu,Nat.reduceAdd,Nat.reduceEqDiff,reduceIte]at t;exact t
 .intro b g w Q u j y rest V C;let⟨p,B⟩:=Q;replace j:b 6=false:=j;have vN:=dy (u 7 6 rfl) j;have f:=dy (u 10 6 rfl) j;let⟨H,r,q,m,n,o,s,L,R,I,G⟩:=p f;clear p B;simp only[vN,f,j,pu,Nat.reduceAdd,Nat.reduceEqDiff,reduceIte];refine F.op rfl rfl δ (λd K Y=>?_);go_simp;rw[A8];go_simp;rw[alloc_at'];refine Y _ _ ⟨DX.alloc _ _ (λe he=>?_),?_⟩
  .have hm:=mem_listed he;simp[go_sem,A8,zO]at hm
  clear Y K d;try walk_nrm
  generalize l:World.alloc w _=w3;generalize E:(World.heap w).size=Z;have T7:=rC l E;have Bl:X<Z:=by have:X<w.heap.size:=au q;omega
  have PI:b 8=false:=by
   cases hx:b 8 with
   |false=>rfl
   |true=>have c:=u 8 7 rfl hx;have XZ:=u 7 6 rfl c;rw[show b 6=false from j]at XZ;cases XZ
  have t:=C (Z,g.2) _ ⟨λ_=>⟨H.yT l,bN r l,bN q l,bN m l,bN n l,dP o m l,dP s n l,λ_=>⟨Bl,(show Z<w3.heap.size by omega),ny l E⟩,λh=>absurd (show b 8=true from(by simpa [tick]using h)) (by rw[PI];decide),λh=>⟨(I (by simpa [tick]using h)).1,ga (I (by simpa [tick]using h)).2.1 ω,bN (I (by simpa [tick]using h)).2.2.1 l,dP (I (by simpa [tick]using h)).2.2.2 (I (by simpa [tick]using h)).2.2.1 l⟩,λh=>absurd (show b 8=true from(by simpa [tick]using h)) (by rw[PI];decide)⟩,λh=>absurd (show b 10=true from(by simpa [tick]using h)) (by rw[f];decide)⟩;simp only[vN,f,j,pu,Nat.reduceAdd,Nat.reduceEqDiff,reduceIte]at t;exact t
 .intro b g w Q u j y rest V C;let⟨p,B⟩:=Q;replace j:b 7=false:=j;have d0:=y 0 rfl;have d4:=y 4 rfl;have d5:=y 5 rfl;have d6:=y 6 rfl;have f:=dy (u 10 7 rfl) j;let⟨H,r,q,m,n,o,s,L,R,I,G⟩:=p f;clear p B;simp only[d0,d4,d5,d6,f,j,pu,Nat.reduceAdd,Nat.reduceEqDiff,reduceIte];refine F.aJ ?_;have t:=C g _ ⟨λ_=>⟨H,r,q,m,n,o,s,L,R,I,G⟩,λh=>no f h⟩;simp only[d0,d4,d5,d6,f,j,pu,Nat.reduceAdd,Nat.reduceEqDiff,reduceIte]at t;exact t
 .intro b g w Q u j y rest V C;let⟨p,B⟩:=Q;replace j:b 8=false:=j;have d7:=y 7 rfl;have d0:=u 7 0 rfl d7;have d4:=u 7 4 rfl d7;have d5:=u 7 5 rfl d7;have d6:=u 7 6 rfl d7;have d3:=u 4 3 rfl d4;have d2:=u 3 2 rfl d3;have d1:=u 2 1 rfl d2;have f:=dy (u 10 8 rfl) j;let⟨H,r,q,m,n,o,s,L,R,I,G⟩:=p f;clear p B;simp only[d7,d0,d4,d5,d6,d3,d2,d1,f,j,pu,Nat.reduceAdd,Nat.reduceEqDiff,reduceIte];refine F.op rfl rfl δ (λd K Y=>?_);go_simp
  skip
  rw[alloc_at'];refine Y _ _ ⟨DX.alloc _ _ (λe he=>?_),?_⟩
  .have hm:=mem_listed he;simp[go_sem,A8,zO]at hm
  clear Y K d;try walk_nrm
  generalize l:World.alloc w _=w3;generalize E:(World.heap w).size=Z;have T7:=rC l E;have Bl:X<Z:=by have:X<w.heap.size:=au q;omega
  have t:=C (g.1,Z,g.2.2) _ ⟨λ_=>⟨H.yT l,bN r l,bN q l,bN m l,bN n l,dP o m l,dP s n l,λh=>⟨(L ω).1,ga (L ω).2.1 ω,(L ω).2.2.al l⟩,λ_=>⟨Bl,(show Z<w3.heap.size by omega),aY (i:=0) l E rfl,aY (i:=1) l E rfl,aY (i:=2) l E rfl,aY (i:=3) l E rfl,aY (i:=4) l E rfl,aY (i:=5) l E rfl,aY (i:=6) l E rfl,aY (i:=7) l E rfl,cy l E 4,cy l E 5,cy l E 6,cy l E 7⟩,λh=>⟨(I (by simpa [tick]using h)).1,ga (I (by simpa [tick]using h)).2.1 ω,bN (I (by simpa [tick]using h)).2.2.1 l,dP (I (by simpa [tick]using h)).2.2.2 (I (by simpa [tick]using h)).2.2.1 l⟩,λ_ h=>(λz=>by have:=(I (by simpa [tick]using h)).2.1;dsimp only at z;omega)⟩,λh=>absurd (show b 10=true from(by simpa [tick]using h)) (by rw[f];decide)⟩;simp only[d7,d0,d4,d5,d6,d3,d2,d1,f,j,pu,Nat.reduceAdd,Nat.reduceEqDiff,reduceIte]at t;exact t
 .intro b g w Q u j y rest V C;let⟨p,B⟩:=Q;replace j:b 9=false:=j;have f:=dy (u 10 9 rfl) j;let⟨H,r,q,m,n,o,s,L,R,I,G⟩:=p f;clear p B;simp only[f,j,pu,Nat.reduceAdd,Nat.reduceEqDiff,reduceIte];refine F.op rfl rfl δ (λd K Y=>?_);go_simp
  skip
  rw[alloc_at'];refine Y _ _ ⟨DX.alloc _ _ (λe he=>?_),?_⟩
  .have hm:=mem_listed he;simp[go_sem,A8,zO]at hm
  clear Y K d;try walk_nrm
  generalize l:World.alloc w _=w3;generalize E:(World.heap w).size=Z;have T7:=rC l E;have Bl:X<Z:=by have:X<w.heap.size:=au q;omega
  have t:=C (g.1,g.2.1,Z) _ ⟨λ_=>⟨H.yT l,bN r l,bN q l,bN m l,bN n l,dP o m l,dP s n l,λh=>⟨(L (by simpa [tick]using h)).1,ga (L (by simpa [tick]using h)).2.1 ω,(L (by simpa [tick]using h)).2.2.al l⟩,λh=>⟨(R (by simpa [tick]using h)).1,ga (R (by simpa [tick]using h)).2.1 ω,(R (by simpa [tick]using h)).2.2.kp (Kp.alloc (L:=[]) l) ψ ψ⟩,λ_=>⟨Bl,(show Z<w3.heap.size by omega),aY (i:=0) l E rfl,cy l E 0⟩,λh _=>(λz=>by have:=(R (by simpa [tick]using h)).2.1;dsimp only at z;omega)⟩,λh=>absurd (show b 10=true from(by simpa [tick]using h)) (by rw[f];decide)⟩;simp only[f,j,pu,Nat.reduceAdd,Nat.reduceEqDiff,reduceIte]at t;exact t
 .intro b g w Q u j y rest V C;let⟨p,B⟩:=Q;replace j:b 10=false:=j;have d0:=y 0 rfl;have d1:=y 1 rfl;have d2:=y 2 rfl;have d3:=y 3 rfl;have d4:=y 4 rfl;have d5:=y 5 rfl;have d6:=y 6 rfl;have d7:=y 7 rfl;have d8:=y 8 rfl;have d9:=y 9 rfl;let⟨H,r,q,m,n,o,s,L,R,I,G⟩:=p j;clear p B;simp only[d0,d1,d2,d3,d4,d5,d6,d7,d8,d9,j,pu,Nat.reduceAdd,Nat.reduceEqDiff,reduceIte];let⟨q1,q2,q3⟩:=L d6;let⟨q4,q5,q6⟩:=R d8;let⟨q7,q8,q9,c⟩:=I d9;have Te:=G d8 d9;clear L R I G;have hlA:A<w.heap.size:=au n;have f:A<n1:=ω
  refine F.op rfl rfl δ (λd K Y=>?_);go_simp;rw[setCell_at'];refine Y _ _ ⟨DX.set _ (Hh _ _ (by dsimp only;omega)) (λe he=>?_),?_⟩
  .have hm:=mem_listed he;simp[go_sem,storedEv,ig,q9,c]at hm;subst hm;exact .inl ⟨_,rfl,rfl,Hh _ _ (by dsimp only;omega),by simp only[iL,size_set];exact q8⟩
  clear Y K d;try walk_nrm
  generalize l:World.setCell w _ _=w3;have T7:=Kg l;have ks:=Kp.H8 l;have t:=C g _ ⟨λh=>by simp[tick]at h,λ_=>⟨H.EH l (.inr (.inr (by dsimp only;omega))),dQ r l ψ,dQ q l Θ,dQ m l Θ,dQ n l Θ,eF o l,eF s l,⟨q1,ω,q3.st l⟩,⟨q4,ω,q6.kp ks ψ Θ⟩,q7,ω,kP q9 l,Te⟩⟩;simp only[d0,d1,d2,d3,d4,d5,d6,d7,d8,d9,j,pu,Nat.reduceAdd,Nat.reduceEqDiff,reduceIte]at t;exact t
 intro b g w Q b;let⟨p,B⟩:=Q;simp only[b 0 δ,b 1 δ,b 2 δ,b 3 δ,b 4 δ,b 5 δ,b 6 δ,b 7 δ,b 8 δ,b 9 δ,b 10 δ,pu,Nat.reduceAdd,Nat.reduceEqDiff,reduceIte];let⟨G,u,k,y,C,c,f,⟨q1,q2,q3⟩,⟨q4,q5,q6⟩,q7,q8,q9,Te⟩:=B (b 10 δ);clear p B b H r q m n o s;let⟨aS,T,bt⟩:=g;dsimp only at q1 q2 q3 q4 q5 q6 q7 q8 q9 Te ⊢;have H:Kp (cw en) O w [⟨A,1,none⟩,⟨A,2,none⟩]:=G.old ψ ψ;have kz:Kp [] O w [⟨A,2,none⟩]:=G.old ψ ψ;have r:=u;have q:=k;have m:=y;have n:=C;have o:=c;have s:=f;have TB:=q9;have hlA:A<n1:=ω
 clear G u k y C c f q9;refine F.dA ?_;refine F.ez ?_;iterate 2 (refine F.aJ ?_)
 refine F.ez ?_;iterate 3 (refine F.aJ ?_)
 refine F.op rfl rfl δ (λd K Y=>?_);go_simp;rw[setCell_at'];refine Y _ _ ⟨DX.set _ (by(first|assumption|(apply Hh<;>dsimp only<;>omega))) (λe he=>?_),?_⟩
 .have hm:=mem_listed he;simp[go_sem,storedEv,fD,ig,fE,jc,gP, *]at hm;subst hm;exact .inl ⟨_,rfl,rfl,by(first|assumption|(apply Hh<;>dsimp only<;>omega)),by simp only[iL,size_set];first|omega|exact au (by assumption)⟩
 clear Y K d;try walk_nrm
 generalize M:World.setCell w _ _=w4;have b:=lu M;replace s:=eF s M;replace o:=eF o M;replace r:=dQ r M ψ;replace q:=dQ q M Θ;replace TB:=dQ TB M Θ;replace n:=dQ n M Θ;replace m:=kP m M;replace H:=H.EH M (by first|(left;simp;done)|(right;left;simp;done)|(right;right;dsimp only;omega));refine F.re ?_;have ks:=Kp.H8 M;have q3:=q3.st M;have q6:=q6.kp ks ψ Θ;have b:w4.heap.size<=w4.heap.size:=az _;refine F.cF ?_;refine F.ez ?_;iterate 2 (refine F.aJ ?_)
 have b:fZ N w4 en es:=Kp.bA (kz.EH M (.inr (.inl ψ))) he λg hg=>⟨ψ,λx hx=>χ⟩
 have c:O.heap.size<=w4.heap.size:=H.size;refine F.uO func47 ?_;refine(fG.MW (EX N A at' (.func 48) #[] #[.pointer (some ⟨n1,0,none⟩),.pointer (some ⟨bt,0,none⟩),.pointer (some ⟨X,0,none⟩)] en es w4 ω lA To b n s o1 ZO (λa wr h=>W8 a wr (h.imp id λh=>ω))) q3) _ F _ _ (λv a a=>?_);obtain⟨⟨rfl,kq,tP,i,e0,epl,e1,e2,e3,e4⟩,hq3⟩:=a;have nr:∀x,O.heap.size<=x->x∉cw en:=λx hx z=>χ
 have a:A∉cw en:=λz=>χ
 have r:=kq.cellC _ _ (nr n1 ω) ψ r;have q:=kq.cellC _ _ (nr X ω) Θ q;have TB:=kq.cellC _ _ (nr bt ω) Θ TB;have o:=(kq.Q6 _ _ a Θ m).trans o;have m:=kq.cellC _ _ a Θ m;have q6:=q6.kp kq (nr T ω) Θ;have H:=H.pX kq (λx hx=>.inl hx) (λx hx=>.inl (by simp at hx;simp[hx]));have Z:=MD hq3 q6.t0;have b:=MD hq3 TB;rw[bQ];try walk_nrm
 refine F.dA ?_;refine F.ez ?_;refine F.aJ ?_;refine F.tC func29 ?_;have a:=kq.size;exact hc _ _ ⟨n1,X,aS,T,bt,w4.heap.size,tP,i,rfl,H,⟨ω,ω,ω,ω,ω,ω,ω,ω,a,λz=>Te z.symm,Z,b⟩,r,q,TB,q6,hq3,e1,e2,m,o,e0,epl,e3,e4⟩
def O1(en:ay)(eb:mW)(es:jl):Prop:=(∀e∈es,e.2.oneCell'=true)/\((en=.slice none 0 0/\es=[]/\eb.c=0)\/
 ∃off cap,en=.slice (some ⟨eb.E,off,none⟩) es.length cap/\eb.c=1/\es.length<=cap/\off+2*cap<=eb.n/\0<eb.n/\∀(j:Nat)(u:ay),(flat es)[j]? =some u->eb.f (off+j)=u)
structure PV(Ok:dh)(s:PS)(es:jl):Prop where
 jr:Vc Ok s.ea s.l.el s.ec
 en:O1 s.en s.eb es
 eo:s.eb.c=1->s.k.A<s.eb.E/\∀(a:Addr)(wr:Bool),a.block=s.eb.E->Ok a wr
 fb:∀k,k<s.k.V.nl->(s.k.V.ly k).k=4->qv Ok (s.l.gt k).la (s.f k)
 rm:∀k,k<s.k.V.nl->(s.k.V.ly k).k=5->G3 Ok s.wb (s.lq k) (s.f k)
 cx:∀r∈s.cx,r.wr=false/\r.row=none
 bg:∀j,j<s.l.tl->G3 Ok s.T (s.bl j) (s.bf j)
def Yu(C:aW):Value->List iN->Prop
 |e,[]=>e=.nilIface
 |e,x::ch=>∃q e',e=.iface 184 (ptr q)/\Has C (oR q 0 [i6 x.k,i6 x.l,i6 x.n,e'] false)/\Yu C e' ch
def Yu.up{C a:aW}(h:∀r,Has C r->Has a r):∀{ch:List iN}{e:ay},Yu C e ch->Yu a e ch
 |[],_,a=>a
 |_::_,_,⟨q,f,d,c,b⟩=>⟨q,f,d,h _ c,b.up h⟩
def WA(C:aW)(a:ay)(b:Bk):Prop:=(b.k=1/\a=.agg #[i6 b.n,.nilIface,.nilIface])\/(b.k=2/\∃q,a=.agg #[i6 0,.iface 184 (ptr q),.nilIface]/\Yu C (.iface 184 (ptr q)) b.ch)\/(b.k=3/\a=.agg #[i6 0,.nilIface,.iface 182 (i6 b.n)])
def WA.up{C c:aW}(h:∀r,Has C r->Has c r){a:ay}{b:Bk}(H:WA C a b):WA c a b:=H.imp id λH=>H.imp (fun⟨c,q,b,a⟩=>⟨c,q,b,a.up h⟩) id
def yx{E:Nat}{a:gd}{t:TypeId}{f:Nat×Nat}(h:w.heap[E]? =some (.cells a t f)):w.cell? ⟨E,j,none⟩=a[j]? :=oz h
def uw{b:mW}(h:Sat Ok w M)(c:nth M i=some (eR b))(a:b.c=1):∃a,w.heap[b.E]? =some (.cells a 143 (0,0))/\a.size=b.n/\∀j,j<b.n->a[j]? =some (b.f j):=by
 let⟨_,_,a,d,e⟩:=h.row i _ c b.E 143 b.n ξ;refine⟨a,d,e,λj a=>?_⟩;have:=h.val i _ c (0,j) ⟨ξ,a⟩;rw[<-yx d];exact this
def Mp{a:mW}(h:Sat Ok w M)(e:nth M i=some (eR a))(b:O1 en a es)(f:a.c=1->N<=a.E):fZ N w en es:=by
 refine⟨b.1,b.2.imp (λx=>⟨x.1,x.2.1⟩) ?_⟩;rintro ⟨off,cap,i,c,g,b,b,b⟩;let⟨b,k,l,c3⟩:=uw h e c;refine⟨a.E,off,cap,b,i,g,f c,k,ω,λj u a=>?_⟩;have d:j<(flat es).length:=(lg.1 a).1;rw[ia]at d;grind
def Sat.two{y m l:aH}{t:aW}(h:Sat Ok w (r0::y::t))(x:∀i r,nth t i=some r->∀j,r.has j->J.cell? (r.ad j)=w.cell? (r.ad j)/\J.frozen? (r.ad j)=w.frozen? (r.ad j))(A:∀i r,nth t i=some r->∀g e n,r.row=some (g,e,n)->pI w g e n->pI J g e n)(c:Sat Ok J [m,l])(u:∀i r,nth t i=some r->∀j k,r.has j->(m.has k->m.ad k≠r.ad j)/\(l.has k->l.ad k≠r.ad j)):Sat Ok J (m::l::t):=by
 refine⟨λi r a j f=>?_,λi r a j f=>?_,λi r q p a b s j k f d o=>?_,λi r a g e n v=>?_⟩
 .match i,a with
  |0,a=>exact c.val 0 r a j f
  |1,a=>exact c.val 1 r a j f
  |i+2,a=>rw[(x i r a j f).1];exact h.val (i+2) r a j f
 .match i,a with
  |0,a=>exact c.ok 0 r a j f
  |1,a=>exact c.ok 1 r a j f
  |i+2,a=>have:=h.ok (i+2) r a j f;exact⟨this.1,λz=>⟨(this.2 z).1,by rw[(x i r a j f).2];simp_all⟩⟩
 .match i,a,q,b with
  |0,a,0,b=>exact c.sep 0 r 0 p a b s j k f d o
  |0,a,1,b=>exact c.sep 0 r 1 p a b s j k f d o
  |1,a,0,b=>exact c.sep 1 r 0 p a b s j k f d o
  |1,a,1,b=>exact c.sep 1 r 1 p a b s j k f d o
  |0,a,q+2,b=>cases a;exact absurd o ((u q p b k j d).1 f)
  |1,a,q+2,b=>cases a;exact absurd o ((u q p b k j d).2 f)
  |i+2,a,0,b=>cases b;exact absurd o.symm ((u i r a j k f).1 d)
  |i+2,a,1,b=>cases b;exact absurd o.symm ((u i r a j k f).2 d)
  |i+2,a,q+2,b=>exact h.sep (i+2) r (q+2) p a b s j k f d o
 .match i,a with
  |0,a=>exact c.row 0 r a g e n v
  |1,a=>exact c.row 1 r a g e n v
  |i+2,a=>have:=h.row (i+2) r a g e n v;exact⟨this.1,this.2.1,A i r a g e n v this.2.2⟩
def Sat.K6{C':List Addr}{A:Nat}{x:ay}{p:mW}{I:jl}(h:Sat Ok w (bR A [x,en]::eR p::M))(hE:O1 en p es)(C:p.c=1->A<p.E)(hB:HB w.heap.size Ok)(W:p.c=1->∀(a:Addr)(wr:Bool),a.block=p.E->Ok a wr)(C:∀a∈C',a.block=A/\a.off≠0)(C:∀i r,nth M i=some r->∀j,r.has j->r.ad j∉C')(Q:Kp (cw en) w J (⟨A,1,none⟩::C'))(hv:J.cell? ⟨A,1,none⟩=some v)(hf:J.frozen? ⟨A,1,none⟩=false)(N:fZ (A+1) J v I)(O:∀g∈cw v,g∈cw en\/w.heap.size<=g)(C:0<I.length)(C:∀i r g e n,nth M i=some r->r.row=some (g,e,n)->g≠A):
 ∃C,Sat Ok J (bR A [x,v]::eR C::M)/\O1 v C I/\C.c=1/\A<C.E/\∀(a:Addr)(wr:Bool),a.block=C.E->Ok a wr:=by
 obtain⟨ho,⟨_,z⟩|⟨D,off,cap,s,e1,e2,v,e4,e5,v⟩⟩:=N
 .simp_all
 have v:∀g,g∈cw en↔p.c=1/\g=p.E:=λg=>by
  rcases hE.2 with ⟨E,G,C⟩|⟨o,c,E,G,_⟩
  .rw[E,bS];simp[Value.ownBlock,C]
  .rw[E,bS];simp[Value.ownBlock,G];omega
 have R:(p.c=1/\D=p.E)\/w.heap.size<=D:=by
  rcases O D (by rw[e1,bS];rfl)with z|z
  .simp_all
  omega
 have P:∀(a:Addr)(wr:Bool),a.block=D->Ok a wr:=λa wr hb=>by
  rcases R with ⟨E,G⟩|z
  .exact W E a wr (hb.trans G)
  .exact hB a wr ω
 have y:0<s.size:=ω
 have a:∀j,J.frozen? ⟨D,j,none⟩=false:=λj=>by simp[World.frozen?,e4]
 have H:∀j,j<s.size->J.cell? ⟨D,j,none⟩=some (s.getD j undef):=λj d=>by
  rw[yx e4];simp_all
 have m:∀i r,nth M i=some r->∀j,r.has j->(r.ad j).block∉cw en/\r.ad j∉(⟨A,1,none⟩::C':List Addr):=λi r b j d=>by
  have k:=h.val (i+2) r b j d;refine⟨λz=>?_,λz=>?_⟩
  .let⟨E,G⟩:=(v _).1 z;let⟨cu,c1,c2,c3⟩:=uw h (i:=1) rfl E;have Y:(r.ad j).off<p.n/\(r.ad j).spot=none:=by
    unfold World.cell? at k;rw[G,c1]at k;simp only at k;cases M5:(r.ad j).spot with
    |none=>grind
    |some q=>simp_all
   have Z:r.ad j=⟨p.E,(r.ad j).off,none⟩:=by
    cases hra:r.ad j with
    |mk o c a=>simp_all
   have:=h.sep 1 (eR p) (i+2) r rfl b rfl (0,(r.ad j).off) j ⟨χ,Y.1⟩ d Z.symm;omega
  .rcases ak.1 z with z|z
   .have:=h.sep 0 _ (i+2) r rfl b rfl (0,1) j ⟨aD,gr 1⟩ d z.symm;omega
   grind
 refine⟨⟨D,s.size,1,λj=>s.getD j undef⟩,?_,⟨ho,.inr ⟨off,cap,e1,rfl,e2,e5,y,λj u a=>?_⟩⟩,rfl,χ,P⟩
 .refine h.two (λi r b j d=>?_) (λi r b g e n V a=>?_) ?_ (λi r b j U d=>⟨λB N=>?_,λB N=>?_⟩)
  .let⟨K,T⟩:=m i r b j d;have k:=h.val (i+2) r b j d;exact⟨(Q.cellC _ _ K T k).trans k.symm,Q.Q6 _ _ K T k⟩
  .let⟨cu,c1,c2⟩:=a;let⟨c,a,_⟩:=h.row (i+2) r b g e n V;let⟨K,T⟩:=m i r b (0,0) c;rw[a]at K;refine⟨cu,Q.blk g cu e (0,0) K (λx a=>?_) c1,c2⟩;grind
  .have S:J.cell? ⟨A,0,none⟩=some x/\J.frozen? ⟨A,0,none⟩=false:=by
    have c:=h.val 0 _ rfl (0,0) ⟨aD,D9 1⟩;have a:A∉cw en:=λz=>ξ
    have y:(⟨A,0,none⟩:Addr)∉(⟨A,1,none⟩::C':List Addr):=λz=>by
     grind
    exact⟨Q.cellC _ _ a y c,(Q.Q6 _ _ a y c).trans ((h.ok 0 _ rfl (0,0) ⟨aD,D9 1⟩).2 rfl).2⟩
   have F:∀j,j<2->Ok ⟨A,j,none⟩ false/\Ok ⟨A,j,none⟩ true:=λj d=>by
    have:=h.ok 0 _ rfl (0,j) ⟨aD,d⟩;simp_all
   refine⟨λi r b j d=>?_,λi r b j d=>?_,λi r i' a b f a j U d B N=>?_,λi r b g e n V=>?_⟩
   .match i,b with
    |0,b=>
     cases b;let⟨L,t⟩:=j;have l:t<2:=d.2;match t,l with
     |0,_=>exact S.1
     |1,_=>exact hv
    |1,b=>cases b;exact H _ d.2
   .match i,b with
    |0,b=>
     cases b;let⟨L,t⟩:=j;have l:t<2:=d.2;refine⟨(F t l).1,λ_=>⟨(F t l).2,?_⟩⟩;match t,l with
     |0,_=>exact S.2
     |1,_=>exact hf
    |1,b=>cases b;simp_all
   .have a:A≠D:=ω
    match i,b,i',f with
    |0,b,0,f=>
     cases b;cases f;let⟨L,t⟩:=j;let⟨X,k2⟩:=U;have h1:L<1:=d.1;have h2:X<1:=B.1;simp_all
    |0,b,1,f=>cases b;cases f;simp_all
    |1,b,0,f=>cases b;cases f;grind
    |1,b,1,f=>
     cases b;cases f;let⟨L,t⟩:=j;let⟨X,k2⟩:=U;have h1:L<1:=d.1;have h2:X<1:=B.1;simp_all
   .match i,b with
    |0,b=>cases b;cases V
    |1,b=>cases b;cases V;exact⟨⟨aD,y⟩,rfl,s,e4,rfl⟩
  .let⟨K,T⟩:=m i r b j d;let⟨L,t⟩:=U;have l:t<2:=B.2;have:=h.sep 0 _ (i+2) r rfl b rfl (0,t) j ⟨aD,l⟩ d N;omega
  .let⟨K,T⟩:=m i r b j d;have hb:(r.ad j).block=D:=by rw[<-N]
   rcases R with ⟨E,G⟩|z
   .simp_all
   .have:=au (h.val (i+2) r b j d);omega
 simp_all
def Sat.bA{A:Nat}{x:ay}{b:mW}{c:jl}(h:Sat Ok w (bR A [x,en]::eR b::M))(q:O1 en b es)(t:b.c=1->A<b.E)(s:HB w.heap.size Ok)(f:b.c=1->∀(a:Addr)(wr:Bool),a.block=b.E->Ok a wr)(m:Kp (cw en) w J [⟨A,1,none⟩])(l:J.cell? ⟨A,1,none⟩=some v)(o:J.frozen? ⟨A,1,none⟩=false)(p:fZ (A+1) J v c)(d:∀g∈cw v,g∈cw en\/w.heap.size<=g)(k:0<c.length)(j:∀i r g e n,nth M i=some r->r.row=some (g,e,n)->g≠A):
 ∃b,Sat Ok J (bR A [x,v]::eR b::M)/\O1 v b c/\b.c=1/\A<b.E/\∀(a:Addr)(wr:Bool),a.block=b.E->Ok a wr:=
 h.K6 q t s f (C':=[]) (λa z=>by cases z) (λ_ _ _ _ _ z=>by cases z) m l o p d k j
def Flat(C:aW):Prop:=∀i r,nth C i=some r->r.row=none
def Flat.cons(h:Flat C)(a:r.row=none):Flat (r::C):=λi x b=>by
 rcases iB b with ⟨k,rfl,c⟩|⟨rfl,rfl⟩
 .exact h k x c
 .exact a
def Flat.nil:Flat []:=λi r h=>by cases h
def Flat.app(c:Flat A)(b:Flat C):Flat (A++C):=λi r a=>by
 rw[j4]at a;split at a
 .exact c i r a
 .exact b _ r a
def Flat.left(h:Flat (A++C)):Flat A:=λi r a=>h i r (by rw[j4,sJ (qH _ _ _ a)];exact a)
def Flat.right(h:Flat (A++C)):Flat C:=λi r a=>h (A.length+i) r (by rw[j4,af ω,D4];exact a)
def Flat.tail(h:Flat (r::C)):Flat C:=λi x a=>h (i+1) x a
def Sat.Zx{c:aH}(h:Sat Ok w (A++(r::c::C))):Sat Ok w (A++(c::r::C)):=by
 refine h.map (λi=>if i=A.length then i+1 else if i=A.length+1 then A.length else i) (λi d a=>⟨d,?_,.inl rfl⟩) (λi j d a l e=>?_)
 .rw[j4]at a ⊢;by_cases b:i=A.length
  .subst b;rw[af ω,Nat.sub_self]at a;rw[sJ rfl,af ω,D4];exact a
  .by_cases f:i=A.length+1
   .subst f;rw[af ω,D4]at a;rw[af b,sJ rfl,af ω,Nat.sub_self];exact a
   .rw[af b,af f];split at a
    .simp_all
    .rename_i z;rw[af z];obtain⟨k,g⟩:∃k,i-A.length=k+2:=⟨i-A.length-2,ω⟩;rw[g]at a ⊢;exact a
 grind
def Sat.Db{Ok:dh}{w:aj}{A C:aW}:∀{X:aW},Sat Ok w (A++(X++C))->Sat Ok w (A++C)
 |[],h=>h
 |_::X,h=>Sat.Db (X:=X) h.BC
def J4(x:Nat):Value:=.func (.func 143) #[ptr x] #[]
def fF(s:PS)(i:Nat):Int×Value:=((s.l.ag i).a,if(s.l.ag i).c=1 then J4 (s.wb (s.l.ag i).w.toNat)else s.cv i)
def bA(s:PS):List (Int×Value):=s.q.map (fF s)
def fQ(ag:Nat->qy)(i j:Nat):Prop:=(ag i).a<(ag j).a\/((ag i).a=(ag j).a/\i<j)
def Mz(s:PS)(i:Nat)(e:qy):Prop:=(e.c=0->∃t ba bt bw:Nat,e.t=t/\t<s.l.tl/\s.cv i=.func (.func 48) #[] #[ptr ba,ptr bt,ptr bw]/\Has s.cx (oR ba 0 [ptr s.k.A] false)/\Has s.cx (oR bt 0 [ptr (s.T t)] false)/\Has s.cx (oR bw 0 [s.wk t] false))/\
 (e.c≠0->e.c≠1->∃ba bw,s.cv i=.func (.func 182) #[] #[ptr ba,ptr bw]/\Has s.cx (oR ba 0 [ptr s.k.A] false)/\Has s.cx (oR bw 0 [ptr (s.wb e.w.toNat)] false))
structure QI(s:PS):Prop where
 lt:∀i∈s.q,i<s.l.al/\(s.l.ag i).o=false
 all:∀i,i<s.l.al->(s.l.ag i).o=false->i∈s.q
 pN:s.q.Pairwise (fQ s.l.ag)
 ws:∀i∈s.q,(s.l.ag i).c=0\/∃w:Nat,(s.l.ag i).w=w/\w<s.l.wl
 cv:∀i∈s.q,Mz s i (s.l.ag i)
structure TI(s:PS):Prop where
 nc:s.k.V.nc<=s.l.tl
 wt:∀w,w<s.l.wl->∃u:Nat,u<s.l.tl/\(s.l.wt w).t=u
 cm:∀i,i<s.l.wl->∀b vs,s.cm i=some (b,vs)->(∃x y z,vs=[x,y,z])/\(∃k:Nat,(s.l.wt i).l=k/\(s.k.V.ly k).k=6)/\((s.l.wt i).x=true->(s.l.wt i).z=2->WA s.cx (.agg vs.toArray) (s.l.wt i).b)
 cl:∀j,j<s.l.tl->∃c:Nat,(s.l.tk j).c=c/\c<s.k.V.nc/\(j<s.k.V.nc->c=j/\(s.l.tk j).p=0)
 wk:∀j,s.k.V.nc<=j->j<s.l.tl->∃w bl bc bw k vs,(s.l.tk j).f=((w:Nat):Int)/\w<s.l.wl/\(s.l.wt w).l=((k:Nat):Int)/\(s.l.tk j).p=k+1/\k<s.k.V.nl/\(s.k.V.ly k).k=6/\s.wk j=.func (.func 185) #[] #[ptr bl,ptr bc,ptr bw]/\Has s.cx (oR bl 0 [ptr (s.k.lb k)] false)/\Has s.cx (oR bw 0 [ptr (s.wb w)] false)/\s.cm w=some (bc,vs)
 ch:∀j,j<s.l.tl->(s.bl j).Pairwise (·<·)/\∀c∈s.bl j,j<c/\c<s.l.tl/\s.k.V.nc<=c/\∃w:Nat,(s.l.tk c).f=w/\w<s.l.wl/\(s.l.wt w).t=j
 can:∀j,j<s.l.tl->(s.l.tk j).o=-1\/∃w k:Nat,(s.l.tk j).o=w/\w<s.l.wl/\(s.l.wt w).l=k/\k<s.k.V.nl
 zz:∀i,i<s.l.wl->(s.l.wt i).x=true->(s.l.wt i).z=2\/(s.l.wt i).z=3
structure yV(q:aN)(wl:Nat)(wt:Nat->tU)(k:Nat):Prop where
 pN:q.Pairwise (·<·)
 mem:∀w∈q,w<wl/\(wt w).l=k
 all:∀w,w<wl->(wt w).l=k->(wt w).x=false->(wt w).e=false->w∈q
def yV.cB{a:Nat}{wt:Nat->tU}{x:tU}(h:yV q a wt k)(c:x.l≠k):yV q (a+1) (upd wt a x) k:=by
 refine⟨h.pN,λw c=>?_,λw c b f d=>?_⟩
 .have:=h.mem w c;refine⟨ω,?_⟩;simp only[upd];grind
 .by_cases e:w=a
  .subst e;simp[upd]at b;omega
  .simp only[upd,af e]at b f d;exact h.all w ω b f d
abbrev PS.cB(s:PS)(t:Nat)(ly d:Int)(i x:Nat)(en:ay)(eb:mW)(cb:Bool):PS:={s with en:=en,eb:=eb,q:=s.q.take i++s.l.al::s.q.drop i,wb:=upd s.wb s.l.wl x,cm:=upd s.cm s.l.wl none,l:=s.l.wait t ly d cb}
def jT(s:PS):(bA s).length=s.q.length:=by simp[bA]
def xL{b:Nat->qy}(h:q.Pairwise (fQ b))(a:i<j)(c:j<q.length):fQ b (q[i]' ω) q[j]:=HA.1 h i j ω c a
def oX:∀{n:Nat}{q:aN},q.Nodup->(∀i∈q,i<n)->q.length<=n
 |0,[],_,_=>az _
 |0,i::_,_,h=>by have:=h i (bI ..);omega
 |n+1,q,a,h=>by
  have b:=oX (n:=n) (q:=q.erase n) (a.erase _) λi a=>by
   grind
  grind
def QI.len{s:PS}(Q:QI s):s.q.length<=s.l.al:=oX (Q.pN.imp fun{a b} h e=>by subst e;unfold fQ at h;omega) λi a=>(Q.lt i a).1
def QI.ins{s s1:PS}{e:qy}(Q:QI s)(hi:i<=s.q.length)(G:iM (bA s) e.a i)(g:s1.q=s.q.take i++s.l.al::s.q.drop i)(p:s1.k=s.k)(o:s1.l.al=s.l.al+1)(H:s1.l.ag=upd s.l.ag s.l.al e)(ho:e.o=false)(hw:e.c=0\/∃w:Nat,e.w=w/\w<s1.l.wl)(O:s.l.wl<=s1.l.wl)(P:∀w,w<s.l.wl->s1.wb w=s.wb w)(X:∀j,j≠s.l.al->s1.cv j=s.cv j)(W:∀r,Has s.cx r->Has s1.cx r)(R:s.l.tl<=s1.l.tl)(hT:∀j,j<s.l.tl->s1.T j=s.T j/\s1.wk j=s.wk j)(E:Mz s1 s.l.al e):QI s1/\bA s1=(bA s).take i++fF s1 s.l.al::(bA s).drop i:=by
 have b:∀j,j<s.l.al->s1.l.ag j=s.l.ag j:=λj a=>by rw[H];simp only[upd];grind
 have u:s1.l.ag s.l.al=e:=by rw[H];exact sJ rfl
 have c:∀j,j∈s1.q↔j=s.l.al\/j∈s.q:=λj=>by
  rw[g]
  conv=>rhs;rhs;rw[<-va i s.q]
  grind
 have N:∀j∈s.q,(s.l.ag j).c≠0->s1.wb (s.l.ag j).w.toNat=s.wb (s.l.ag j).w.toNat:=λj a J=>by
  rcases Q.ws j a with z|⟨w,v,y⟩
  .omega
  simp_all
 have d:∀j∈s.q,fF s1 j=fF s j:=λj a=>by
  have f:=(Q.lt j a).1;unfold fF;grind
 refine⟨⟨λj a=>?_,λj I E=>?_,?_,λj a=>?_,λj a=>?_⟩,?_⟩
 .rcases(c j).1 a with rfl|a
  .simp_all
  .rw[b j (Q.lt j a).1,o];have:=Q.lt j a;grind
 .rw[c];by_cases e:j=s.l.al
  .exact .inl e
  .have a:j<s.l.al:=ω
   rw[b j a]at E;exact .inr (Q.all j a E)
 .rw[g];have F:∀j∈s.q,∀k∈s.q,fQ s.l.ag j k->fQ s1.l.ag j k:=λj a k p h=>by
   unfold fQ;rw[b j (Q.lt j a).1,b k (Q.lt k p).1];exact h
  have m:=Q.pN;rw[<-va i s.q,YS]at m;let⟨M,L,p3⟩:=m;have x:∀j∈s.q.take i,j∈s.q:=λj a=>DW a;have B:∀j∈s.q.drop i,j∈s.q:=λj a=>DV a;rw[YS,iG];refine⟨LK (λD C h=>F _ (x _ D) _ (x _ C) h) M,⟨λj a=>?_,LK (λD C h=>F _ (B _ D) _ (B _ C) h) L⟩,λj a k p=>?_⟩
  .unfold fQ;rw[u,b j (Q.lt j (B j a)).1];left;let⟨n,l⟩:=u9 a;rw[DT]at l;have:=G.gt (i+n) (fF s j) ω (by simp[bA,l]);exact this
  .rcases ak.1 p with rfl|p
   .unfold fQ;rw[u,b j (Q.lt j (x j a)).1];have T:(s.l.ag j).a<=e.a:=by
     let⟨n,l⟩:=u9 a;rw[List.getElem?_take]at l;split at l
     .rename_i S;have A:0<i:=ω
      have f:i-1<s.q.length:=ω
      have V:=G.le (fF s (s.q[i-1])) A (by simp[bA,f]);have U:(s.l.ag (s.q[i-1])).a<=e.a:=V;rcases Lz (show n<=i-1 by omega)with e|e
      .simp_all
      .have g:=xL Q.pN e f;have q:s.q[n]' ω=j:=χ
       rw[q]at g;rcases g with z|z
       .omega
       .omega
     .cases l
    have:=(Q.lt j (x j a)).1;omega
   simp_all
 .rcases(c j).1 a with rfl|a
  .simp_all
  .rw[b j (Q.lt j a).1];exact(Q.ws j a).imp id fun⟨w,v,y⟩=>⟨w,v,ω⟩
 .rcases(c j).1 a with rfl|a
  .simp_all
  .rw[b j (Q.lt j a).1];have q:j≠s.l.al:=by have:=(Q.lt j a).1;omega
   refine⟨λY=>?_,λJ I=>?_⟩
   .let⟨t,ba,bt,Z,v,y,K,z4,z5,z6⟩:=(Q.cv j a).1 Y;grind
   .let⟨ba,Z,v,y,K⟩:=(Q.cv j a).2 J I;grind
 .unfold bA;rw[g,List.map_append,nP,<-List.map_take,<-List.map_drop];congr 1
  .exact u7 λj a=>d j (DW a)
  .congr 1;exact u7 λj a=>d j (DV a)
def QI.cB{s:PS}(Q:QI s){t:Nat}{ly d:Int}{i x:Nat}{en:ay}{eb:mW}{cb:Bool}(b:i<=s.q.length)(a:iM (bA s) (s.l.now+d) i):QI (s.cB t ly d i x en eb cb)/\bA (s.cB t ly d i x en eb cb)=(bA s).take i++(s.l.now+d,J4 x)::(bA s).drop i:=by
 have:=Q.ins (s1:=s.cB t ly d i x en eb cb) (e:=⟨s.l.now+d,t,s.l.wl,1,false⟩) b a rfl rfl rfl rfl rfl (.inr ⟨s.l.wl,rfl,gr _⟩) (Nat.le_succ _) (λw a=>af (iS a)) (λ_ _=>rfl) (λ_ h=>h) (az _) (λ_ _=>⟨rfl,rfl⟩) ⟨(λz=>by cases z),λ_ z=>absurd rfl z⟩;refine⟨this.1,this.2.trans ?_⟩;congr 2;unfold fF;simp[LS.wait,LS.cB,LS.put,upd]
abbrev PS.uQ(s:PS)(n i:Nat)(en:ay)(eb:mW)(ba bw:Nat)(z:Int)(b:Bk):PS:={s with en:=en,eb:=eb,q:=s.q.take i++s.l.al::s.q.drop i,cv:=upd s.cv s.l.al (.func (.func 182) #[] #[ptr ba,ptr bw]),cx:=oR ba 0 [ptr s.k.A] false::oR bw 0 [ptr (s.wb n)] false::s.cx,l:=s.l.fix n z b}
def QI.uQ{s:PS}(Q:QI s){n i:Nat}{en:ay}{eb:mW}{ba bw:Nat}{z:Int}{b:Bk}(a:z=2\/z=3)(c:n<s.l.wl)(d:i<=s.q.length)(a:iM (bA s) s.l.now i):QI (s.uQ n i en eb ba bw z b)/\bA (s.uQ n i en eb ba bw z b)=(bA s).take i++(s.l.now,.func (.func 182) #[] #[ptr ba,ptr bw])::(bA s).drop i:=by
 have:=Q.ins (s1:=s.uQ n i en eb ba bw z b) (e:=⟨s.l.now,(s.l.wt n).t,n,z,false⟩) d a rfl rfl rfl rfl rfl (.inr ⟨n,rfl,c⟩) (az _) (λ_ _=>rfl) (λj a=>af a) (λ_ h=>h.cons.cons) (az _) (λ_ _=>⟨rfl,rfl⟩) ⟨λy=>ξ,λ_ _=>⟨ba,bw,sJ rfl,⟨rfl,0,rfl⟩,⟨rfl,1,rfl⟩⟩⟩;refine⟨this.1,this.2.trans ?_⟩;congr 2;unfold fF;have:z≠1:=ω
 simp[LS.fix,LS.put,upd,this]
def TI.cB{s:PS}(H:TI s){t:Nat}(m:t<s.l.tl){ly d:Int}{i x:Nat}{en:ay}{eb:mW}{cb:Bool}(y:cb=true->∃k:Nat,ly=k/\k<s.k.V.nl):TI (s.cB t ly d i x en eb cb):=by
 have n:∀w,w<s.l.wl->(s.cB t ly d i x en eb cb).l.wt w=s.l.wt w:=λw h=>af (iS h);have r:∀w,w<s.l.wl->(s.cB t ly d i x en eb cb).wb w=s.wb w:=λw h=>af (iS h);have p:∀w,w<s.l.wl->(s.cB t ly d i x en eb cb).cm w=s.cm w:=λw h=>af (iS h);have l:∀j,((s.cB t ly d i x en eb cb).l.tk j).c=(s.l.tk j).c/\((s.cB t ly d i x en eb cb).l.tk j).f=(s.l.tk j).f/\((s.cB t ly d i x en eb cb).l.tk j).p=(s.l.tk j).p:=λj=>by
  by_cases e:j=t
  .subst e;simp[LS.wait,LS.cB,LS.put,upd]
  .simp[LS.wait,LS.cB,LS.put,upd,e]
 refine⟨H.nc,λw h=>?_,λw h b vs z=>?_,λj g=>?_,λj B A=>?_,λj g=>⟨(H.ch j g).1,λc o=>?_⟩,λj g=>?_,λw h z=>?_⟩
 .have q:w<s.l.wl+1:=h;by_cases e:w=s.l.wl
  .subst e;exact⟨t,m,by simp[LS.wait,LS.cB,LS.put,upd]⟩
  .rw[n w ω];exact H.wt w ω
 .have q:w<s.l.wl+1:=h;by_cases e:w=s.l.wl
  .subst e;simp[upd]at z
  .rw[n w ω];rw[p w ω]at z;exact H.cm w ω b vs z
 .rw[(l j).1,(l j).2.2];exact H.cl j g
 .let⟨w,D,E,C,k,vs,f,a,m,l,b,p,u,r,_,v⟩:=H.wk j B A;exact⟨w,D,E,C,k,vs,ξ,BX a,ξ,ξ,b,p,u,r,ξ,ξ⟩
 .let⟨f,a,m,w,l,b,p⟩:=(H.ch j g).2 c o;exact⟨f,a,m,w,ξ,BX b,ξ⟩
 .have old:(s.l.tk j).o=-1\/∃w k:Nat,(s.l.tk j).o=w/\w<s.l.wl+1/\((s.cB t ly d i x en eb cb).l.wt w).l=k/\k<s.k.V.nl:=(H.can j g).imp id fun⟨w,k,f,a,m,l⟩=>⟨w,k,f,ω,ξ,l⟩
  by_cases e:j=t
  .subst e;cases cb with
   |false=>simpa [LS.wait,LS.cB,LS.put,upd]using old
   |true=>
    let⟨k,f,a⟩:=y rfl;exact .inr ⟨s.l.wl,k,by simp[LS.wait,LS.cB,LS.put,upd],gr _,by simp[LS.wait,LS.cB,LS.put,upd,f],a⟩
  .have a:((s.cB t ly d i x en eb cb).l.tk j).o=(s.l.tk j).o:=by simp[LS.wait,LS.cB,LS.put,upd,e]
   rw[a];exact old
 .have q:w<s.l.wl+1:=h;by_cases e:w=s.l.wl
  .subst e;simp[LS.wait,LS.cB,LS.put,upd]at z
  .rw[n w ω]at z ⊢;exact H.zz w ω z
def TI.uQ{s:PS}(H:TI s){n i:Nat}{en:ay}{eb:mW}{ba bw:Nat}{z:Int}{b:Bk}(t:z=2\/z=3)(l:z=2->∀c vs,s.cm n=some (c,vs)->WA s.cx (.agg vs.toArray) b):TI (s.uQ n i en eb ba bw z b):=by
 have d:∀w,((s.uQ n i en eb ba bw z b).l.wt w).l=(s.l.wt w).l/\((s.uQ n i en eb ba bw z b).l.wt w).t=(s.l.wt w).t:=λw=>by
  by_cases e:w=n
  .subst e;simp[LS.fix,LS.put,upd]
  .simp[LS.fix,LS.put,upd,e]
 have up:∀r,Has s.cx r->Has (s.uQ n i en eb ba bw z b).cx r:=λr h=>h.cons.cons;refine⟨H.nc,λw h=>by rw[(d w).2];exact H.wt w h,λw h a vs y=>⟨(H.cm w h a vs y).1,by rw[(d w).1];exact(H.cm w h a vs y).2.1,λo f=>?_⟩,H.cl,λj x v=>?_,λj g=>⟨(H.ch j g).1,λc u=>?_⟩,λj g=>?_,λw h y=>?_⟩
 .by_cases e:w=n
  .subst e;simp only[LS.fix,LS.put,upd,if_true]at o f ⊢;exact(l f a vs y).up up
  .simp only[LS.fix,LS.put,upd,af e]at o f ⊢;exact((H.cm w h a vs y).2.2 o f).up up
 .let⟨w,z,A,bw,k,vs,d,b,l,a,i,p,s,r,q,m⟩:=H.wk j x v;exact⟨w,z,A,bw,k,vs,d,b,ξ,a,i,p,s,up _ r,up _ q,m⟩
 .let⟨d,b,l,w,a,i,p⟩:=(H.ch j g).2 c u;exact⟨d,b,l,w,a,i,ξ⟩
 .exact(H.can j g).imp id fun⟨w,k,d,b,l,a⟩=>⟨w,k,d,b,ξ,a⟩
 .by_cases e:w=n
  .subst e;simp only[LS.fix,LS.put,upd,if_true];exact t
  .simp only[LS.fix,LS.put,upd,af e]at y ⊢;exact H.zz w h y
def TI.ca{s:PS}(H:TI s)(b:n<s.l.wl)(h:nJ (s.l.wt n)=0):(s.l.wt n).x=false/\(s.l.wt n).e=false:=by
 unfold nJ at h;cases a:(s.l.wt n).x with
 |true=>rw[a]at h;have:=H.zz n b a;simp_all
 |false=>
  simp_all
def Kq(F:aB prog D (DX Ok) Ψ)(M:HB B Ok){s:PS}(t:Int)(fn:Fn)(fst cap:gd)(m:Sat Ok w (pM s++C))(f:PV Ok s es)(R:Flat C)(l:B<=w.heap.size)(P:es.length<1000000)(K:∀i en l J,i<=es.length->iM es t i->Sat Ok J (pM {s with en:=en,eb:=l}++C)->PV Ok {s with en:=en,eb:=l} (es.take i++(t,.func fn fst cap)::es.drop i)->w.heap.size<=J.heap.size->Ψ (G (cf.finish (.tuple #[])) U) J):
 Ψ (G (Frame.enter prog 47 #[ptr s.k.A,i6 t,.func fn fst cap] .normal) (cf::U)) w:=by
 have l:=m.ok 0 _ rfl (0,1) ⟨aD,gr 1⟩;have q:=m.val 0 _ rfl (0,1) ⟨aD,gr 1⟩;have B:=au q;have G:fZ (s.k.A+1) w s.en es:=Mp (i:=1) m rfl f.en λz=>(f.eo z).1;have A:∀g,g∈cw s.en->s.eb.c=1/\g=s.eb.E:=λg d=>by
  rcases f.en.2 with ⟨p,x,W⟩|⟨o,c,p,x,_⟩
  .rw[p,bS]at d;simp[Value.ownBlock]at d
  .rw[p,bS]at d;simp[Value.ownBlock]at d;omega
 refine EX (s.k.A+1) s.k.A t fn fst cap s.en es w (by exact B) (gr _) P G q (l.2 rfl).2 l.1 (l.2 rfl).1 (λa wr h=>?_) Ψ F cf U λv J c=>?_
 .rcases h with h|h
  .let⟨p,x⟩:=A _ h;exact(f.eo p).2 a wr x
  .exact M a wr ω
 .obtain⟨rfl,L,O,i,Q,H,V,T,c3,S⟩:=c;have c:(es.take i++(t,Value.func fn fst cap)::es.drop i).length=es.length+1:=θ
  have E:∀i r g e n,nth ([bR s.k.J [.slice s.ea s.l.el s.ec],vR s.ea 5 (λj=>yt (s.l.ev j)) s.l.el s.ec 73,sR s.ea 5 s.vv s.l.el s.ec,fR ⟨s.k.HD,0,none⟩ 1 (λj=>[i6 (s.l.us j)]) s.k.V.nc true,fR ⟨s.k.O,0,none⟩ 4 (λj=>yL (s.l.ou j,s.oh j)) s.k.V.nc true]++C) i=some r->r.row=some (g,e,n)->g≠s.k.A:=λi r g e n b d=>by
   match i,b with
   |0,b=>cases b;cases d
   |1,b=>
    cases b;cases k:s.ea with
    |none=>simp_all
    |some a=>
     let⟨y,u,_⟩:=m.row 3 _ rfl g e n d;intro I;rw[k]at y u;rcases f.jr.row with ⟨z,_⟩|⟨N,z,_⟩
     .simp_all
     .rw[k]at z;cases z;have c:N=g:=u;have:=m.sep 0 _ 3 _ rfl rfl rfl (0,0) (0,0) ⟨aD,D9 1⟩ χ (by rw[k];show(⟨s.k.A,0,none⟩:Addr)=((⟨N,0,none⟩:Addr).add (0*5)).add 0;rw[add_add,c,I]);omega
   |2,b=>cases b;cases d
   |3,b=>cases b;cases d
   |4,b=>cases b;cases d
   |i+5,b=>rw[R i r b]at d;cases d
  let⟨b,y,u,_,e,c⟩:=Sat.bA m f.en (λz=>(f.eo z).1) (λa wr z=>M a wr ω) (λz=>(f.eo z).2) L V T c3 S ω E;exact K i O b J Q H y {f with en:=u,eo:=λ_=>⟨e,c⟩} L.size
def uC(F:aB prog D (DX Ok) Ψ)(o:HB B Ok){s:PS}(n:Sat Ok w (pM s++C))(p:Has C (wF T s.k.A t tc aS))(r:PV Ok s (bA s))(Q:QI s)(v:Flat C)(j:∀k,k<s.k.V.nl->(s.k.V.ly k).k=5->∀w∈s.lq k,w<s.l.wl)(a:B<=w.heap.size)(u:s.q.length<1000000)(a:-4611686018427387904<=s.l.now+d)(a:s.l.now+d<4611686018427387904)(K:∀i x en b J,Sat Ok J (pM (s.cB t ly d i x en b cb)++(bR x [ptr T,i6 0]::C))->PV Ok (s.cB t ly d i x en b cb) (bA (s.cB t ly d i x en b cb))->QI (s.cB t ly d i x en b cb)->i<=s.q.length->w.heap.size<=x->x<J.heap.size->Ψ (G (cf.finish (ptr x)) U) J):
 Ψ (G (Frame.enter prog 151 #[ptr T,i6 d] .normal) (cf::U)) w:=by
 replace n:=n.get (p.app (pM s));refine cJ func151 n 26 λa a a c c m e h f=>?_;have g:IntKind.wrap .i64 (s.l.now+d)=s.l.now+d:=aA ω ω;refine aq (λM=>bR (a) [ptr T,i6 0]::(M)) 1 F o c e h 13 [1,0,0,1,1,0,0,1,2,0,0,1] 1 [15] [(23,.func (Fn.func 143) #[ptr a] #[]),(21,i6 (IntKind.wrap .i64 (s.l.now+d))),(12,ptr s.k.A),(5,ptr a)] 13 1 [15] λe h q e f f f=>?_;rw[g]at q;refine ah F c e q 24 47 #[ptr s.k.A,i6 (s.l.now+d),.func (Fn.func 143) #[ptr a] #[]] λe f=>?_;have e:Sat Ok h (pM s++(bR a [ptr T,i6 0]::C)):=Sat.back (A:=pM s) (Sat.BC (A:=[bR a [ptr T,i6 0]]) q.sat);refine Kq F o (s.l.now+d) (.func 143) #[ptr a] #[] e r (v.cons rfl) ω (by rw[jT];exact u) λi en b e l h p e r=>f _ _ _ p λf f r f p=>?_;rw[jT]at l;refine UF F o c m f r 6 [] 1 [] 4 (ptr a) 20 1 [15] λm o c c=>?_;let⟨p,f⟩:=Q.cB (t:=t) (ly:=ly) (x:=a) (en:=en) (eb:=b) (cb:=cb) l h;have c:PV Ok (s.cB t ly d i a en b cb) (bA (s.cB t ly d i a en b cb)):=by rw[f];exact{e with rm:=λk d f=>(e.rm k d f).wb λw g=>af (iS (j k d f w g))}
 exact K i a en b m o.sat c p l ω ω
def pL(F:aB prog D (DX Ok) Ψ)(l:HB B Ok){s:PS}{bv:ay}{a e:Bool}(c:Sat Ok w (pM s++(dO T v bv a e::C)))(m:Has C (wF T s.k.A t tc aS))(n:PV Ok s (bA s))(Q:QI s)(p:Flat C)(h:∀k,k<s.k.V.nl->(s.k.V.ly k).k=5->∀w∈s.lq k,w<s.l.wl)(b:B<=w.heap.size)(o:s.q.length<1000000)(g:-4611686018427387904<=s.l.now+d)(f:s.l.now+d<4611686018427387904)(K:∀i x en b J,Sat Ok J (pM (s.cB t ly d i x en b cb)++(dO T (ptr x) bv a e::bR x [ptr T,i6 0]::C))->PV Ok (s.cB t ly d i x en b cb) (bA (s.cB t ly d i x en b cb))->QI (s.cB t ly d i x en b cb)->i<=s.q.length->w.heap.size<=x->x<J.heap.size->Ψ (G (cf.finish (ptr x)) U) J):
 Ψ (G (Frame.enter prog 161 #[ptr T,i6 d] .normal) (cf::U)) w:=by
 refine cJ func161 c 15 λa a a a a j c k e=>Rb F l a c k 9 [] 1 [] [(7,i6 d),(6,ptr T),(5,ptr T),(0,ptr T)] 9 1 [] λc c e c k k k=>ah F a c e 8 151 #[ptr T,i6 d] λc c=>uC (ly:=ly) (t:=t) (cb:=cb) F l e.sat (m.cons) n Q (p.cons rfl) h ω o g f λi x en b e m e k g f f=>c _ _ _ m λc c h c f=>bB (λM=>bh 8 (0,0) (ptr x) (M)) 0 F l a j c h 12 [8,0,0,1,8,0,0,1] 1 [] 4 (ptr x) 22 1 [] λa f c c=>K i x en b a (Sat.Zx (A:=pM (s.cB t ly d i x en b cb)) f.sat) e k g ω ω
def Dv(k:PK)(j:Nat):Value:=if j=k.V.nl then .iface 154 (ptr (k.lb j))else if(k.V.ly j).k=1 then .iface 157 (ptr (k.lb j))else if(k.V.ly j).k=3 then .iface 163 (ptr (k.lb j))else if(k.V.ly j).k=4 then .iface 166 (ptr (k.lb j))else if(k.V.ly j).k=5 then .iface 171 (ptr (k.lb j))else if(k.V.ly j).k=6 then .iface 175 (ptr (k.lb j))else .iface 160 (ptr (k.lb j))
structure yF(k:PK)(C:aW):Prop where
 lay:∀j,j<k.V.nl->Has C (tQ (k.lb j) (Dv k (j+1)) j k.J)
 Ig:∀j,j<k.V.nl->(k.V.ly j).k=1->Has C (oR (k.lb j) 3 [i6 (k.V.ly j).a,i6 (k.V.ly j).b,i6 (k.V.ly j).c,i6 (k.V.ly j).d] false)
 Mi:∀j,j<k.V.nl->(k.V.ly j).k=3->Has C (oR (k.lb j) 3 [i6 (k.V.ly j).a,i6 (k.V.ly j).b] false)
 Lh:∀j,j<k.V.nl->(k.V.ly j).k=4->Has C (oR (k.lb j) 3 [i6 (k.V.ly j).a,i6 (k.V.ly j).b,i6 (k.V.ly j).c,i6 (k.V.ly j).d,i6 (k.V.ly j).e] false)
 Kj:∀j,j<k.V.nl->(k.V.ly j).k=5->Has C (oR (k.lb j) 3 [i6 (k.V.ly j).a,i6 (k.V.ly j).b] false)
 Tn:∀j,j<k.V.nl->(k.V.ly j).k=6->Has C (oR (k.lb j) 3 [i6 (k.V.ly j).a] false)
 OV:Has C (tQ (k.lb k.V.nl) .nilIface (-1) k.J)
 Wk:Has C (oR (k.lb k.V.nl) 3 [.slice (some k.ca) k.V.nc k.cc,.slice (some ⟨k.HD,0,none⟩) k.V.nc k.V.nc] false)
 OT:Has C (fR k.ca 2 (λj=>[i6 (k.V.st j),.slice (k.dL j) (k.V.nt j) (k.eu j)]) k.V.nc false)
 xm:∀c,c<k.V.nc->0<k.V.nt c->∃ta,k.dL c=some ta/\Has C (fR ta 3 (λj=>s9 (k.V.tr c j)) (k.V.nt c) false)
 err:Has C (oR 0 0 [.iface 233 (.agg #[.pointer (some ⟨1,136,none⟩)])] false)
def yF.up{k:PK}{a:aW}(h:yF k C)(u:∀r,Has C r->Has a r):yF k a:=⟨λj a=>u _ (h.lay j a),λj a b=>u _ (h.Ig j a b),λj a b=>u _ (h.Mi j a b),λj a b=>u _ (h.Lh j a b),λj a b=>u _ (h.Kj j a b),λj a b=>u _ (h.Tn j a b),u _ h.OV,u _ h.Wk,u _ h.OT,λc a z=>by
 let⟨_,_,b⟩:=h.xm c a z;simp_all,u _ h.err⟩
def yF.cons{k:PK}{C:aW}{r:aH}(h:yF k C):yF k (r::C):=h.up λ_ x=>x.cons
def yF.app{k:PK}{C:aW}(h:yF k C)(A:aW):yF k (A++C):=h.up λ_ x=>x.app A
structure Gq(t:Nat)(s0 s:PS):Prop where
 k:s.k=s0.k
 q:s.q=s0.q
 wb:s.wb=s0.wb
 al:s.l.al=s0.l.al
 ag:s.l.ag=s0.l.ag
 wl:s.l.wl=s0.l.wl
 wt:s.l.wt=s0.l.wt
 now:s.l.now=s0.l.now
 tl:s.l.tl=s0.l.tl
 tk:∀j,j≠t->∃x,s.l.tk j={s0.l.tk j with x:=x}
 tt:(s.l.tk t).c=(s0.l.tk t).c/\(s.l.tk t).f=(s0.l.tk t).f/\(s.l.tk t).p=(s0.l.tk t).p
 ou:∀j,j≠t->s.l.ou j=s0.l.ou j/\s.oh j=s0.oh j
 T:s.T=s0.T/\s.aS=s0.aS/\s.wk=s0.wk
 cm:∀i,(s.cm i).map Prod.fst=(s0.cm i).map Prod.fst
structure Gc(s0 s:PS)(w i:Nat):Prop where
 k:s.k=s0.k
 q:s.q=s0.q.take i++s0.l.al::s0.q.drop i
 wb:s.wb=s0.wb
 oh:s.oh=s0.oh
 l:∃z b,(z=2\/z=3)/\s.l=s0.l.fix w z b
 wn:w<s0.l.wl
 x:(s0.l.wt w).x=false
 e:(s0.l.wt w).e=false
 r:∃k:Nat,(s0.l.wt w).l=k/\k<s0.k.V.nl
 T:s.T=s0.T/\s.aS=s0.aS/\s.wk=s0.wk
 cm:s.cm=s0.cm
def Gu(t:Nat)(s0 s:PS):Prop:=∀P:PS->Prop,P s0->(∀a b,P a->Gq t a b->P b)->(∀a b w i,P a->Gc a b w i->P b)->P s
def Gu.refl(t:Nat)(s:PS):Gu t s s:=λ_ h _ _=>h
def Gu.trans{c b a:PS}(h:Gu t c b)(d:Gq t b a):Gu t c a:=λP c a b=>a _ _ (h P c a b) d
def Gu.uQ{c b a:PS}{w:Nat}(h:Gu t c b)(d:Gc b a w i):Gu t c a:=λP c b a=>a _ _ _ _ (h P c b a) d
structure Gb(s s1:PS)(t w kz i T c:Nat)(u:ay):Prop where
 k:s1.k=s.k
 q:s1.q=s.q.take i++s.l.al::s.q.drop i
 wb:s1.wb=s.wb
 oh:s1.oh=s.oh
 l:s1.l=s.l.begin t w kz
 T:s1.T=upd s.T s.l.tl T/\s1.aS=upd s.aS s.l.tl c/\s1.wk=upd s.wk s.l.tl u
 cm:s1.cm=s.cm
def Gm(s s1:PS):Prop:=s1=s\/s.l.tl<9990/\∃t w k i T c u,Gb s s1 t w k i T c u
structure Mo(s s':PS):Prop where
 k:s'.k=s.k
 tl:s.l.tl<=s'.l.tl
 T:∀j,j<s.l.tl->s'.T j=s.T j/\s'.aS j=s.aS j/\s'.wk j=s.wk j
 tk:∀j,j<s.l.tl->(s'.l.tk j).c=(s.l.tk j).c/\(s'.l.tk j).f=(s.l.tk j).f/\(s'.l.tk j).p=(s.l.tk j).p
 wl:s.l.wl<=s'.l.wl
 wb:∀i,i<s.l.wl->s'.wb i=s.wb i/\(s'.cm i).map Prod.fst=(s.cm i).map Prod.fst
 wt:∀i,i<s.l.wl->(s'.l.wt i).t=(s.l.wt i).t/\(s'.l.wt i).l=(s.l.wt i).l
def Mo.refl(s:PS):Mo s s:=⟨rfl,az _,λ_ _=>⟨rfl,rfl,rfl⟩,λ_ _=>⟨rfl,rfl,rfl⟩,az _,λ_ _=>⟨rfl,rfl⟩,λ_ _=>⟨rfl,rfl⟩⟩
def Mo.trans{a b c:PS}(h:Mo a b)(d:Mo b c):Mo a c:=by
 refine⟨d.k.trans h.k,aT h.tl d.tl,λj a=>?_,λj a=>?_,aT h.wl d.wl,λi b=>?_,λi b=>?_⟩
 .let⟨g,f,l⟩:=h.T j a;let⟨e,c,k⟩:=d.T j (ga a h.tl);simp_all
 .let⟨g,f,l⟩:=h.tk j a;let⟨e,c,k⟩:=d.tk j (ga a h.tl);omega
 .let⟨g,f⟩:=h.wb i b;let⟨e,c⟩:=d.wb i (ga b h.wl);simp_all
 .let⟨g,f⟩:=h.wt i b;let⟨e,c⟩:=d.wt i (ga b h.wl);omega
def Gq.mo{a s:PS}(h:Gq t a s):Mo a s:=by
 refine⟨h.k,pK h.tl.symm,λj _=>⟨by rw[h.T.1],by rw[h.T.2.1],by rw[h.T.2.2]⟩,λj _=>?_,pK h.wl.symm,λi _=>⟨by rw[h.wb],h.cm i⟩,λi _=>by rw[h.wt];omega⟩;by_cases e:j=t
 .rw[e];exact h.tt
 .let⟨x,a⟩:=h.tk j e;simp_all
def Gc.mo{a s:PS}{w:Nat}(h:Gc a s w i):Mo a s:=by
 let⟨z,b,_,a⟩:=h.l;refine⟨h.k,by rw[a];exact az _,λj _=>⟨by rw[h.T.1],by rw[h.T.2.1],by rw[h.T.2.2]⟩,λj _=>by rw[a];exact⟨rfl,rfl,rfl⟩,by rw[a];exact az _,λi _=>⟨by rw[h.wb],by rw[h.cm]⟩,λj _=>?_⟩;rw[a];by_cases e:j=w
 .subst e;simp[LS.fix,LS.put,upd]
 .simp[LS.fix,LS.put,upd,e]
def Gb.mo{s a:PS}{w:Nat}(h:Gb s a t w k i T c u):Mo s a:=by
 refine⟨h.k,by rw[h.l];exact Nat.le_succ _,λj a=>by rw[h.T.1,h.T.2.1,h.T.2.2];simp[upd,iS a],λj a=>by rw[h.l];simp[LS.begin,LS.put,upd,iS a],by rw[h.l];exact az _,λi _=>⟨by rw[h.wb],by rw[h.cm]⟩,λj _=>?_⟩;rw[h.l];by_cases e:j=w
 .subst e;simp[LS.begin,LS.put,upd]
 .simp[LS.begin,LS.put,upd,e]
def Gm.mo{s a:PS}(h:Gm s a):Mo s a:=by
 rcases h with rfl|⟨_,t,w,k,i,T,c,u,h⟩
 .exact Mo.refl _
 .exact h.mo
structure TE(γ:Type) where
 Ok:γ->Addr->Bool->Prop
 Ψ:γ->Goroutine->World->Prop
 Bd:γ->Nat
 O:γ->List aH
 s0:γ->PS
 pS:γ->Nat
 Ch:γ->List (Nat×Nat)
 T:Nat
 ch:Nat
 c:Int
 i0:PS
abbrev TE.P{γ:Type}(E:TE γ)(p:γ)(s:PS):List aH:=gS s++E.O p
abbrev TE.me{γ:Type}(E:TE γ)(I:PK)(t:Nat):aH:=wF E.T I.A t E.c E.ch
def kT{E:TE γ}:Has (E.me I t::M) (E.me I t):=⟨rfl,0,rfl⟩
structure Cp{γ:Type}(E:TE γ)(I:PK)(t:Nat)(p:γ)(s:PS):Prop where
 gu:Gu t (E.s0 p) s
 hk:s.k=I
 tn:t<s.l.tl
 hT:s.T t=E.T/\s.aS t=E.ch/\(s.l.tk t).c=E.c
 mo:Mo E.i0 s
 JN:∀j,j<s.l.tl->(s.T j,s.aS j)∈E.Ch p
structure Cn{γ:Type}(E:TE γ)(I:PK)(t:Nat)(p:γ)(s:PS)(w:aj)(R:aW):Prop where
 sat:Sat (E.Ok p) w (pM s++(E.me I t::(R++E.P p s)))
 pv:PV (E.Ok p) s (bA s)
 qi:QI s
 fl:Flat (R++E.O p)
 eH:yF I R
 bd:E.Bd p<=w.heap.size
 cp:Cp E I t p s
 ln:∀k,k<I.V.nl->(I.V.ly k).k=5->yV (s.lq k) s.l.wl s.l.wt k
 ti:TI s
def Cn.hk{γ:Type}{E:TE γ}{I:PK}{t:Nat}{p:γ}{s:PS}{w:aj}{R:aW}(C:Cn E I t p s w R):s.k=I:=C.cp.hk
def Cn.tn{γ:Type}{E:TE γ}{I:PK}{t:Nat}{p:γ}{s:PS}{w:aj}{R:aW}(C:Cn E I t p s w R):t<s.l.tl:=C.cp.tn
def Cp.gq{E:TE γ}{p:γ}{s a:PS}(C:Cp E I t p s)(h:Gq t s a):Cp E I t p a:=
 ⟨C.gu.trans h,h.k.trans C.hk,by rw[h.tl];exact C.tn,by rw[h.T.1,h.T.2.1,h.tt.1];exact C.hT,C.mo.trans h.mo,λj a=>by rw[h.T.1,h.T.2.1];exact C.JN j (by rw[<-h.tl];exact a)⟩
def Cp.gc{E:TE γ}{p:γ}{s a:PS}{w:Nat}(C:Cp E I t p s)(h:Gc s a w i):Cp E I t p a:=by
 have a:=h.l;let⟨z,b,_,a⟩:=a;exact⟨C.gu.uQ h,h.k.trans C.hk,by rw[a];exact C.tn,by rw[h.T.1,h.T.2.1,a];exact C.hT,C.mo.trans h.mo,λj c=>by rw[h.T.1,h.T.2.1];rw[a]at c;exact C.JN j c⟩
abbrev u0(V:Ev0)(Z:LS->Prop)(m t wn:Nat)(c:Int)(L:LS):Prop:=OnW (Fin V Z m) V t wn c L
def LS.tH(L:LS)(wn:Nat)(b:Bk):LS:={L with wt:=upd L.wt wn {L.wt wn with b:=b}}
def E5(L:LS)(t:Nat)(l d:Int)(cb:Bool):(L.wait t l d cb).tH L.wl ⟨0,0,[]⟩=L.wait t l d cb:=by
 unfold LS.tH LS.wait LS.put LS.cB;simp only;congr 1;funext i;unfold upd;simp_all
def j8{l b:aW}(h:∀f:aH->Nat,(l.map f).sum=(b.map f).sum):l.Perm b:=by
 classical
 refine List.perm_iff_count.2 λa=>?_;have e:∀l:List aH,l.count a=(l.map λr=>if r=a then 1 else 0).sum:=λl=>by
  induction l with
  |nil=>rfl
  |cons x l a=>grind
 simp_all
def E7:Flat M↔∀r∈M,r.row=none:=⟨λh r b=>by
 let⟨i,a⟩:=u9 b;exact h i r (by rw[dF];exact a),λh i r a=>h r (by rw[dF]at a;grind)⟩
structure JL(t:Nat)(s s1:PS)(ly d:Int)(i x:Nat)(b:Bk)(cb:Bool):Prop where
 k:s1.k=s.k
 q:s1.q=s.q.take i++s.l.al::s.q.drop i
 wb:s1.wb=upd s.wb s.l.wl x
 oh:s1.oh=s.oh
 l:s1.l=(s.l.wait t ly d cb).tH s.l.wl b
 T:s1.T=s.T/\s1.aS=s.aS/\s1.wk=s.wk
 cm:∀j,j<s.l.wl->s1.cm j=s.cm j
structure jF{γ:Type}(E:TE γ)(I:PK)(Z:LS->Prop)(t:Nat):Prop where
 V:wM I.V
 it:t<E.i0.l.tl
 f:∀p,aB prog false (DX (E.Ok p)) (E.Ψ p)
 hB:∀p (a:Addr) (wr:Bool),E.Bd p<=a.block->E.Ok p a wr
 wait:∀(p:γ)(s s1 s2:PS)(w:aj)(i x:Nat)(ly:Nat)(d:Int)(b:Bk)(cb:Bool)(c:aC)(U:cO)(R:aW)(m:Nat),Cp E I t p s->TI s->ly<=I.V.nl->(cb=true->ly<I.V.nl)->JL t s s1 ly d i x b cb->Gm s1 s2->(∀j,j<s2.l.tl->(s2.T j,s2.aS j)∈E.Ch p)->
  Sat (E.Ok p) w (pM s2++(E.me I t::(R++E.P p s2)))->PV (E.Ok p) s2 (bA s2)->QI s2->TI s2->(∀k,k<I.V.nl->(I.V.ly k).k=5->yV (s2.lq k) s2.l.wl s2.l.wt k)->(∀k,k<I.V.nl->(I.V.ly k).k=5->(s2.f k).s=true->(s2.f k).g≠x)->(∀j,j<s2.l.tl->(s2.bf j).s=true->(s2.bf j).g≠x)->Flat (R++E.O p)->yF I R->E.Bd p<=w.heap.size->Fin I.V Z m none s2.l->m<=E.pS p->
  (∀p' s' J m' (z:Int),m'<m->m'<=E.pS p'->Cn E I t p' s' J R->u0 I.V Z m' t s.l.wl z s'.l->(s'.l.wt s.l.wl).l=ly->(ly=I.V.nl->(s'.l.wt s.l.wl).b=b)->(s'.l.tk t).a=(s.l.tk t).a->Mo s2 s'/\(z≠1->(s'.l.wt s.l.wl).x=true/\(s'.l.wt s.l.wl).z=z)->(s'.l.tk t).q=(s.l.tk t).q->E.Ψ p' (G (c.finish (i6 z)) U) J)->
  E.Ψ p (G (Frame.enter prog 152 #[ptr x] .normal) (c::U)) w
 born:∀(p:γ)(g:aV)(w:aj)(M:aW)(T j c k:Nat)(cl:Int),w.heap[c]? =some (.chan 0 #[] false k k false)->E.Bd p<=c->E.Bd p<=w.heap.size->Sat (E.Ok p) w M->Has M (wF T I.A j cl c)->
  (∀p',(∀(a:Addr)(wr:Bool),E.Ok p a wr->(wr=true->a≠⟨T,3,none⟩)->E.Ok p' a wr)->E.O p'=E.O p->E.s0 p'=E.s0 p->E.pS p'=E.pS p->E.Bd p<=E.Bd p'->E.Bd p'<=w.heap.size->(T,c)∈E.Ch p'->(∀q∈E.Ch p,q∈E.Ch p')->E.Ψ p' g w)->E.Ψ p g w
def K4{s:PS}(b:k<s.k.V.nl):∀r∈gR (s.k.V.ly k) (s.k.lb k) (s.l.gt k) (s.f k) (s.lq k),r∈gS s:=λr a=>gU _ (mL.2 ⟨k,aZ.2 b,a⟩)
def V6{g:Gt}{f:Fb}(a:y.k=5):fR ⟨f.g,f.o,none⟩ 1 f.v (rK f) true∈gR y lb g f q:=by unfold gR;simp_all
def BF{s:PS}(h:Sat Ok w M)(b:∀r∈gS s,r∈M)(a:k<s.k.V.nl)(c:(s.k.V.ly k).k=5)(d:(s.f k).s=true):(s.f k).g<w.heap.size:=by
 have d:=b _ (K4 a _ (V6 c));let⟨i,a⟩:=u9 d;have b:=h.val i _ (by rw[dF];exact a) (0,0) ⟨by show 0<rK (s.f k);unfold rK;grind,aD⟩;exact au b
def Cn.Ej{E:TE γ}{p:γ}{s:PS}(C:Cn E I t p s w R):∀r∈gS s,r∈pM s++(E.me I t::(R++E.P p s)):=λr a=>gF _ (aP _ (gF _ (gU _ a)))
def rG{s:PS}(h:Sat Ok w M)(b:∀r∈gS s,r∈M)(a:j<s.l.tl)(c:(s.bf j).s=true):(s.bf j).g<w.heap.size:=by
 have c:=b (fR ⟨(s.bf j).g,(s.bf j).o,none⟩ 1 (s.bf j).v (rK (s.bf j)) true) ((jw s a).mem_iff.2 (by simp[j7]));let⟨i,a⟩:=u9 c;have b:=h.val i _ (by rw[dF];exact a) (0,0) ⟨by show 0<rK (s.bf j);unfold rK;grind,aD⟩;exact au b
def Cn.row{E:TE γ}{p:γ}{s:PS}(C:Cn E I t p s w R)(c:k<I.V.nl)(d:(I.V.ly k).k=5)(a:(s.f k).s=true):(s.f k).g<w.heap.size:=
 BF C.sat (λr b=>gF _ (aP _ (gF _ (gU _ b)))) (by rw[C.hk];exact c) (by rw[C.hk];exact d) a
def Cn.TJ{E:TE γ}{p:γ}{s:PS}(C:Cn E I t p s w R):Flat (R++E.P p s):=C.fl.left.app (Flat.app (λi r b=>r9 s (λr a=>(C.pv.cx r a).2) r (by rw[dF]at b;grind)) C.fl.right)
def Sat.Es{a b:ay}(h:Sat Ok w (bR x [a,b]::M)):Sat Ok w (oR x 1 [b] true::oR x 0 [a] false::M):=by
 rw[sat_iff]at h ⊢;let⟨q,l⟩:=h;have H:=q _ (bI ..);have i:∀{o:Nat}{v:ay}{wr:Bool}(j:Ix),(oR x o [v] wr).has j->j=(0,0):=fun{o v wr} j c=>by
  let⟨q,l⟩:=c;grind
 have p:(bR x [a,b]).has (0,0):=⟨aD,(by decide:0<2)⟩;have m:(bR x [a,b]).has (0,1):=⟨aD,(by decide:1<2)⟩;refine⟨λr f=>?_,iG.2 ⟨λr f a j k c d e=>?_,iG.2 ⟨λr f a j k c d e=>?_,(iG.1 l).2⟩⟩⟩
 .rcases ak.1 f with rfl|f
  .exact⟨λj c=>by rw[i j c];exact H.val (0,1) m,λj c=>by rw[i j c];exact H.ok (0,1) m,λ_ j k c d _=>by rw[i j c,i k d],λg e n z=>by cases z⟩
  .rcases ak.1 f with rfl|f
   .exact⟨λj c=>by rw[i j c];exact H.val (0,0) p,λj c=>by rw[i j c];exact⟨(H.ok (0,0) p).1,λz=>(by cases z)⟩,λz=>(by cases z),λg e n z=>(by cases z)⟩
   grind
 .rw[i j c]at e;rcases ak.1 f with rfl|f
  .rw[i k d]at e;simp at e
  .exact(iG.1 l).1 r f (.inl rfl) (0,1) k m d e
 .rw[i j c]at e;exact(iG.1 l).1 r f (.inl rfl) (0,0) k p d e
abbrev PS.O4(s:PS)(t:Nat)(ly d:Int)(i x:Nat)(en:ay)(eb:mW)(b:Bk)(cb:Bool):PS:={s.cB t ly d i x en eb cb with l:=(s.l.wait t ly d cb).tH s.l.wl b}
def zk{s a:PS}(W:JL t s a ly d i x b cb):wS a=wS s++(oR x 1 [i6 0] true::oR x 0 [ptr (s.T t)] false::lf a s.l.wl):=by
 have c:a.l.wl=s.l.wl+1:=by rw[W.l];rfl
 have b:∀j,j<s.l.wl->wR a j=wR s j:=λj b=>by
  unfold wR lf;rw[W.T.1,W.wb,W.l,W.cm j b];simp only[LS.tH,LS.wait,LS.cB,LS.put,upd,af (iS b)]
 have b:wR a s.l.wl=oR x 1 [i6 0] true::oR x 0 [ptr (s.T t)] false::lf a s.l.wl:=by
  unfold wR;rw[W.T.1,W.wb,W.l];simp[LS.tH,LS.wait,LS.cB,LS.put,upd,nJ]
 unfold wS;rw[c,rj,yZ,List.flatMap_singleton,b,List.flatMap_def,List.flatMap_def];congr 2;simp_all
def AM{s:PS}(H:TI s)(a:j<s.l.tl):j9 (upd s.wb s.l.wl x) (s.l.tk j).o=j9 s.wb (s.l.tk j).o:=by
 unfold j9;rcases H.can j a with z|⟨w,k,b,a,_⟩
 .rw[z];rfl
 .rw[b];simp[upd,iS a]
def GQ{s a:PS}(H:TI s)(c:t<s.l.tl)(W:JL t s a ly d i x b cb)(f:a.f=s.f)(d:a.lq=s.lq)(c:a.cx=s.cx)(b:a.bf=s.bf/\a.bl=s.bl):(gS a).Perm (j7 a t++(oR x 1 [i6 0] true::oR x 0 [ptr (s.T t)] false::(lf a s.l.wl++tX s t))):=by
 have i:gA a=gA s:=by unfold gA;rw[W.k,f,d,W.l];rfl
 have k:a.l.tl=s.l.tl:=by rw[W.l];rfl
 have g:((List.range s.l.tl).flatMap λj=>if j=t then[]else j7 a j)=(List.range s.l.tl).flatMap λj=>if j=t then[]else j7 s j:=by
  rw[List.flatMap_def,List.flatMap_def];congr 1;refine u7 λj d=>?_;by_cases e:j=t
  .simp_all
  .rw[af e,af e];have f:a.l.tk j=s.l.tk j:=by rw[W.l];simp[LS.tH,LS.wait,LS.cB,LS.put,upd,e]
   unfold j7;rw[f,W.T.1,W.T.2.1,W.k,W.wb,b.1,b.2,AM H (aZ.1 d)]
 refine(jw a ω).trans (eN _ ?_);unfold tX;rw[i,k,g,zk W,W.k,c];have h:=fA (gA s++wS s) (oR x 1 [i6 0] true::oR x 0 [ptr (s.T t)] false::lf a s.l.wl) (oR s.k.A 2 [i6 s.l.tl] true::(((List.range s.l.tl).flatMap λj=>if j=t then[]else j7 s j)++s.cx));simp_all
def Vz{s:PS}{a:mW}:JL t s (s.O4 t ly d i x en a b cb) ly d i x b cb:=⟨rfl,rfl,rfl,rfl,rfl,⟨rfl,rfl,rfl⟩,λj a=>af (iS a)⟩
section
variable{E:TE γ}{Z:LS->Prop}
def Cn.lqw{p:γ}{s:PS}(C:Cn E I t p s w R):∀k,k<s.k.V.nl->(s.k.V.ly k).k=5->∀w∈s.lq k,w<s.l.wl:=λk a b w c=>((C.ln k (by rw[C.hk]at a;exact a) (by rw[C.hk]at b;exact b)).mem w c).1
def Cn.mine{p:γ}{s:PS}(C:Cn E I t p s w R):Sat (E.Ok p) w (pM s++(j7 s t++(E.me I t::(R++(tX s t++E.O p))))):=by
 refine C.sat.perm (eN _ ?_);have h:=((jw s C.tn).append_right (E.O p)).append_left (E.me I t::R);rw[dU]at h;refine(List.Perm.trans (l₂:=(E.me I t::R)++(gS s++E.O p)) (.refl _) h).trans ?_;exact fA ..
def Cn.lnw{p:γ}{s:PS}(C:Cn E I t p s w R){ly:Nat}(a:ly<I.V.nl->(I.V.ly ly).k≠5):∀k,k<I.V.nl->(I.V.ly k).k=5->yV (s.lq k) ((s.l.wait t ly d cb).tH s.l.wl b).wl ((s.l.wait t ly d cb).tH s.l.wl b).wt k:=λk a c=>by
 have:=(C.ln k a c).cB (x:=⟨t,ly,false,false,b,0,0⟩) (λz=>by
  grind)
 have e:((s.l.wait t ly d cb).tH s.l.wl b).wt=upd s.l.wt s.l.wl ⟨t,ly,false,false,b,0,0⟩:=by funext j;simp only[LS.tH,LS.wait,LS.cB,LS.put,upd];simp_all
 rw[e];exact this
def TI.tH{s:PS}{t:Nat}{ly d:Int}{i x:Nat}{en:ay}{g:mW}{b:Bk}{cb:Bool}(H:TI (s.cB t ly d i x en g cb)):TI (s.O4 t ly d i x en g b cb):=by
 have e:∀j,(((s.l.wait t ly d cb).tH s.l.wl b).wt j).l=((s.l.wait t ly d cb).wt j).l/\(((s.l.wait t ly d cb).tH s.l.wl b).wt j).t=((s.l.wait t ly d cb).wt j).t:=λj=>by
  unfold LS.tH;simp only[upd];grind
 refine⟨H.nc,λw g=>by rw[(e w).2];exact H.wt w g,λj a c vs z=>?_,H.cl,λj n m=>?_,λj a=>⟨(H.ch j a).1,λc l=>?_⟩,λj a=>?_,λj a z=>?_⟩
 .have f:j≠s.l.wl:=λh=>by subst h;simp[upd]at z
  have:=H.cm j a c vs z;have e:((s.l.wait t ly d cb).tH s.l.wl b).wt j=(s.l.wait t ly d cb).wt j:=af f;simp_all
 .let⟨w,o,p,i,k,vs,g,f,h,e⟩:=H.wk j n m;exact⟨w,o,p,i,k,vs,g,f,ξ,e⟩
 .let⟨g,f,h,w,e,i,m⟩:=(H.ch j a).2 c l;exact⟨g,f,h,w,e,i,ξ⟩
 .exact(H.can j a).imp id fun⟨w,k,g,f,h,e⟩=>⟨w,k,g,f,ξ,e⟩
 .have c:(((s.l.wait t ly d cb).tH s.l.wl b).wt j).x=((s.l.wait t ly d cb).wt j).x/\(((s.l.wait t ly d cb).tH s.l.wl b).wt j).z=((s.l.wait t ly d cb).wt j).z:=by
   unfold LS.tH;simp only[upd];grind
  rw[c.2];rw[c.1]at z;exact H.zz j a z
def lG(W:jF E I Z t){p:γ}{s:PS}(C:Cn E I t p s w R)(k:s.l.al<1000000)(n:0<=s.l.now/\s.l.now<1000000000000){ly:Nat}(n:ly<I.V.nl)(n:0<=d/\d<=100000){c:aC}(K:∀i x en a J,Sat (E.Ok p) J (pM (s.cB t ly d i x en a true)++(E.me I t::(R++E.P p (s.cB t ly d i x en a true))))->PV (E.Ok p) (s.cB t ly d i x en a true) (bA (s.cB t ly d i x en a true))->QI (s.cB t ly d i x en a true)->TI (s.cB t ly d i x en a true)->i<=s.q.length->w.heap.size<=x->x<J.heap.size->E.Ψ p (G (c.finish (ptr x)) U) J):
 E.Ψ p (G (Frame.enter prog 161 #[ptr E.T,i6 d] .normal) (c::U)) w:=by
 have c:=C.hk;have l:=C.mine;unfold j7 at l;rw[C.cp.hT.1]at l;refine pL (t:=t) (aS:=E.ch) (tc:=E.c) (ly:=ly) (cb:=true) (W.f p) (W.hB p) l (by rw[c];exact(kT.cons).cons) C.pv C.qi (((Flat.app C.fl.left (Flat.app (E7.2 λr h=>?_) C.fl.right)).cons rfl).cons rfl|>.cons rfl) C.lqw C.bd (Nat.lt_of_le_of_lt C.qi.len k) ω ω λi x en a J q g u o e b=>?_
 .exact r9 s (λr h=>(C.pv.cx r h).2) r ((jw s C.tn).mem_iff.2 (gF _ h))
 .refine K i x en a J ?_ g u (C.ti.cB C.tn λ_=>⟨ly,rfl,ξ⟩) o e b;have c:JL t s (s.cB t ly d i x en a true) ly d i x ⟨0,0,[]⟩ true:=⟨rfl,rfl,rfl,rfl,(E5 ..).symm,⟨rfl,rfl,rfl⟩,λj b=>af (iS b)⟩;have m:=GQ C.ti C.tn c rfl rfl rfl ⟨rfl,rfl⟩;have c:j7 (s.cB t ly d i x en a true) t=[dO E.T (ptr x) (su (s.bf t) (s.bl t).length) (s.l.tk t).x (s.l.tk t).e,fR ⟨(s.bf t).g,(s.bf t).o,none⟩ 1 (s.bf t).v (rK (s.bf t)) true,wF E.T s.k.A t (s.l.tk t).c (s.aS t)]:=by
   unfold j7 j9;rw[C.cp.hT.1];simp[LS.wait,LS.cB,LS.put,upd]
  have b:lf (s.cB t ly d i x en a true) s.l.wl=[]:=by unfold lf;simp[upd]
  rw[c,b,C.cp.hT.1]at m;have c:=((q.perm (fA (pM (s.cB t ly d i x en a true)) [dO E.T (ptr x) (su (s.bf t) (s.bl t).length) (s.l.tk t).x (s.l.tk t).e] _)).perm (List.Perm.cons _ (eY (l₁:=pM (s.cB t ly d i x en a true)))));have b:=(c.perm (List.Perm.swap _ _ _)).Es;refine b.perm ?_;have b:=((m.append_right (E.O p)).append_left (E.me I t::R)).append_left (pM (s.cB t ly d i x en a true));refine List.Perm.trans ?_ b.symm;exact j8 λf=>by simp_all;omega
def HX(W:jF E I Z t){p:γ}{s:PS}(C:Cn E I t p s w R)(A:s.l.al<1000000)(M:0<=s.l.now/\s.l.now<1000000000000)(M:0<=d/\d<=100000)(b:Bk)(N:Fin I.V Z m none ((s.l.wait t I.V.nl d false).tH s.l.wl b))(u:m<=E.pS p){c:aC}(K:∀h g J l,l<m->l<=E.pS h->Cn E I t h g J R->u0 I.V Z l t s.l.wl 1 g.l->(g.l.wt s.l.wl).l=(I.V.nl:Int)->(g.l.wt s.l.wl).b=b->(g.l.tk t).a=(s.l.tk t).a->(g.l.tk t).q=(s.l.tk t).q->E.Ψ h (G (c.finish (.tuple #[])) U) J):
 E.Ψ p (G (Frame.enter prog 149 #[ptr E.T,i6 d] .normal) (c::U)) w:=by
 have F:=W.f p;have o:=W.hB p;have c:=C.bd;have c:=C.sat;refine cJ func149 c 8 λc c c c a y c G w=>Rb F o a c G 3 [] 1 [] [(5,i6 d),(4,ptr E.T)] 3 1 [] λc c G c w w w=>ah F a c G 6 151 #[ptr E.T,i6 d] λc c=>?_;have w:=C.hk;refine uC (t:=t) (aS:=E.ch) (tc:=E.c) (ly:=I.V.nl) (cb:=false) F o G.sat (by rw[w];exact kT) C.pv C.qi (C.TJ.cons rfl) C.lqw ω (Nat.lt_of_le_of_lt C.qi.len A) ω ω λi x en e w G q O A A A=>c _ _ _ G λc c L c A=>GM F a c 7 152 #[ptr x] ρ ρ δ L λc n=>?_;have H:JL t s (s.O4 t I.V.nl d i x en e b false) I.V.nl d i x b false:=Vz;refine W.wait p s (s.O4 t I.V.nl d i x en e b false) (s.O4 t I.V.nl d i x en e b false) w i x I.V.nl d b false c _ R m C.cp C.ti (az _) (λz=>by cases z) H (.inl rfl) C.cp.JN ?_ {q with} {O with} (C.ti.cB C.tn (λz=>by cases z)).tH (C.lnw λz=>ω) (λk q m c=>by have:=C.row q m c;grind) (λj j c=>by have:=rG C.sat C.Ej j c;grind) C.fl C.eH ω N u λh g c l z r v B f1 f2 f3 f4 f5 f6=>?_
 .have D:=GQ C.ti C.tn H rfl rfl rfl ⟨rfl,rfl⟩;have j:j7 (s.O4 t I.V.nl d i x en e b false) t=j7 s t:=by
   unfold j7;have c:(s.O4 t I.V.nl d i x en e b false).l.tk t={s.l.tk t with w:=s.l.wl}:=by simp[LS.tH,LS.wait,LS.cB,LS.put,upd]
   rw[c];show[dO (s.T t) (j9 (upd s.wb s.l.wl x) (s.l.tk t).o) _ _ _,_,_]=_;rw[AM C.ti C.tn]
  have c:lf (s.O4 t I.V.nl d i x en e b false) s.l.wl=[]:=by unfold lf;simp[upd]
  rw[j,c,C.cp.hT.1]at D;have b:=(L.sat.perm (eY (l₁:=pM (s.cB t I.V.nl d i x en e false)))).Es;have c:=(jw s C.tn);refine b.perm ?_;have b:=((D.append_right (E.O p)).append_left (E.me I t::R)).append_left (pM (s.cB t I.V.nl d i x en e false));refine List.Perm.trans ?_ b.symm;have m:=(((c.append_right (E.O p)).append_left (E.me I t::R)).append_left (pM (s.cB t I.V.nl d i x en e false))).append_left [oR x 1 [i6 0] true,oR x 0 [ptr E.T] false];refine List.Perm.trans m ?_;exact j8 λf=>by simp_all;omega
 obtain rfl:z=1:=by
  rcases f1.2 with z|⟨k,b,b,_⟩
  .exact z.1
  omega
 refine n.ret _ _ _ _ _ B.sat λb b d b c=>?_;have c:=B.bd;replace F:=W.f h;replace o:=W.hB h;refine Rb F o a b d 1 [] 1 [] [] 6 1 [] λb d c b e e e=>cC F c a y b [] (.tuple #[]) ?_;exact K h g d l r v {B with sat:=c.sat,bd:=by omega} f1 f2 (f3 rfl) f4 f6
end
abbrev PS.yK(s:PS)(t:Nat)(n:Int):PS:={s with l:={s.l with us:=upd s.l.us t n}}
def JF(F:aB prog D (DX Ok) Ψ)(m:HB B Ok){s:PS}(i:Sat Ok w (pM s++C))(a:yF s.k C)(b:t<s.k.V.nc)(k:s.l.us t=n)(c:n<1000000)(c:B<=w.heap.size)(K:∀J,Sat Ok J (pM (s.yK t (n+1))++C)->w.heap.size<=J.heap.size->Ψ (G (cf.finish (.tuple #[i6 n,.agg (s9 (aU s.k.V t n)).toArray])) U) J):
 Ψ (G (Frame.enter prog 146 #[ptr (s.k.lb s.k.V.nl),i6 t] .normal) (cf::U)) w:=by
 replace i:=(i.get (a.Wk.app (pM s))).get ((a.OT.app (pM s)).cons);have E:IntKind.wrap .i64 ((n:Int)+1)=(n:Int)+1:=aA ω ω;by_cases l:n<s.k.V.nt t
 .let⟨_,x,c⟩:=a.xm t b ω;replace i:=i.get ((c.app (pM s)).cons.cons);refine cJ func146 i 43 λO R b N a h g B u=>aX (λM=>bR (b) [i6 0,i6 0,i6 0]::(M)) 1 F m a g B 26 [3,0,1,1,9,t,0,101,3,0,1,1,9,t,0,101] 26 [] [(22,i6 (IntKind.wrap .i64 (s.l.us t+1))),(19,i6 t),(18,.slice (some ⟨s.k.HD,0,none⟩) s.k.V.nc s.k.V.nc),(6,i6 (s.l.us t)),(5,ptr b),(0,ptr (s.k.lb s.k.V.nl)),(1,i6 t)] 26 1 [] [] [] [((↑t:Int),s.k.V.nc),((↑t:Int),s.k.V.nc)] [(2,(t,s.k.V.nc))] λQ I p d r w A=>?_;rw[k,E]at p;refine aX (λM=>bh 9 (t,0) (i6 ((↑n:Int)+1)) (M)) 1 F m a d p 25 [9,t,0,101,3,0,0,1,2,t,1,101] 106 [] [(7,.slice (s.k.dL t) (s.k.V.nt t) (s.k.eu t)),(6,i6 n),(5,ptr b)] 51 3 [] [] [(decide ((↑n:Int)<(↑(s.k.V.nt t):Int)),true)] [((↑t:Int),s.k.V.nc),((↑t:Int),s.k.V.nc)] [(2,(t,s.k.V.nc))] λP C o c q v y=>?_;rw[x]at o;refine aX (λM=>bh 0 (0,2) (i6 (s.k.V.tr t n).t) (bh 0 (0,1) (i6 (s.k.V.tr t n).n) (bh 0 (0,0) (i6 (s.k.V.tr t n).k) (M)))) 1 F m a c o 3 [1,n,0,103,0,0,0,3] 6 [6] [(4,i6 n),(5,ptr b)] 54 3 [6] [] [] [((↑n:Int),s.k.V.nt t)] [(3,(n,s.k.V.nt t))] λx H G x L L L=>cC F G a h x [0,0,0,3] (.tuple #[i6 n,.agg #[i6 (s.k.V.tr t n).k,i6 (s.k.V.tr t n).n,i6 (s.k.V.tr t n).t]]) ?_;have e:aU s.k.V t n=s.k.V.tr t n:=by unfold aU;rw[sJ l]
  rw[e]at K;exact K H (G.sat.tail.tail.tail.tail.re 5 rfl rfl _ λj _ f _=>fT (C:=λz=>[i6 z]) rfl aD j f) ω
 .refine cJ func146 i 43 λO R b N a h g B u=>aX (λM=>bR (b) [i6 0,i6 0,i6 0]::(M)) 1 F m a g B 26 [2,0,1,1,8,t,0,101,2,0,1,1,8,t,0,101] 26 [] [(22,i6 (IntKind.wrap .i64 (s.l.us t+1))),(19,i6 t),(18,.slice (some ⟨s.k.HD,0,none⟩) s.k.V.nc s.k.V.nc),(6,i6 (s.l.us t)),(5,ptr b),(0,ptr (s.k.lb s.k.V.nl)),(1,i6 t)] 26 1 [] [] [] [((↑t:Int),s.k.V.nc),((↑t:Int),s.k.V.nc)] [(2,(t,s.k.V.nc))] λQ I p d r w A=>?_;rw[k,E]at p;refine aX (λM=>bh 8 (t,0) (i6 ((↑n:Int)+1)) (bh 0 (0,0) (i6 1) (M))) 1 F m a d p 32 [8,t,0,101,2,0,0,1,1,t,1,101,0,0,0,3] 74 [] [(4,i6 n),(5,ptr b)] 58 2 [] [] [(decide ((↑n:Int)<(↑(s.k.V.nt t):Int)),false)] [((↑t:Int),s.k.V.nc),((↑t:Int),s.k.V.nc)] [(2,(t,s.k.V.nc))] λP C o c q v y=>cC F o a h c [0,0,0,3] (.tuple #[i6 n,.agg #[i6 1,i6 0,i6 0]]) ?_;have e:aU s.k.V t n=⟨1,0,0⟩:=by unfold aU;rw[af l]
  rw[e]at K;exact K C (o.sat.tail.tail.tail.re 5 rfl rfl _ λj _ f _=>fT (C:=λz=>[i6 z]) rfl aD j f) ω
def Ov(C:aW)(r:Value ⊕ Value)(b:Bk):Prop:=(b.k=1/\r=.inl (.tuple #[i6 b.n,.nilIface]))\/(b.k=2/\∃e,r=.inl (.tuple #[i6 0,e])/\Yu C e b.ch)\/(b.k=3/\r=.inr (.iface 182 (i6 b.n)))
def QI.dI{s:PS}(Q:QI s)(c a:Nat)(b:eX)(t:Nat)(num q n:Int):QI (s.dI c a b (s.l.say t num q n)):={Q with}
def TI.dI{s:PS}(Q:TI s)(c a:Nat)(b:eX)(t:Nat)(num q n:Int):TI (s.dI c a b (s.l.say t num q n)):={Q with}
def gY{a:aH}:(r::(A++(a::(R++O)))).Perm (A++(a::((r::R)++O))):=by
 have:=(eY (a:=r) (l₁:=A++[a]) (l₂:=R++O)).symm;simp_all
def Sat.fix{q:Nat}(h:Sat Ok w (bR q vs::M)):Sat Ok w (oR q 0 vs false::M):=
 h.G7 0 rfl (oR q 0 vs false) (λj a=>⟨a,ψ,rfl⟩) (λz=>by cases z) rfl
def Sat.cast{a:aW}(h:Sat Ok w M)(e:M=a):Sat Ok w a:=e▸h
def Cw{a:aH}:(X++(A++(a::(R++O)))).Perm (A++(a::((X++R)++O))):=by
 have:=fA X (A++[a]) (R++O);simp_all
def gM{a:aH}:(A++(a::((X++(Y++R))++O))).Perm (Y++(A++(a::((X++R)++O)))):=by
 have:=fA (A++(a::X)) Y (R++O);simp_all
def Sat.yg{q:Nat}(A:aW)(h:Sat Ok w (A++(bR q vs::M))):Sat Ok w (A++(oR q 0 vs false::M)):=
 (h.perm eY).fix.perm eY.symm
def Sat.ED{Z:aW}(h:Sat Ok w M)(a:∀r∈Z,Has M r):Sat Ok w Z:=h.dB λi r b=>by
 have:=a r (by rw[dF]at b;grind);exact⟨this.1,this.2⟩
def Has.in{a:aH}(h:Has R r):Has (A++(a::((X++R)++O))) r:=((h.app X).pre O).cons.app A
def bO:Flat M↔∀r∈M,r.row=none:=⟨λh r b=>by
 let⟨i,a⟩:=u9 b;exact h i r (by rw[dF];exact a),λh i r a=>h r (by rw[dF]at a;grind)⟩
def Flat.OC(h:Flat ((X++(Y++R))++O)):Flat ((X++R)++O):=by
 rw[bO]at h ⊢;grind
def AJ(A:aW){q:Nat}{b a:aH}(h:Sat Ok w (bR q vs::r::(A++(a::(b::R++O))))):Sat Ok w (A++(a::(([oR q 0 vs false]++R)++O))):=
 ((Sat.BC (A:=[oR q 0 vs false]) h.fix).perm (gY (A:=A))).sub (nN (List.Sublist.cons_cons _ (List.Sublist.cons_cons _ (List.sublist_cons_self _ _))) _)
def AK(A:aW){b a:aH}(h:Sat Ok w (A++(a::(b::R++O)))):Sat Ok w (A++(a::(R++O))):=
 h.sub (nN (List.Sublist.cons_cons _ (List.sublist_cons_self _ _)) _)
section
variable{E:TE γ}{Z:LS->Prop}
def CL(W:jF E I Z t){p:γ}{s:PS}(C:Cn E I t p s w R)(b:s.l.el<1000000){q n:Int}(d:Has R (tQ lb wi num I.J)){c:aC}(K:∀a J,Cn E I t p a J R->a.l=s.l.say t num q n->a.T=s.T->w.heap.size<=J.heap.size->E.Ψ p (G (c.finish (.tuple #[])) U) J):
 E.Ψ p (G (Frame.enter prog 148 #[ptr lb,ptr E.T,i6 q,i6 n] .normal) (c::U)) w:=by
 have a:=C.hk;refine Er (W.f p) (W.hB p) (t:=t) (aS:=E.ch) (wi:=wi) (num:=num) C.sat (by rw[a];exact(d.pre _).cons) (by rw[a,C.cp.hT.2.2];exact kT) C.pv.jr C.bd b λf a b J e c d=>K (s.dI f a b (s.l.say t num q n)) J ⟨e,{C.pv with jr:=c},C.qi.dI _ _ _ _ _ _ _,C.fl,C.eH,aT C.bd d,C.cp.gq ⟨rfl,rfl,rfl,rfl,rfl,rfl,rfl,rfl,rfl,λ_ _=>⟨_,rfl⟩,⟨rfl,rfl,rfl⟩,λ_ _=>⟨rfl,rfl⟩,⟨rfl,rfl,rfl⟩,λ_=>rfl⟩,C.ln,C.ti.dI _ _ _ _ _ _ _⟩ rfl rfl d
def iU(W:jF E I Z t){p:γ}{s:PS}(C:Cn E I t p s w R)(e:s.l.el<1000000){q n:Int}(f:Has R (tQ lb wi num I.J)){c:aC}(K:∀d J,Cn E I t p d J R->d.l=s.l.say t num q n->w.heap.size<=J.heap.size->E.Ψ p (G (c.finish (.tuple #[])) U) J):
 E.Ψ p (G (Frame.enter prog 148 #[ptr lb,ptr E.T,i6 q,i6 n] .normal) (c::U)) w:=CL W C e f λd J a b _ c=>K d J a b c
def ML(W:jF E I Z t){p:γ}{s:PS}(C:Cn E I t p s w R)(a:S<I.V.nc)(d:s.l.us S=n)(b:n<1000000){c:aC}(K:∀a J,Cn E I t p a J R->a.l={s.l with us:=upd s.l.us S (n+1)}->w.heap.size<=J.heap.size->E.Ψ p (G (c.finish (.tuple #[i6 n,.agg (s9 (aU I.V S n)).toArray])) U) J):
 E.Ψ p (G (Frame.enter prog 146 #[ptr (I.lb I.V.nl),i6 S] .normal) (c::U)) w:=by
 have a:=C.hk;refine a▸JF (W.f p) (W.hB p) (t:=S) (n:=n) C.sat (by rw[a];exact yF.cons (C.eH.up λ_ x=>x.pre _)) ξ d b C.bd λJ c b=>?_;rw[a];exact K (s.yK S (n+1)) J ⟨c,{C.pv with},{C.qi with},C.fl,C.eH,aT C.bd b,C.cp.gq ⟨rfl,rfl,rfl,rfl,rfl,rfl,rfl,rfl,rfl,λ_ _=>⟨_,rfl⟩,⟨rfl,rfl,rfl⟩,λ_ _=>⟨rfl,rfl⟩,⟨rfl,rfl,rfl⟩,λ_=>rfl⟩,C.ln,{C.ti with}⟩ rfl b
def Cn.OT{p:γ}{s:PS}(C:Cn E I t p s w R):∃S:Nat,(s.l.tk t).c=S/\E.c=S/\S<I.V.nc:=by
 let⟨c,a,b,_⟩:=C.ti.cl t C.tn;exact⟨c,a,by rw[<-C.cp.hT.2.2];exact a,by rw[<-C.hk];exact b⟩
end
def kG{p:Nat}(a:aH)(h:nth M p=some r):nth (cG M p a) p=some a:=by rw[dX];simp[h]
def jM:∀(M:aW)(p:Nat)(a b:aH),cG (cG M p a) p b=cG M p b
 |[],_,_,_=>by simp[cG]
 |_::_,0,_,_=>by simp[cG]
 |_::M,p+1,a,b=>by simp only[cG];rw[jM M p a b]
def fU{α:Type}(f:Nat->α)(k:Nat):upd f k (f k)=f:=by funext j;unfold upd;split<;>simp_all
def LS.pU(y:ju)(t j:Nat)(L:LS):LS:=
 if((L.gt j).st=0/\y.b<=(L.gt j).la.length\/(L.gt j).st=2/\((L.gt j).la.length:Int)=y.e)/\over y (L.gt j).la=true then(L.aO j ((L.gt j).turn L.now 1)).say t j 9 0
 else if(L.gt j).st=2/\((L.gt j).la.length:Int)=y.e then(L.aO j ((L.gt j).turn L.now 0)).say t j 11 0 else L
def uS{L:iy}(h:i<L.length):dY (L.take (i+1))=dY (L.take i)+(if L.getD i false=true then 1 else 0):=by
 unfold dY;rw[List.take_add_one,mZ h,ni,mZ h];cases a:L[i]<;>simp
def Yy(L:iy):dY L<=L.length:=List.length_filter_le _ _
def pW{L:LS}(c:(L.tk t).q k=(L.gt k).pd)(d:¬(bq b=3\/bq b=5)):L.count y t k b=(L.aO k {L.gt k with la:=(L.gt k).keep y (decide (b.k≠1))}).pU y t k:=by
 have e:∀g:Gt,(L.aO k g).gt k=g:=λg=>by simp[LS.aO,upd]
 have b:∀g a:Gt,(L.aO k g).aO k a=L.aO k a:=λg a=>by
  unfold LS.aO;congr 1;funext j;unfold upd;by_cases h:j=k<;>simp[h]
 unfold LS.count LS.pU;rw[af (by rw[c];simp),af d];simp only[e,b];rfl
def fu.app(H:fu C h L)(A:aW):fu (A++C) h L:=by
 rcases H with H|⟨c,cap,i,b,a⟩
 .exact .inl H
 .exact .inr ⟨c,cap,A.length+i,b,by rw[j4,af ω,D4];exact a⟩
def gO(h:nth M i=some r):r∈M:=by rw[dF]at h;grind
def lP(h:r∈M):∃i,nth M i=some r:=by
 let⟨i,a⟩:=u9 h;exact⟨i,by rw[dF];exact a⟩
def Sat.kp{C:List Addr}(h:Sat Ok w M)(k:Kp [] w J C)(d:∀r∈M,∀j,r.has j->r.ad j∉C)(f:∀r∈M,∀g e n,r.row=some (g,e,n)->∀x∈C,x.block≠g):Sat Ok J M:=by
 refine⟨λi r a j b=>?_,λi r a j b=>?_,h.sep,λi r a g e n c=>?_⟩
 .exact k.cellC _ _ ψ (d r (gO a) j b) (h.val i r a j b)
 .have:=h.ok i r a j b;exact⟨this.1,λz=>⟨(this.2 z).1,(k.Q6 _ _ ψ (d r (gO a) j b) (h.val i r a j b)).trans (this.2 z).2⟩⟩
 .let⟨m,l,b,j,d⟩:=h.row i r a g e n c;exact⟨m,l,b,k.blk g b e (0,0) ψ (f r (gO a) g e n c) j,d⟩
def Sat.PZ(h:Sat Ok w M)(k:Kp [] w J []):Sat Ok J M:=h.kp k (λ_ _ _ _=>ψ) (λ_ _ _ _ _ _ x a=>by cases a)
def Sat.OB(h:Sat Ok w M)(d:∀r∈M,∀j,r.has j->Ok (r.ad j) false->Wy (r.ad j) false)(c:∀r∈M,r.wr=true->∀j,r.has j->Ok (r.ad j) true->Wy (r.ad j) true):Sat Wy w M:=by
 refine⟨h.val,λi r b j a=>?_,h.sep,h.row⟩;have:=h.ok i r b j a;exact⟨d r (gO b) j a this.1,λz=>⟨c r (gO b) z j a (this.2 z).1,(this.2 z).2⟩⟩
def Sat.dj(h:Sat Ok w M){a:aH}(d:r∈M)(b:a∈M)(g:r.wr=true)(c:a.wr=false){j j':Ix}(k:r.has j)(c:a.has j'):r.ad j≠a.ad j':=λe=>by
 let⟨i,l⟩:=lP d;let⟨f,d⟩:=lP b;obtain⟨rfl,_⟩:=h.sep i r f a l d g j j' k c e;simp_all
def Sat.blk(h:Sat Ok w M)(a:r∈M){j:Ix}(b:r.has j):(r.ad j).block<w.heap.size:=au ((h.mem a).val j b)
def l9{s:PS}{b i0:Nat}{j0:Ix}(h:Sat Ok w (pM s++C))(P:PV Ok s es)(m:Flat C)(j:nth (pM s++C) i0=some r0)(o:i0≠1)(o:i0≠3)(i:r0.has j0)(l:r0.ad j0=⟨b,0,none⟩):
 ∀r∈pM s++C,∀g e n,r.row=some (g,e,n)->b≠g:=by
 intro r c g e n a f;subst f;rcases dJ.1 c with c|c
 .simp only[pM,ak,bH,or_false]at c;rcases c with rfl|rfl|rfl|rfl|rfl|rfl|rfl
  .cases a
  .let⟨d,k,_⟩:=h.row 1 _ rfl b e n a;have:=(h.sep 1 _ i0 r0 rfl j rfl (0,0) j0 d i ξ).1;omega
  .cases a
  .let⟨d,k,_⟩:=h.row 3 _ rfl b e n a;have e:s.ea=some ⟨b,0,none⟩:=by
    rcases P.jr.row with ⟨z,_⟩|⟨g,b,_⟩
    .simp_all
    simp_all
   have:=(h.sep 3 _ i0 r0 rfl j rfl (0,0) j0 d i (by
    rw[l];show((s.ea.getD ⟨0,0,none⟩).add (0*5)).add 0=_;rw[e];rfl)).1
   omega
  .cases a
  .cases a
  .cases a
 .rw[bO.1 m r c]at a;cases a
def fu.pre(x:fu C h L)(A:aW):fu (C++A) h L:=by
 rcases x with x|⟨c,cap,i,b,a⟩
 .exact .inl x
 .exact .inr ⟨c,cap,i,b,by rw[j4,sJ (qH _ _ _ a)];exact a⟩
def nq{b:Nat}(h:∀j,j<vs.length->w.cell? ⟨b,o+j,none⟩=some (vs.getD j undef))(d:∀j,j<vs.length->Ok ⟨b,o+j,none⟩ false):xE Ok w (oR b o vs false):=by
 refine⟨λj a=>?_,λj a=>⟨d j.2 a.2,λz=>(by cases z)⟩,λz=>(by cases z),λg e n z=>(by cases z)⟩;have c:j.2<vs.length:=a.2;have:=h j.2 c;cases vs with
 |nil=>cases c
 |cons z a=>exact this
def qB{b:Nat}(h:∀j,j<vs.length->w.cell? ⟨b,o+j,none⟩=some (vs.getD j undef)/\w.frozen? ⟨b,o+j,none⟩=false)(i:∀j,j<vs.length->Ok ⟨b,o+j,none⟩ false/\Ok ⟨b,o+j,none⟩ true):xE Ok w (oR b o vs true):=by
 refine⟨λj a=>?_,λj a=>⟨(i j.2 a.2).1,λz=>⟨(i j.2 a.2).2,(h j.2 a.2).2⟩⟩,λ_ j f a d e=>?_,λg e n z=>(by cases z)⟩
 .have c:j.2<vs.length:=a.2;have:=(h j.2 c).1;cases vs with
  |nil=>cases c
  |cons z b=>exact this
 .have b:o+j.2=o+f.2:=cT Addr.off e;have b:j.1<1:=a.1;have c:f.1<1:=d.1;grind
def AA(F:aB prog D (DX Ok) Ψ)(hB:HB B Ok){s:PS}{ff cl bl bo bi:Nat}{at':Int}(I:Sat Ok w (pM s++(oR s.k.A 2 [i6 k] true::C)))(H:PV Ok s es)(hC:Flat C)(Q:B<=w.heap.size)(hq:es.length<1000000)(Tt:k<1000000)(K:∀O N aS T bt en B i J,i<=es.length->iM es at' i->Sat Ok J (pM {s with en:=en,eb:=B}++(oR s.k.A 2 [i6 ((k:Int)+1)] true::oR T 0 [ptr s.k.A,i6 k,i6 cl,.chan (some aS)] false::dO T (.pointer none) (.slice none 0 0) false false::oR O 0 [ptr s.k.A] false::oR N 0 [.func (.func ff) #[] #[ptr bl,ptr bo,ptr bi]] false::oR bt 0 [ptr T] false::C))->
 PV Ok {s with en:=en,eb:=B} (es.take i++(at',.func (.func 48) #[] #[ptr O,ptr bt,ptr N])::es.drop i)->gw J aS->w.heap.size<=aS/\w.heap.size<=T/\T<J.heap.size/\T≠aS->w.heap.size<=J.heap.size->Kp (cw s.en) w J [⟨s.k.A,1,none⟩,⟨s.k.A,2,none⟩]->Ψ (G (cf.finish (ptr T)) U) J):
 Ψ (G (Frame.enter prog 29 #[ptr s.k.A,i6 cl,i6 at',.func (.func ff) #[] #[ptr bl,ptr bo,ptr bi]] .normal) (cf::U)) w:=by
 have G:=I.ok 0 _ rfl (0,1) ⟨aD,gr 1⟩;have Y:=I.val 0 _ rfl (0,1) ⟨aD,gr 1⟩;have Q:nth (pM s++(oR s.k.A 2 [i6 k] true::C)) 7=some (oR s.k.A 2 [i6 k] true):=rfl;have OR:=I.val 7 _ Q (0,0) ⟨aD,aD⟩;have B:=I.ok 7 _ Q (0,0) ⟨aD,aD⟩;have X:=au Y;have he:fZ (s.k.A+1) w s.en es:=Mp (i:=1) I rfl H.en λz=>(H.eo z).1;have R:∀g,g∈cw s.en->s.eb.c=1/\g=s.eb.E:=λg M=>by
  rcases H.en.2 with ⟨Q,z2,z3⟩|⟨o,c,Q,z2,_⟩
  .rw[Q,bS]at M;simp[Value.ownBlock]at M
  .rw[Q,bS]at M;simp[Value.ownBlock]at M;omega
 refine GS ff (s.k.A+1) s.k.A bl bo bi cl k at' s.en es w (by exact X) (gr _) he hq Tt Y OR (G.2 rfl).2 (B.2 rfl).2 G.1 (G.2 rfl).1 B.1 (B.2 rfl).1 (λa wr h=>?_) Ψ F cf U λv J F=>?_
 .rcases h with h|h
  .let⟨Q,z2⟩:=R _ h;exact(H.eo Q).2 a wr z2
  .exact hB a wr ω
 obtain⟨O,N,aS,T,bt,P,A,i,rfl,hk,⟨B,B,B,B,B,B,B,B,B,B,B,B⟩,OO,TA,TB,u,mQ,c1,c2,d1,d2,S,UT,c3,c4⟩:=F;have B:(es.take i++(at',Value.func (.func 48) #[] #[ptr O,ptr bt,ptr N])::es.drop i).length=es.length+1:=θ
 have B:=l9 (b:=s.k.A) I H (hC.cons rfl) (i0:=0) (j0:=(0,0)) rfl δ δ ⟨aD,(by decide:0<2)⟩ rfl;have W:Sat Ok w (bR s.k.A [i6 s.l.now,s.en]::eR s.eb::((pM s).tail.tail++C)):=I.BC (A:=pM s);have Z:∀r∈bR s.k.A [i6 s.l.now,s.en]::eR s.eb::((pM s).tail.tail++C),Dj (oR s.k.A 2 [i6 k] true) r:=by
  have:=I.perm (eY (a:=oR s.k.A 2 [i6 k] true) (l₁:=pM s) (l₂:=C));exact(iG.1 (sat_iff.1 this).2).1
 have F:∀v:Value,(oR s.k.A 2 [v] true).has (0,0):=λv=>⟨aD,aD⟩
 let⟨m,q1,q2,v,q4,q5⟩:=Sat.K6 (C':=[⟨s.k.A,2,none⟩]) W H.en (λz=>(H.eo z).1) (λa wr z=>hB a wr ω) (λz=>(H.eo z).2) (λa a=>χ) (λi r S j d z=>by
  simp only[ak,bH,or_false]at z;exact Z r (aP _ (aP _ (gO S))) (.inl rfl) (0,0) j (F _) d z.symm) hk c1 c2 c3 (λg M=>(c4 g M).imp id λz=>ω) χ (λi r g e n S M=>λz=>B r (by
  have:=gO S;rcases dJ.1 this with z|z
  .exact gU _ (aP _ (aP _ z))
  grind) g e n M z.symm)
 have a:(m.E<w.heap.size\/P<=m.E):=by
  rcases q2.2 with ⟨_,_,z⟩|⟨o,c,z,_⟩
  .omega
  .rcases c4 m.E (by rw[z,bS];rfl)with y|y
   .let⟨a,c⟩:=R _ y;let⟨cu,c,_⟩:=uw I (i:=1) rfl a;grind
   omega
 have a:s.k.A<w.heap.size:=X;have l:∀(b o:Nat)(vs:iO)(wr:Bool),w.heap.size<=b->b<P->∀r∈bR s.k.A [i6 s.l.now,A]::eR m::((pM s).tail.tail++C),Dj (oR b o vs wr) r:=λb o vs wr h1 h2 r f _ j L d x e=>by
  have e1:b=(r.ad L).block:=cT Addr.block e;rcases ak.1 f with rfl|f
  .grind
  .rcases ak.1 f with rfl|f
   .grind
   .have:=W.blk (aP _ (aP _ f)) x;omega
 have a:∀r∈bR s.k.A [i6 s.l.now,A]::eR m::((pM s).tail.tail++C),Dj (oR s.k.A 2 [i6 ((k:Int)+1)] true) r:=λr f hw j L d x e=>by
  rcases ak.1 f with rfl|f
  .have e1:2+j.2=L.2:=cT Addr.off e;have:L.2<2:=x.2;omega
  .rcases ak.1 f with rfl|f
   .grind
   .exact Z r (aP _ (aP _ f)) (.inl rfl) j L d x e
 have t:∀(r E:aH),r.wr=false->E.wr=false->Dj r E:=λr E h1 h2 hw=>by
  grind
 have p:∀(b g o n:Nat)(vs c:iO)(wr a:Bool),b≠g->Dj (oR b o vs wr) (oR g n c a):=λb g o n vs c wr a a _ j L _ _ e=>a (cT Addr.block e);have q:∀(b o:Nat)(wr:Bool),w.heap.size<=b->Ok ⟨b,o,none⟩ wr:=λb o wr h=>hB _ _ χ;refine K O N aS T bt A m i J S UT ?_ {H with en:=q2,eo:=λ_=>⟨q4,q5⟩} mQ ⟨ω,ω,ω,ω⟩ hk.size hk;have V:Sat Ok J ([oR s.k.A 2 [i6 ((k:Int)+1)] true,oR T 0 [ptr s.k.A,i6 k,i6 cl,.chan (some aS)] false,dO T (.pointer none) (.slice none 0 0) false false,oR O 0 [ptr s.k.A] false,oR N 0 [.func (.func ff) #[] #[ptr bl,ptr bo,ptr bi]] false,oR bt 0 [ptr T] false]++(bR s.k.A [i6 s.l.now,A]::eR m::((pM s).tail.tail++C))):=by
  have a:=sat_iff.1 q1;rw[sat_iff];refine⟨λr f=>?_,YS.2 ⟨?_,a.2,λr f E a=>?_⟩⟩
  .rcases dJ.1 f with f|f
   .simp only[ak,bH,or_false]at f;rcases f with rfl|rfl|rfl|rfl|rfl|rfl
    .refine qB (λj d=>?_) (λj d=>?_)
     .have:j=0:=uj.1 d;subst this;exact⟨d1,d2⟩
     .have:j=0:=uj.1 d;subst this;grind
    .refine nq (λj d=>?_) (λj d=>q _ _ _ ω);match j,d with
     |0,_=>exact u.t0
     |1,_=>exact u.t1
     |2,_=>exact u.t2
     |3,_=>exact u.t3
    .refine qB (λj d=>?_) (λj d=>⟨q _ _ _ ω,q _ _ _ ω⟩);match j,d with
     |0,_=>exact⟨u.t4,u.z4⟩
     |1,_=>exact⟨u.t5,u.z5⟩
     |2,_=>exact⟨u.t6,u.z6⟩
     |3,_=>exact⟨u.t7,u.z7⟩
    .exact nq (λj d=>by have:j=0:=uj.1 d
                        subst this;exact OO) (λj d=>q _ _ _ ω)
    .exact nq (λj d=>by have:j=0:=uj.1 d
                        subst this;exact TA) (λj d=>q _ _ _ ω)
    .exact nq (λj d=>by have:j=0:=uj.1 d
                        subst this;exact TB) (λj d=>q _ _ _ ω)
   grind
  .simp only[iG,ak,bH,or_false,forall_eq_or_imp,forall_eq,false_implies,implies_true,and_true,List.Pairwise.nil];refine⟨⟨p _ _ _ _ _ _ _ _ ω,p _ _ _ _ _ _ _ _ ω,p _ _ _ _ _ _ _ _ ω,p _ _ _ _ _ _ _ _ ω,p _ _ _ _ _ _ _ _ ω⟩,⟨?_,t _ _ rfl rfl,t _ _ rfl rfl,t _ _ rfl rfl⟩,⟨p _ _ _ _ _ _ _ _ ω,p _ _ _ _ _ _ _ _ ω,p _ _ _ _ _ _ _ _ ω⟩,⟨t _ _ rfl rfl,t _ _ rfl rfl⟩,t _ _ rfl rfl⟩;intro _ j L d x e;have e1:0+j.2=4+L.2:=cT Addr.off e;have:j.2<4:=d.2;omega
  .simp only[ak,bH,or_false]at f;rcases f with rfl|rfl|rfl|rfl|rfl|rfl
   .grind
   .exact l _ _ _ _ ω ω E ω
   .exact l _ _ _ _ ω ω E ω
   .exact l _ _ _ _ ω ω E ω
   .exact l _ _ _ _ ω ω E ω
   .exact l _ _ _ _ ω ω E ω
 exact V.perm (fA _ (pM {s with en:=A,eb:=m}) C)
def iq(V:Ev0)(j:Nat):Nat:=if j=V.nl then 145 else if(V.ly j).k=1 then 155 else if(V.ly j).k=3 then 166 else if(V.ly j).k=4 then 168 else if(V.ly j).k=5 then 177 else if(V.ly j).k=6 then 183 else 164
def dV{γ:Type}(E:TE γ)(I:PK)(Z:LS->Prop)(t j:Nat):Prop:=∀(m:Nat)(p:γ)(s:PS)(w:aj)(R:aW)(c:aC)(U:cO),Cn E I t p s w R->Fin I.V Z m (some (t,j,none)) s.l->m<=E.pS p->
 (∀m' p' s' J X r b,m'<m->m'<=E.pS p'->Cn E I t p' s' J (X++R)->Fin I.V Z m' (some (t,j,some b)) s'.l->Ov X r b->(∀i,i<j->(s'.l.tk t).a i=(s.l.tk t).a i)->(∀i,i<j->(s'.l.tk t).q i=(s.l.tk t).q i)->E.Ψ p' (G (ends c r) U) J)->
 E.Ψ p (G (Frame.enter prog (iq I.V j) #[ptr (I.lb j),ptr E.T] .normal) (c::U)) w
def CR{Z:LS->Prop}{L:LS}(h:Fin V Z m (some (t,V.nl,none)) L)(b:(L.tk t).c=S)(c:L.us S=n):∃b,m=b+1/\qm V t L/\
 ((aU V S n).t=0->Fin V Z b (some (t,V.nl,some (cN (aU V S n)))) ((({L with us:=upd L.us S (n+1)}:LS).say t (-1) 1 n).say t (-1) 2 n))/\
 ((aU V S n).t≠0->Fin V Z b none (((({L with us:=upd L.us S (n+1)}:LS).say t (-1) 1 n).wait t V.nl (aU V S n).t false).tH L.wl ⟨(cN (aU V S n)).k,(cN (aU V S n)).n,⟨0,0,n⟩::(cN (aU V S n)).ch⟩)):=by
 cases m with
 |zero=>exact h.elim
 |succ m=>
  let⟨b,_,_,d,a⟩:=h;have d:(L.tk t).c.toNat=S:=ω
  refine⟨m,rfl,b,λb=>?_,λb=>?_⟩
  .simp only[LS.step,if_true,d,c,mY,b]at a;exact a
  .simp only[LS.step,if_true,d,c,mY,b,if_false]at a;exact a
def AL{Z:LS->Prop}{a:Option Bk}{L:LS}(h:Fin V Z m (some (t,j,a)) L):(L.tk t).p<=j:=by
 cases m with
 |zero=>exact h.elim
 |succ m=>exact h.2.2.1
def Cn.pp{E:TE γ}{Z:LS->Prop}{p b:γ}{s a:PS}{c:aW}(d:Cn E I t b a J c)(W:jF E I Z t)(C:Cn E I t p s w R)(h:(s.l.tk t).p<=j):(a.l.tk t).p<=j:=by
 rw[(d.cp.mo.tk t W.it).2.2,<-(C.cp.mo.tk t W.it).2.2];exact h
def Eo(b:wM V)(a:t<V.nc)(n:Nat):(1<=(aU V t n).k/\(aU V t n).k<=4)/\(0<=(aU V t n).t/\(aU V t n).t<=1000):=by
 unfold aU;split
 .rename_i h;exact b.tr t a n h
 simp
section
variable{E:TE γ}{Z:LS->Prop}
def yC(W:jF E I Z t){p:γ}{s:PS}{c:aC}{x:Lm}{u:Nat}(C:Cn E I t p s w (bR u (s9 x)::R))(d:yF I R)(e:s.l.el<1000000)(f:1<=x.k/\x.k<=4){b:aC}(v:O0 b 145)(f:a.defers=[])(g:w.heap.size=B)(h:St (E.Ok p) B 63 [(32,i6 n),(31,ptr E.T),(30,ptr (I.lb I.V.nl)),(7,ptr u),(0,ptr (I.lb I.V.nl))] (pM s++(E.me I t::(bR u (s9 x)::R++E.P p s))) 0 a w)(K:∀g J X r,Cn E I t p g J (X++R)->g.l=s.l.say t (-1) 2 n->Ov X r (cN x)->E.Ψ p (G (ends c r) U) J):
 E.Ψ p (G (b.at a (pc prog 145 43 [false] [])) (c::U)) w:=by
 have F:=W.f p;have r:=W.hB p;have b:=v.k;have o:=v.f;refine ah F b f h 33 148 #[ptr (I.lb I.V.nl),ptr E.T,i6 2,i6 n] λa c=>iU W {C with sat:=h.sat} e C.eH.OV λh a a s e=>c _ _ _ a.sat λc e j i c=>?_;have c:=a.bd;have q:Flat (R++E.O p):=a.fl.tail;have f:x.k=1\/x.k=2\/x.k=3\/x.k=4:=ω
 rcases f with f|f|f|f
 .refine TP F r b i j 35 [8,0,0,2] 64 [] [(5,.nilIface),(4,i6 x.n)] 79 16 [] [] [(x.k==4,false),(x.k==3,false),(x.k==2,false)] [] [] λp k g c l m n=>cC F g b o c [] (.tuple #[i6 x.n,.nilIface]) ?_;exact K h k [] (.inl (.tuple #[i6 x.n,.nilIface])) ⟨AK (pM h) g.sat,a.pv,a.qi,q,d,ω,a.cp,a.ln,a.ti⟩ s (.inl (by unfold cN;simp[f]))
 .replace j:=j.get ((((d.OV.pre _).cons).cons).app (pM h));refine aX (λM=>bR (e) [i6 1,i6 (-1),i6 x.n,.nilIface]::(M)) 1 F r b i j 19 [9,0,0,2,0,0,1,1] 6 [8] [(5,.iface 184 (ptr e)),(4,i6 0)] 63 6 [8] [] [(x.k==2,true)] [] [] λp k g c l m n=>cC F g b o c [] (.tuple #[i6 0,.iface 184 (ptr e)]) ?_;exact K h k [oR e 0 [i6 1,i6 (-1),i6 x.n,.nilIface] false] (.inl (.tuple #[i6 0,.iface 184 (ptr e)])) ⟨AJ (pM h) g.sat,a.pv,a.qi,q.cons rfl,d.cons,ω,a.cp,a.ln,a.ti⟩ s (.inr (.inl ⟨by unfold cN c9;simp[f],_,rfl,by unfold cN c9;simp[f];exact⟨e,.nilIface,rfl,⟨rfl,0,rfl⟩,rfl⟩⟩))
 .replace j:=j.get ((((d.OV.pre _).cons).cons).app (pM h));refine aX (λM=>bR (e) [i6 2,i6 (-1),i6 x.n,.nilIface]::(M)) 1 F r b i j 25 [9,0,0,2,0,0,1,1] 24 [8] [(5,.iface 184 (ptr e)),(4,i6 0)] 69 12 [8] [] [(x.k==3,true),(x.k==2,false)] [] [] λp k g c l m n=>cC F g b o c [] (.tuple #[i6 0,.iface 184 (ptr e)]) ?_;exact K h k [oR e 0 [i6 2,i6 (-1),i6 x.n,.nilIface] false] (.inl (.tuple #[i6 0,.iface 184 (ptr e)])) ⟨AJ (pM h) g.sat,a.pv,a.qi,q.cons rfl,d.cons,ω,a.cp,a.ln,a.ti⟩ s (.inr (.inl ⟨by unfold cN c9;simp[f],_,rfl,by unfold cN c9;simp[f];exact⟨e,.nilIface,rfl,⟨rfl,0,rfl⟩,rfl⟩⟩))
 .refine TP F r b i j 30 [8,0,0,2] 96 [] [(60,.iface 182 (i6 x.n)),(7,ptr u)] 74 24 [] [] [(x.k==4,true),(x.k==3,false),(x.k==2,false)] [] [] λp k g c l m n=>ZK F v 182 (i6 x.n) ρ f145 func145 c g ?_;exact K h k [] (.inr (.iface 182 (i6 x.n))) ⟨AK (pM h) g.sat,a.pv,a.qi,q,d,ω,a.cp,a.ln,a.ti⟩ s (.inr (.inr (by unfold cN;simp[f])))
def Oi(W:jF E I Z t):dV E I Z t I.V.nl:=by
 intro m p s w R c U C N c K;rw[show iq I.V I.V.nl=145 by unfold iq;simp];have F:=W.f p;have h:=W.hB p;have c:=C.bd;have Q:=C.sat.get (kT.app (pM s));let⟨S,O,c,f⟩:=C.OT;obtain⟨n,q⟩:∃n:Nat,s.l.us S=n:=⟨(s.l.us S).toNat,by
  cases m with
  |zero=>exact N.elim
  |succ m=>have:=N.1.us S f;omega⟩
 obtain⟨G,rfl,A,L,J⟩:=CR N O q;have Q:Sat (E.Ok p) w (wF E.T I.A t S E.ch::(pM s++(E.me I t::(R++E.P p s)))):=χ
 refine cJ func145 Q 63 λc c c P a c c w m=>Rb F h a c w 23 [0,0,2,1] 1 [] [(11,i6 S),(9,ptr (I.lb I.V.nl)),(0,ptr (I.lb I.V.nl)),(1,ptr E.T)] 10 1 [] λc c m c w w w=>ah F a c m 12 146 #[ptr (I.lb I.V.nl),i6 S] λc c=>ML W {C with sat:=m.sat.tail,bd:=by omega} f q (by have:=A.us S f;omega) λs2 m g T m=>c _ _ _ g.sat λc j q c m=>aq (λM=>bR (j) [i6 (aU I.V S n).k,i6 (aU I.V S n).n,i6 (aU I.V S n).t]::(M)) 1 F h a c q 14 [0,0,0,3] 1 [] [(19,i6 n),(18,ptr E.T),(17,ptr (I.lb I.V.nl)),(6,i6 n),(7,ptr j),(0,ptr (I.lb I.V.nl)),(1,ptr E.T)] 25 1 [] λc w3 Y c m m m=>ah F a c Y 20 148 #[ptr (I.lb I.V.nl),ptr E.T,i6 1,i6 n] λc v=>?_;have l:=Eo W.V f n;generalize aU I.V S n=x at*;have C3:Cn E I t p s2 w3 (bR j (s9 x)::R):=⟨Y.sat.perm gY,g.pv,g.qi,g.fl.cons rfl,g.eH.cons,ω,g.cp,g.ln,g.ti⟩;refine iU W C3 (by rw[T];exact A.el) C3.eH.OV λD c B e c=>v _ _ _ B.sat λc c V u c=>?_;have c:=B.bd;rw[T]at e;by_cases o:x.t=0
 .have b:=L o;rw[<-e]at b;have H:qm I.V t (D.l.say t (-1) 2 n):=by
   cases G with
   |zero=>exact b.elim
   |succ G=>exact b.1
  have c:D.l.el+1<1000000:=H.el;refine TP F h a u V 17 [8,0,2,1] 4 [] [(32,i6 n),(31,ptr E.T),(30,ptr (I.lb I.V.nl)),(7,ptr j),(0,ptr (I.lb I.V.nl))] 43 2 [] [] [(decide (x.t>0),false)] [] [] λO N m c g v H=>yC W {B with sat:=m.sat,bd:=by omega} C.eH ω l.1 P c g m λf L X r q M w=>K G p f L X r (cN x) ω ω q ξ w (λi p=>by rw[M,e];rfl) (λi p=>by rw[M,e];rfl)
 .have G:0<x.t:=ω
  have b:=J o;have o:D.l.wl=s.l.wl:=by rw[e];rfl
  rw[<-e,<-o]at b;refine TP F h a u V 13 [8,0,2,1,8,0,2,1] 6 [] [(26,i6 x.t),(24,ptr E.T),(6,i6 n),(7,ptr j),(0,ptr (I.lb I.V.nl)),(1,ptr E.T)] 39 3 [] [] [(decide (x.t>0),true)] [] [] λO N m c g v H=>GM F a c 27 149 #[ptr E.T,i6 x.t] ρ ρ δ m λc c=>HX W {B with sat:=m.sat,bd:=by omega} (by rw[e];exact A.al) (by rw[e];exact A.now) ⟨ω,ω⟩ _ b ω λg f L s m m q f1 f2 f3 f4 f6=>c.ret _ _ _ _ _ q.sat λc c v o c=>?_;have c:=q.bd;replace F:=W.f g;replace h:=W.hB g;let⟨c,m⟩:=f1;have u:Fin I.V Z s (some (t,I.V.nl,some (cN x))) (f.l.say t (-1) 2 n):=by
   rcases m with ⟨_,_,y,ch,z,d⟩|⟨k,k,k,_⟩
   .rw[f3]at z d;simp only[List.cons.injEq]at z;rw[<-z.1,<-z.2]at d;exact d
   omega
  refine Rb F h a o v 8 [] 1 [] [(32,i6 n),(31,ptr E.T),(30,ptr (I.lb I.V.nl)),(7,ptr j),(0,ptr (I.lb I.V.nl))] 48 3 [] λa a k j a m m=>?_;rw[show pc prog 145 48 (Bo 3) []=pc prog 145 43 [false] [] by kernel_rfl];refine yC W {q with sat:=k.sat,bd:=by omega} C.eH c.el l.1 P j a k λj c X r k a w=>K s g j c X r (cN x) ω ω k ξ w (λi p=>by
   rw[a];show(f.l.tk t).a i=_;rw[f4,e];rfl) (λi p=>by
   rw[a];show(f.l.tk t).q i=_;rw[f6,e];rfl)
end
def CW{Z:LS->Prop}{L:LS}(a:j<V.nl)(b:(V.ly j).k=2)(h:Fin V Z m (some (t,j,none)) L):∃a,m=a+1/\Fin V Z a (some (t,j+1,none)) L:=by
 cases m with
 |zero=>exact h.elim
 |succ m=>
  let⟨_,_,_,a,c⟩:=h;have e:(j=V.nl)=False:=θ
  simp only[LS.step,e,if_false,b,af (show¬(2:Int)=1 by decide),af (show¬(2:Int)=3 by decide),af (show¬(2:Int)=4 by decide)]at c;simp_all
def yh{Z:LS->Prop}{L:LS}(d:(V.ly j).k=2)(c:(L.tk t).p<=j)(h:Fin V Z m (some (t,j+1,some b)) L):∃c,m=c+1/\qm V t L/\G5 b/\(b.k=3->Fin V Z c (some (t,j,some (c9 6 j b.n))) (L.say t j 5 b.n))/\(b.k≠3->Fin V Z c (some (t,j,some b)) L):=by
 cases m with
 |zero=>exact h.elim
 |succ m=>
  let⟨f,_,_,c,a⟩:=h;have e:(j+1=(L.tk t).p)=False:=θ
  refine⟨m,rfl,f,(c b rfl).1,λb=>?_,λb=>?_⟩
  .simp only[LS.step,e,if_false,eM,d,af (show¬(2:Int)=1 by decide),af (show¬(2:Int)=4 by decide),af (show¬(2:Int)=5 by decide),b,and_self,if_true]at a;exact a
  .simp only[LS.step,e,if_false,eM,d,af (show¬(2:Int)=1 by decide),af (show¬(2:Int)=4 by decide),af (show¬(2:Int)=5 by decide),b,and_false,if_false]at a;exact a
def xT(k:PK)(j:Nat):∃a,Dv k j=.iface a (ptr (k.lb j))/\((a=154/\iq k.V j=145)\/(a=157/\iq k.V j=155)\/(a=160/\iq k.V j=164)\/(a=163/\iq k.V j=166)\/(a=166/\iq k.V j=168)\/(a=171/\iq k.V j=177)\/(a=175/\iq k.V j=183)):=by
 unfold Dv iq;grind
section
variable{E:TE γ}{Z:LS->Prop}
def Je(W:jF E I Z t)(hj:j<I.V.nl)(hk:(I.V.ly j).k=2)(IH:dV E I Z t (j+1)):dV E I Z t j:=by
 intro m p s w R c U C m w K;rw[show iq I.V j=164 by unfold iq;grind];have ZG:=AL m;have F:=W.f p;have D:=W.hB p;have w:=C.bd;have hS:=C.sat;obtain⟨m0,rfl,hf0⟩:=CW hj hk m;let⟨ty,m,hg⟩:=xT I (j+1);have A:=C.eH.lay j hj;rw[m]at A;unfold dV at IH;generalize iq I.V (j+1)=gf at*;refine cJ func164 hS 16 λbb m a hn n qh m S0 w=>aq (λM=>bR (a+3) [.nilIface]::(bR (a+2) [i6 0]::(bR (a+1) [ptr E.T]::(bR (a) [ptr (I.lb j)]::(M))))) 4 F D n m S0 10 [] 1 [] [(6,.func (Fn.func 165) #[] #[ptr a,ptr (a+1),ptr (a+2),ptr (a+3)]),(5,ptr (a+3)),(4,ptr (a+2)),(3,ptr (a+1)),(2,ptr a)] 10 1 [] λm m S1 m w w w=>Wc F hn m 165 [ptr a,ptr (a+1),ptr (a+2),ptr (a+3)] ρ ρ ρ S1 λm w m=>aq (λM=>M) 4 F D n m w 2 [] 1 [] [(5,ptr (a+3)),(4,ptr (a+2)),(3,ptr (a+1)),(2,ptr a)] 13 1 [] λw w3 S3 Y m m m=>?_
 have m:Sat (E.Ok p) w3 (pM s++(E.me I t::(([bR (a+3) [.nilIface],bR (a+2) [i6 0],oR (a+1) 0 [ptr E.T] false,oR a 0 [ptr (I.lb j)] false]++R)++E.P p s))):=
  (Sat.yg [bR (a+3) [.nilIface],bR (a+2) [i6 0],oR (a+1) 0 [ptr E.T] false] (Sat.yg [bR (a+3) [.nilIface],bR (a+2) [i6 0]] S3.sat)).perm (Cw (A:=pM s) (X:=[bR (a+3) [.nilIface],bR (a+2) [i6 0],oR (a+1) 0 [ptr E.T] false,oR a 0 [ptr (I.lb j)] false]))
 have C3:Cn E I t p s w3 ([bR (a+3) [.nilIface],bR (a+2) [i6 0],oR (a+1) 0 [ptr E.T] false,oR a 0 [ptr (I.lb j)] false]++R):=⟨m,C.pv,C.qi,((((C.fl.cons rfl).cons rfl).cons rfl).cons rfl),C.eH.app _,ω,C.cp,C.ln,C.ti⟩;replace S3:St (E.Ok p) a 16 _ _ 4 w w3:=⟨S3.env,m,S3.sz⟩
 have tO:∀f B J X,Cn E I t f B J (X++([bR (a+3) [.nilIface],bR (a+2) [i6 0],oR (a+1) 0 [ptr E.T] false,oR a 0 [ptr (I.lb j)] false]++R))->Sat (E.Ok f) J [oR a 0 [ptr (I.lb j)] false,oR (a+1) 0 [ptr E.T] false,tQ (I.lb j) (.iface ty (ptr (I.lb (j+1)))) j I.J]:=by
  intro f B J X x;refine x.sat.ED λr hr=>?_;simp only[ak,bH,or_false]at hr;rcases hr with rfl|rfl|rfl
  .exact Has.in ⟨rfl,3,rfl⟩
  .exact Has.in ⟨rfl,2,rfl⟩
  .exact Has.in (A.app _)
 refine TL W.f aK W.hB n 9 6 [oR a 0 [ptr (I.lb j)] false,oR (a+1) 0 [ptr E.T] false,tQ (I.lb j) (.iface ty (ptr (I.lb (j+1)))) j I.J] (Hq [0,0,0,1,2,0,0,1,1,0,0,1]) [(11,.iface ty (ptr (I.lb (j+1)))),(12,ptr E.T)] 13 gf #[ptr (I.lb (j+1)),ptr E.T] ρ ρ ρ ρ (by rcases hg with ⟨rfl,rfl⟩|⟨rfl,rfl⟩|⟨rfl,rfl⟩|⟨rfl,rfl⟩|⟨rfl,rfl⟩|⟨rfl,rfl⟩|⟨rfl,rfl⟩<;>kernel_rfl) S3 (tO p s w3 [] C3) ω λcf w4 VM Bj VQ=>IH m0 p s w4 _ cf (c::U) {C3 with sat:=VM,bd:=by omega} hf0 ω λm f B J X r b m m x m hr ha DG=>?_;obtain⟨m1,rfl,FR,Hj,h3,Xr⟩:=yh hk (x.pp W C ZG) m;have S:=x.bd;replace F:=W.f f;replace D:=W.hB f;have hM:=x.sat.perm (gM (A:=pM B));have P:∀w5,Sat (E.Ok f) w5 (pM B++(E.me I t::((X++R)++E.P f B)))->J.heap.size<=w5.heap.size->Cn E I t f B w5 (X++R):=λw5 m Dw=>⟨m,x.pv,x.qi,x.fl.OC,C.eH.app X,ω,x.cp,x.ln,x.ti⟩
 rcases hr with ⟨hb,rfl⟩|⟨hb,e,rfl,he⟩|⟨hb,rfl⟩
 .refine VQ.ret f _ J [] [(14,i6 b.n),(15,.nilIface),(4,ptr (a+2)),(5,ptr (a+3))] _ S (tO f B J X x) hM ρ ρ λa5 w5 B5 S5 k Y5 Dw=>?_;rw[Y]at k;refine aq (λM=>bh 1 (0,0) (i6 b.n) (M)) 0 F D n k S5 3 [1,0,0,1,0,0,0,1] 1 [] [(4,ptr (a+2)),(5,ptr (a+3))] 17 1 [9] λa6 w6 S6 V YG Hf fr6=>Mj F ρ V Hr f165 func165 _ rfl ρ 25 ρ S6 λa7 S7 L=>ZH F D L S7 2 [] 1 [] [(0,ptr a),(1,ptr (a+1)),(2,ptr (a+2)),(3,ptr (a+3))] 2 1 [] [] [] [] [] λa8 w8 S8 H FN IV Z7=>Td F 6 ρ ρ δ rfl S8 λa9 S9 g=>?_;rw[H]at g;refine ZH F D g S9 9 [] 5 [] [] 12 2 [] [] [] [] [] λDq v o l N O T=>NW F ρ l f165 func165 ρ ?_;refine G6 F (a:=⟨a6.tmps,[]⟩) (N:=16) (E:=[(4,ptr (a+2)),(5,ptr (a+3))]) ⟨S6.env.sz,S6.env.val⟩ o.sat n qh rfl [(1,(0,0),true),(0,(0,0),true)] (.tuple #[i6 b.n,.nilIface]) ρ ρ ?_;exact K m1 f B v X _ b ω ω (P v o.sat.tail.tail.tail.tail ω) (Xr ω) (.inl ⟨hb,rfl⟩) (λi Q=>ha i ω) λi Q=>DG i ω
 .obtain⟨q,rfl⟩:∃q,e=.iface 184 (ptr q):=by
   rcases Hj.2.2 with ⟨z,_⟩|⟨_,_,z⟩|⟨z,_⟩
   .omega
   .cases mQ:b.ch with
    |nil=>simp_all
    |cons y ch=>rw[mQ]at he;let⟨q,_,h,_⟩:=he;simp_all
   .omega
  refine VQ.ret f _ J [] [(14,i6 0),(15,.iface 184 (ptr q)),(4,ptr (a+2)),(5,ptr (a+3))] _ S (tO f B J X x) hM ρ ρ λa5 w5 B5 S5 k Y5 Dw=>?_;rw[Y]at k;refine aq (λM=>bh 0 (0,0) (.iface 184 (ptr q)) (M)) 0 F D n k S5 3 [1,0,0,1,0,0,0,1] 1 [] [(4,ptr (a+2)),(5,ptr (a+3))] 17 1 [9] λa6 w6 S6 V YG Hf fr6=>Mj F ρ V Hr f165 func165 _ rfl ρ 25 ρ S6 λa7 S7 L=>ZH F D L S7 2 [] 1 [] [(0,ptr a),(1,ptr (a+1)),(2,ptr (a+2)),(3,ptr (a+3))] 2 1 [] [] [] [] [] λa8 w8 S8 H FN IV Z7=>Td F 6 ρ ρ δ rfl S8 λa9 S9 g=>?_;rw[H]at g;refine ZH F D g S9 9 [] 5 [] [] 12 2 [] [] [] [] [] λDq v o l N O T=>NW F ρ l f165 func165 ρ ?_;refine G6 F (a:=⟨a6.tmps,[]⟩) (N:=16) (E:=[(4,ptr (a+2)),(5,ptr (a+3))]) ⟨S6.env.sz,S6.env.val⟩ o.sat n qh rfl [(1,(0,0),true),(0,(0,0),true)] (.tuple #[i6 0,.iface 184 (ptr q)]) ρ ρ ?_;exact K m1 f B v X _ b ω ω (P v o.sat.tail.tail.tail.tail ω) (Xr ω) (.inr (.inl ⟨hb,_,rfl,he⟩)) (λi Q=>ha i ω) λi Q=>DG i ω
 .obtain⟨a5,t5,rfl,k,Rc⟩:=VQ.NO;rw[Y]at k;show E.Ψ f (G ((bb.at a5 t5).raise (je (.iface 182 (i6 b.n)))) (c::U)) J;rw[raise_at hn.m];refine Tc F k Hr f165 func165 _ rfl ρ 25 ρ hM λa7 c S7 L c=>ZH F D L S7 2 [] 1 [] [(0,ptr a),(1,ptr (a+1)),(2,ptr (a+2)),(3,ptr (a+3))] 2 1 [] [] [] [] [] λa8 w8 S8 H FN IV Z7=>W3 F (v:=.iface 182 (i6 b.n)) 6 ρ ρ δ rfl S8 λa9 S9 g=>?_;rw[H]at g;refine ZH F D g S9 36 [3,0,0,1,2,0,0,1] 7 [5] [(15,i6 b.n),(14,ptr E.T),(13,ptr (I.lb j)),(5,i6 b.n),(0,ptr a),(2,ptr (a+2)),(3,ptr (a+3))] 19 3 [5] [] [] [] [] λDq v o l N O T=>RM F l 16 148 #[ptr (I.lb j),ptr E.T,i6 5,i6 b.n] ρ ρ δ o λc h=>?_;have c:Cn E I t f B v (X++([bR (a+3) [.nilIface],bR (a+2) [i6 0],oR (a+1) 0 [ptr E.T] false,oR a 0 [ptr (I.lb j)] false]++R)):={x with sat:=o.sat.perm (gM (A:=pM B)).symm,bd:=by omega};refine iU W c FR.el (wi:=.iface ty (ptr (I.lb (j+1)))) (num:=j) ((A.app _).app X) λe c c l m=>h _ _ _ ((c.sat.perm (gM (A:=pM e))).get (((((A.app X).pre _).cons).app (pM e)).app _)) λh h p m o=>?_;have o:=c.bd;refine qk (λM=>bR (h) [i6 6,i6 j,i6 b.n,.nilIface]::(bh 1 (0,0) (.iface 184 (ptr h)) (M))) 1 F D m p 46 [4,0,0,1,0,0,1,1,3,0,0,1,2,0,0,1] 1 [] [] 33 3 [5] [] [] [] [] λm m p o q q q=>BC F (b:=bb) (a':=⟨a5.tmps,[]⟩) (todo':=t5) (v:=.iface 182 (i6 b.n)) ρ o f165 func165 ρ ?_;have q:aR [(5,ptr (a+3)),(4,ptr (a+2))] 16 (⟨a5.tmps,[]⟩:Act):=⟨Rc.sz,λd u o=>Rc.val d u (fy [(5,ptr (a+3)),(4,ptr (a+2))] _ ρ d u o)⟩;refine G6 F q p.sat n qh rfl [(3,(0,0),true),(2,(0,0),true)] (.tuple #[i6 0,.iface 184 (ptr h)]) ρ ρ ?_;have a:Sat (E.Ok f) m (bR h [i6 6,i6 j,i6 b.n,.nilIface]::(pM e++(E.me I t::(R++E.P f e)))):=p.sat.sub (.cons_cons _ (.cons _ (.cons _ (.cons _ (.cons _ (.cons _ (nN (.cons_cons _ (D7 (D8 X R) _)) _)))))));have d:Flat (R++E.O f):=λi r Q=>by
   have:=bO.1 x.fl.OC r;refine this ?_;have n:r∈R++E.O f:=by rw[dF]at Q;exact sQ Q
   simp_all
  have YR:=h3 hb;rw[<-l]at YR;exact K m1 f e m [oR h 0 [i6 6,i6 j,i6 b.n,.nilIface] false] _ (c9 6 j b.n) ω ω ⟨a.fix.perm (gY (A:=pM e)),c.pv,c.qi,d.cons rfl,C.eH.cons,ω,c.cp,c.ln,c.ti⟩ YR (.inr (.inl ⟨rfl,_,rfl,h,.nilIface,rfl,⟨rfl,0,rfl⟩,rfl⟩)) (λi Q=>by rw[l];exact ha i ω) λi Q=>by rw[l];exact DG i ω
end
def Sat.R0(h:Sat Ok w M)(f:HB w.heap.size Ok)(b:gd)(e:TypeId):Sat Ok (w.alloc (.cells b e)) (fR ⟨w.heap.size,0,none⟩ 1 (λj=>[(b[j]?).getD undef]) b.size true::M):=by
 have l:=sat_iff.1 (h.new b e f).tail;refine sat_iff.2 ⟨λr c=>?_,iG.2 ⟨λr c b j g k d e=>?_,l.2⟩⟩
 .rcases ak.1 c with rfl|c
  .refine rI (λj k i b=>?_) (λa wr b=>f a wr ω);simp_all
  simp_all
 .have a:=au (((sat_iff.1 h).1 r c).val g d);simp only[add_add]at e;grind
def Sat.inst(h:Sat Ok w (r::M))(p:Nat):Sat Ok w (cG M p r):=by
 refine h.map (λi=>if i=p then 0 else i+1) (λi b a=>?_) (λi j b a _ e=>?_)
 .rw[dX]at a;by_cases z:i=p
  .simp only[z,if_true]at a ⊢;cases c:nth M p with
   |none=>simp_all
   |some q=>rw[c]at a;simp at a;exact⟨r,rfl,.inl a.symm⟩
  .simp only[z,if_false]at a ⊢;exact⟨b,a,.inl rfl⟩
 grind
def EI(k:Qc prog T e 1 bt=true)(w:aj)(o:TypeId){b off:Nat}{x:ay}(y:w.cell? ⟨nb,0,none⟩=some x)(t:x.oneCell'=true)(A:w.cell? ⟨b,off+n,none⟩=some u)(B:w.frozen? ⟨b,off+n,none⟩=false)(C:n<c):
 (Builtin.append_ #[T,T] o #[.slice (some ⟨b,off,none⟩) n c,.slice (some ⟨nb,0,none⟩) 1 1]).run prog w=.ok (.slice (some ⟨b,off,none⟩) (n+1) c) (w.setCell ⟨b,off+n,none⟩ x)/\
 ∀ev∈(Builtin.append_ #[T,T] o #[.slice (some ⟨b,off,none⟩) n c,.slice (some ⟨nb,0,none⟩) 1 1]).events prog w #[],(∃f,ev.loc=.cell f/\ev.write=false/\f.block=nb)\/∃f,ev.loc=.cell f/\f.block=b:=by
 let⟨inf,z,q,p,_,g,_,_,u⟩:=kv k;have s:∀(j:Nat)(v:ay),[x][j]? =some v->w.cell? ((⟨nb,0,none⟩:Addr).add j)=some v:=λj v m=>by
  rcases j with _|j
  .simp at m;subst m;exact y
  simp_all
 have k:n+1<=c:=C;have r:=run_append_room_cells (P:=prog) w T o e inf q p b off n c ⟨nb,0,none⟩ 1 1 [x] (by rw[g];rfl) s ξ k (λj m=>ξ) (λj m=>ξ);rw[g,lm]at r;refine⟨r,λev d=>?_⟩;have i:=run_firstCells_some (P:=prog) w inf.size 1 ⟨nb,0,none⟩ 1 1 [x] (by rw[g];rfl) s;simp[Builtin.append_,run_underlying q,sizeOf,typeInfo,p,Builtin.lenOf,k,ey,g]at d;rw[g]at i;simp only[i,xg,storeCells,YV,ey,jI]at d;rw[run_store prog w _ x _ t,events_store prog w _ _ x _ t,A]at d;simp[B]at d;rcases d with d|rfl
 .rcases events_firstCells_in (P:=prog) (·=nb) 1 1 _ w _ (λa l c e=>by
   grind) ev d with h|⟨f,a,a,a⟩
  .simp at h
  simp_all
 simp
def Wo(O:Qc prog T e 1 bt=true)(W:bt<=8)(F:aB prog D (DX Ok) Ψ)(hB:HB B Ok){b:aC}(hk:b.kind=.normal){B':Nat}{E:Env}{t:eC}(s x d p p2:Nat){base:eP}{g o0 len cap:Nat}{y:ay}{v:eX}(ho:kI t=true)(UZ:oD (aQ t) s x d T=true)(hd:d<N)(hs:look E s=some (.slice base len cap))(Y:look E x=some (.slice (some ⟨nb,0,none⟩) 1 1))(hb:base=some ⟨g,o0+o,none⟩\/base=none/\o=0/\cap=0)(P:nth M p=some (fR ⟨g,o0,none⟩ 1 v n true))(hnn:o+cap<=n/\(0<cap->n=o+cap))(h1y:y.oneCell'=true)(OI:nth M p2=some (bR nb [y]))(M5:∀L,base=some L->g<w.heap.size/\∀(m:Addr)(wr:Bool),m.block=g->Ok m wr)(n:len<=cap)(hq:len<1000000)(n:B<=B')(n:B<=nb)(S:St Ok B' N E M c a w)(K:∀W B n X C a' J,(B=o0\/B=0)->(n=o\/n=0)->Sat Ok J (cG M p (fR ⟨W,B,none⟩ 1 X (n+C) true))->(∀j,j<len->(X (n+j)).getD 0 undef=(v (o+j)).getD 0 undef)->(X (n+len)).getD 0 undef=y->(base=some ⟨W,B+n,none⟩\/B'<=W/\n=0)->w.heap.size<=J.heap.size->len+1<=C->aR ((d,.slice (some ⟨W,B+n,none⟩) (len+1) C)::E) N a'->a'.defers=a.defers->Ψ (G (b.at a' (jB t)) U) J):Ψ (G (b.at a t) U) w:=by
 let⟨_,i,r,I,b,Q,hn⟩:=dH ho;let⟨g1,g2,g3⟩:=mh UZ;have h:∀q v,look E q=some v->a.eval (.tmp q)=v:=λq v hq=>by rw[S.env.eval (by simp[kn,hq])];simp[ev,hq]
 have H:=S.sat;have d:=S.sz;have ZX:HB w.heap.size Ok:=λa wr z=>hB a wr ω;have A:w.cell? ⟨nb,0,none⟩=some y:=H.val p2 _ OI (0,0) ⟨aD,aD⟩;rw[b];by_cases hc:len<cap
 .rcases hb with R|⟨_,_,z⟩
  .obtain rfl:=hnn.2 ω;let⟨b,z3⟩:=M5 _ R;subst R;have l:(fR ⟨g,o0,none⟩ 1 v (o+cap) true).has (o+len,0):=⟨χ,aD⟩;have ea:(fR ⟨g,o0,none⟩ 1 v (o+cap) true).ad (o+len,0)=⟨g,o0+o+len,none⟩:=by simp[ey,Nat.add_assoc]
   have hv:=H.val p _ P _ l;have V:=((H.ok p _ P _ l).2 rfl).2;rw[ea]at hv V;refine F.OA Q (by simp[Region.wanted,g1]) χ λd' b i=>?_;let⟨b,d⟩:=EI O (w.at d') (aQ t).type (n:=len) (c:=cap) A h1y hv V hc;refine uponK_append (.tmp s) (.tmp x) T g3 (h s _ hs) (h x _ Y) b (i _ _ ⟨WG (g:=some g) (λe b=>?_) ⟨rfl,rfl,rfl,ψ,λk _ hk=>?_⟩ (λbb e=>?_) (λm wr e=>z3 m wr χ),F.at' _ (w.setCell ⟨g,o0+o+len,none⟩ y) d' ?_⟩)
   .have hm:=mem_listed b;rw[events_append_op (.tmp s) (.tmp x) T g3 (h s _ hs) (h x _ Y)]at hm;rcases d e hm with ⟨m,d,e2,b⟩|⟨m,d,b⟩
    .exact .inl ⟨m,d,rfl,by rw[e2];exact hB m false ω,by rw[b];show nb<(w.heap.modify _ _).size;simpa using au A⟩
    .exact .inl ⟨m,d,rfl,z3 m _ b,by rw[b];show g<(w.heap.modify _ _).size;grind⟩
   .have:g≠k:=λz=>hk (by rw[z]);simp[World.setCell,sU,this]
   .cases e;have:=hv;unfold World.cell? at this;cases hh:w.heap[g]? with
    |none=>grind
    |some o=>cases o with
     |cells c t f=>exact⟨c,t,f,hh⟩
     |_=>grind
   .rw[<-hn,g2];have h3:=H.set P rfl l rfl y;rw[ea]at h3;have h4:=h3.re p (kG _ P) rfl (λj=>[if j=o+len then y else(v j).getD 0 undef]) (λj l f V=>?_)
    .rw[jM]at h4;exact K g o0 o _ cap _ _ (.inl rfl) (.inl rfl) h4 (λj l=>χ) ψ (.inl rfl) ψ hc (S.env.put hd) (put_defers _ _ _)
    .have b:f<1:=V;obtain rfl:f=0:=ω
     simp only[aH.set,JD];simp
  .omega
 .have b:cap=len:=ω
  have TW:∀L,base=some L->∀(j:Nat)(u:ay),((List.range len).map λj=>(v (o+j)).getD 0 undef)[j]? =some u->w.cell? (L.add j)=some u:=λL LM j u l=>by
   have b:j<len:=χ
   have:=H.val p _ P (o+j,0) ⟨χ,aD⟩;obtain rfl:L=⟨g,o0+o,none⟩:=by
    grind
   simp only[aH.get,lm,ey,jI,<-Nat.add_assoc]at this;rw[ey,this];grind
  refine aB.Om O ω F Q (by simp[Region.wanted,g1]) χ (.tmp s) (.tmp x) g3 (olds:=(List.range len).map λj=>(v (o+j)).getD 0 undef) (news:=[y]) (h s _ hs) (h x _ Y) ψ TW (λz=>ξ) rfl (λj u l=>?_) χ ω ω (λbb LM=>χ) ⟨au A,λa b=>hB a false χ⟩ λC rs a hc a Z=>?_
  .rcases j with _|j
   .simp at l;subst l;exact A
   grind
  .rw[<-hn,g2];subst Z;have h2:=H.R0 ZX (((List.range len).map (λj=>(v (o+j)).getD 0 undef)++[y]).toArray++rs) e;have e2:(((List.range len).map (λj=>(v (o+j)).getD 0 undef)++[y]).toArray++rs).size=C:=θ
   rw[e2,<-bK C]at h2;refine K w.heap.size 0 0 _ C _ _ (.inr rfl) (.inr rfl) (h2.inst p) (λj l=>?_) ?_ (.inr ⟨ω,rfl⟩) ψ ω (S.env.put hd) (put_defers _ _ _)
   .grind
   .rw[bK,ve ψ];simp
end Go.Proofs.YtobagnjnbmgidabGreatDoor
