import Derived.Test.YtobagnjnbmgidaaGreatDoorX30
import Derived.Test.YtobagnjnbmgidaaGreatDoorN4
set_option linter.all false
set_option maxHeartbeats 0
set_option maxRecDepth 100000
namespace Go.Proofs.YtobagnjnbmgidaaGreatDoor
open Tryz Go.Conc Go.RowKit
variable{c:Nat}{w j:aj}{v:ay}{p:qz}{m:gd}
variable{l:Bool}{q:dh}
def bn(b:Bool):Nat:=if b then 1 else 0
def cg(w:aj)(c:Nat):Prop:=w.heap[c]? =some (.chan 0 #[] false 0 0 false)
theorem cg.al{o:Obj}(h:cg w c)(e:w.alloc o=j):cg j c:=by
 subst e;unfold cg;rw[Below.heap_alloc _ _ _ (cU.1 h).1];exact h
theorem cg.st{a:Addr}(h:cg w c)(e:w.setCell a v=j):cg j c:=by
 subst e;unfold cg at h ⊢;simp only[World.setCell,sU,h];simp
structure BV(w:aj)(A wc ec:Nat):Prop where
 a0:w.cell? ⟨A,0,none⟩=some (.int .i64 0)
 a1:w.cell? ⟨A,1,none⟩=some (.slice none 0 0)
 a2:w.cell? ⟨A,2,none⟩=some (.int .i64 0)
 a3:w.cell? ⟨A,3,none⟩=some (.chan (some wc))
 a4:w.cell? ⟨A,4,none⟩=some (.chan (some ec))
 a5:w.cell? ⟨A,5,none⟩=some (.int .u64 0)
 a6:w.cell? ⟨A,6,none⟩=some (.int .u32 0)
 z:∀i,w.frozen? ⟨A,i,none⟩=false
theorem vM(s:aj):
 fG prog l (DX q) 35 #[] s λv j=>∃H M,v=.pointer (some ⟨s.heap.size+2,0,none⟩)/\Kp [] s j/\j.heap.size=s.heap.size+3/\s.heap.size<=H/\H<s.heap.size+2/\s.heap.size<=M/\M<s.heap.size+2/\H≠M/\cg j H/\cg j M/\BV j (s.heap.size+2) H M:=by
 intro v F c c X;generalize S:s.heap.size=x at X;have c:x<=s.heap.size/\s.heap.size<=x:=by omega
 clear S;simp only[enter_at _ func35 rfl,ntmps35];walk_nrm;have y:Kp [] s s:=Kp.refl _;have m:x+(bn false+bn false+bn false)<=s.heap.size/\s.heap.size<=x+(bn false+bn false+bn false):=by simp[bn];omega
 refine F.cF ?_;refine F.aJ ?_;refine F.es ?_;refine F.yw (γ:=Nat×Nat) (n:=5) mixed [[],[],[0,1],[2],[0,1,2,3]] rfl (by kernel_rfl) (λb g=>[(1,dB (b 0) (.chan (some g.1)) (undef)),(2,dB (b 1) (.chan (some g.2)) (undef)),(3,dB (b 2) (.agg #[.int .i64 0,.slice none 0 0,.int .i64 0,.chan (some g.1),.chan (some g.2),.int .u64 0,.int .u32 0]) (undef)),(4,dB (b 3) (.pointer (some ⟨x+2,0,none⟩)) (undef)),(0,dB (b 4) (.pointer (some ⟨x+2,0,none⟩)) (.pointer none))]) (λb g w=>(Kp [] s w)/\(x+(bn (b 0)+bn (b 1)+bn (b 3))<=w.heap.size/\w.heap.size<=x+(bn (b 0)+bn (b 1)+bn (b 3)))/\(b 0=true->x<=g.1/\g.1<x+2/\g.1<w.heap.size/\cg w g.1)/\(b 1=true->x<=g.2/\g.2<x+2/\g.2<w.heap.size/\cg w g.2)/\(b 0=true->b 1=true->g.1≠g.2)/\(b 3=true->BV w (x+2) g.1 g.2)) ((0,0)) (by rfl) (⟨y,m,λh=>(by cases h),λh=>(by cases h),λh=>(by cases h),λh=>(by cases h)⟩) (all_cons ?_ (all_cons ?_ (all_cons ?_ (all_cons ?_ (all_cons ?_ (all_nil)))))) ?_
 .intro b g w C n a o rest D r;obtain⟨y,m,u,t,E,G⟩:=C;replace a:b 0=false:=a;have xR:=dy (n 2 0 rfl) a;have Yl:=dy (n 3 2 rfl) xR;have gD:=dy (n 4 0 rfl) a;simp only[xR,Yl,gD,a,pu,Nat.reduceAdd,Nat.reduceEqDiff,reduceIte];have V:bn (b 1)<=1:=by simp only[bn];split<;>omega
  have W:bn (b 3)=0:=by grind
  have J:bn (b 0)=0:=by grind
  refine F.op rfl rfl (by decide) (λd K L=>?_);go_simp;rw[ID];go_simp;rw[alloc_at'];refine L _ _ ⟨DX.alloc _ _ (λe U=>?_),?_⟩
  .have T:=mem_listed U;simp[go_sem,ID,Ky]at T
  clear L K d;try walk_nrm
  generalize f:World.alloc w _=Q;generalize B:(World.heap w).size=R;have I:=rC f B;have k:=r (R,g.2) _ ⟨y.yT f,(by have P:bn (tick b 0 0)=1:=(by rfl);have O:tick b 0 1=b 1:=(by simp[tick]);have N:tick b 0 3=b 3:=(by simp[tick]);rw[P,O,N];omega),λ_=>⟨by omega,by omega,by omega,ny f B⟩,λh=>⟨(t (by simpa [tick]using h)).1,(t (by simpa [tick]using h)).2.1,by have:=(t (by simpa [tick]using h)).2.2.1;omega,(t (by simpa [tick]using h)).2.2.2.al f⟩,λ_ h=>(λz=>by have:=(t (by simpa [tick]using h)).2.2.1;omega),λh=>absurd (show b 3=true from(by simpa [tick]using h)) (by grind)⟩;simp only[xR,Yl,gD,a,pu,Nat.reduceAdd,Nat.reduceEqDiff,reduceIte]at k;exact k
 .intro b g w C n a o rest D r;obtain⟨y,m,u,t,E,G⟩:=C;replace a:b 1=false:=a;have xR:=dy (n 2 1 rfl) a;have Yl:=dy (n 3 2 rfl) xR;have gD:=dy (n 4 1 rfl) a;simp only[xR,Yl,gD,a,pu,Nat.reduceAdd,Nat.reduceEqDiff,reduceIte];have V:bn (b 0)<=1:=by simp only[bn];split<;>omega
  have W:bn (b 3)=0:=by grind
  have J:bn (b 1)=0:=by grind
  refine F.op rfl rfl (by decide) (λd K L=>?_);go_simp;rw[ID];go_simp;rw[alloc_at'];refine L _ _ ⟨DX.alloc _ _ (λe U=>?_),?_⟩
  .have T:=mem_listed U;simp[go_sem,ID,Ky]at T
  clear L K d;try walk_nrm
  generalize f:World.alloc w _=Q;generalize B:(World.heap w).size=R;have I:=rC f B;have k:=r (g.1,R) _ ⟨y.yT f,(by have P:bn (tick b 1 1)=1:=(by rfl);have O:tick b 1 0=b 0:=(by simp[tick]);have N:tick b 1 3=b 3:=(by simp[tick]);rw[P,O,N];omega),λh=>⟨(u (by simpa [tick]using h)).1,(u (by simpa [tick]using h)).2.1,by have:=(u (by simpa [tick]using h)).2.2.1;omega,(u (by simpa [tick]using h)).2.2.2.al f⟩,λ_=>⟨by omega,by omega,by omega,ny f B⟩,λh _=>(λz=>by have:=(u (by simpa [tick]using h)).2.2.1;omega),λh=>absurd (show b 3=true from(by simpa [tick]using h)) (by grind)⟩;simp only[xR,Yl,gD,a,pu,Nat.reduceAdd,Nat.reduceEqDiff,reduceIte]at k;exact k
 .intro b g w C n a o rest D r;obtain⟨y,m,u,t,E,G⟩:=C;replace a:b 2=false:=a;have A:=o 0 rfl;have d1:=o 1 rfl;simp only[A,d1,a,pu,Nat.reduceAdd,Nat.reduceEqDiff,reduceIte];refine F.aJ ?_;have k:=r g _ ⟨y,m,u,t,E,G⟩;simp only[A,d1,a,pu,Nat.reduceAdd,Nat.reduceEqDiff,reduceIte]at k;exact k
 .intro b g w C n a o rest D r;obtain⟨y,m,u,t,E,G⟩:=C;replace a:b 3=false:=a;have d2:=o 2 rfl;have A:=n 2 0 rfl d2;have d1:=n 2 1 rfl d2;simp only[d2,A,d1,a,pu,Nat.reduceAdd,Nat.reduceEqDiff,reduceIte];have P:bn (b 0)=1:=by rw[A];rfl
  have O:bn (b 1)=1:=by rw[d1];rfl
  have N:bn (b 3)=0:=by grind
  have p:w.heap.size=x+2:=by omega
  clear m;refine F.GV ?_;generalize f:World.alloc w _=Q;have I:=rC f p;have h:BV Q (x+2) g.1 g.2:=⟨aY (i:=0) f p rfl,aY (i:=1) f p rfl,aY (i:=2) f p rfl,aY (i:=3) f p rfl,aY (i:=4) f p rfl,aY (i:=5) f p rfl,aY (i:=6) f p rfl,λi=>cy f p i⟩;have k:=r g _ ⟨y.yT f,(by have e:tick b 3 0=b 0:=(by simp[tick]);have d:tick b 3 1=b 1:=(by simp[tick]);have c:bn (tick b 3 3)=1:=(by rfl);rw[e,d,c];omega),λ_=>⟨(u A).1,(u A).2.1,by grind,(u A).2.2.2.al f⟩,λ_=>⟨(t d1).1,(t d1).2.1,by grind,(t d1).2.2.2.al f⟩,λ_ _=>E A d1,λ_=>h⟩;simp only[d2,A,d1,a,pu,Nat.reduceAdd,Nat.reduceEqDiff,reduceIte]at k;exact k
 .intro b g w C n a o rest D r;obtain⟨y,m,u,t,E,G⟩:=C;replace a:b 4=false:=a;have A:=o 0 rfl;have d1:=o 1 rfl;have d2:=o 2 rfl;have c:=o 3 rfl;simp only[A,d1,d2,c,a,pu,Nat.reduceAdd,Nat.reduceEqDiff,reduceIte];refine F.aJ ?_;have k:=r g _ ⟨y,m,u,t,E,G⟩;simp only[A,d1,d2,c,a,pu,Nat.reduceAdd,Nat.reduceEqDiff,reduceIte]at k;exact k
 intro b g w C b;obtain⟨y,m,u,t,E,G⟩:=C;simp only[b 0 (by decide),b 1 (by decide),b 2 (by decide),b 3 (by decide),b 4 (by decide),pu,Nat.reduceAdd,Nat.reduceEqDiff,reduceIte];have f0:=u (b 0 (by decide));have f1:=t (b 1 (by decide));have f2:=E (b 0 (by decide)) (b 1 (by decide));have f3:=G (b 3 (by decide));rw[b 0 (by decide),b 1 (by decide),b 3 (by decide)]at m;simp only[bn,if_true]at m;refine F.tC func35 ?_;exact X _ _ ⟨g.1,g.2,rfl,y,by omega,f0.1,f0.2.1,f1.1,f1.2.1,f2,f0.2.2.2,f1.2.2.2,f3⟩
structure mz(w:aj)(T A aS:Nat)(cl kn:Int):Prop where
 t0:w.cell? ⟨T,0,none⟩=some (.pointer (some ⟨A,0,none⟩))
 t1:w.cell? ⟨T,1,none⟩=some (.int .i64 kn)
 t2:w.cell? ⟨T,2,none⟩=some (.int .i64 cl)
 t3:w.cell? ⟨T,3,none⟩=some (.chan (some aS))
 t4:w.cell? ⟨T,4,none⟩=some (.pointer none)
 t5:w.cell? ⟨T,5,none⟩=some (.slice none 0 0)
 t6:w.cell? ⟨T,6,none⟩=some (.bool false)
 t7:w.cell? ⟨T,7,none⟩=some (.bool false)
 z4:w.frozen? ⟨T,4,none⟩=false
 z5:w.frozen? ⟨T,5,none⟩=false
 z6:w.frozen? ⟨T,6,none⟩=false
 z7:w.frozen? ⟨T,7,none⟩=false
theorem mz.kp{L:aN}{C:List Addr}{T A b:Nat}{d kn:Int}(h:mz w T A b d kn)(k:Kp L w j C)(a:T∉L)(e:∀x∈C,x.block≠T):mz j T A b d kn:=
 have c:∀i,(⟨T,i,none⟩:Addr)∉C:=λi z=>e _ z rfl
 ⟨k.cellC _ _ a (c _) h.t0,k.cellC _ _ a (c _) h.t1,k.cellC _ _ a (c _) h.t2,k.cellC _ _ a (c _) h.t3,k.cellC _ _ a (c _) h.t4,k.cellC _ _ a (c _) h.t5,k.cellC _ _ a (c _) h.t6,k.cellC _ _ a (c _) h.t7,(k.Q6 _ _ a (c _) h.t4).trans h.z4,(k.Q6 _ _ a (c _) h.t5).trans h.z5,(k.Q6 _ _ a (c _) h.t6).trans h.z6,(k.Q6 _ _ a (c _) h.t7).trans h.z7⟩
theorem cg.dx{es:dS}(D:DX q w j es)(h:cg w c):cg j c:=D.obj c _ h (λ_ _ _ z=>by cases z)
theorem fG.keep{R:cK}{f:FuncId}(b:∀w d,R w->R (w.at d))(k:∀w j es,DX q w j es->R w->R j)(h:fG prog l (DX q) f m w p)(i:R w):
 fG prog l (DX q) f m w (λv j=>p v j/\R j):=λa F c r f=>
 h (λg w=>R w->a g w) ⟨λg w d x a=>F.at' _ _ _ (x (show R w from b (w.at d) w.drawn a)),F.idle,F.less,λg w e x a=>F.step g w e λd=>by
  obtain⟨o,j,es,n,e,h,g⟩:=x d;exact⟨o,j,es,n,e,h (k _ _ _ e (b _ d a)),g⟩⟩ c r (λv j b a=>f v j ⟨b,a⟩) i
theorem fG.MW{f:FuncId}(h:fG prog l (DX q) f m w p)(a:cg w c):
 fG prog l (DX q) f m w (λv j=>p v j/\cg j c):=h.keep (λ_ _ x=>x) (λ_ _ _ D x=>x.dx D) a
theorem Fi{b i:Nat}(h:cg w c)(a:w.cell? ⟨b,i,none⟩=some v):c≠b:=λz=>by
 subst z;unfold cg at h;simp only[World.cell?,h]at a;simp at a
theorem GS(N A bl bo bi cl k:Nat)(at':Int)(en:ay)(es:jl)(Q:aj)(hN:N<=Q.heap.size)(lA:A<N)(he:fZ N Q en es)(To:es.length<1000000)(Tt:k<1000000)(p:Q.cell? ⟨A,1,none⟩=some en)(o:Q.cell? ⟨A,2,none⟩=some (.int .i64 (k:Int)))(y:Q.frozen? ⟨A,1,none⟩=false)(r:Q.frozen? ⟨A,2,none⟩=false)(o1:q ⟨A,1,none⟩ false)(ZO:q ⟨A,1,none⟩ true)(o2:q ⟨A,2,none⟩ false)(o2w:q ⟨A,2,none⟩ true)(W8:∀(a:Addr)(wr:Bool),a.block∈cw en\/Q.heap.size<=a.block->q a wr):
 fG prog l (DX q) 36 #[.pointer (some ⟨A,0,none⟩),.int .i64 (cl:Int),.int .i64 at',.func (.func 37) #[] #[.pointer (some ⟨bl,0,none⟩),.pointer (some ⟨bo,0,none⟩),.pointer (some ⟨bi,0,none⟩)]] Q λv j=>∃ba bw Y T bt P tP i,v=.pointer (some ⟨T,0,none⟩)/\Kp (cw en) Q j [⟨A,1,none⟩,⟨A,2,none⟩]/\
  (Q.heap.size<=ba/\ba<bw/\bw<Y/\bw<T/\bw<bt/\Y<P/\T<P/\bt<P/\P<=j.heap.size/\bt≠T/\Y≠T/\Y≠bt)/\
  j.cell? ⟨ba,0,none⟩=some (.pointer (some ⟨A,0,none⟩))/\j.cell? ⟨bw,0,none⟩=some (.func (.func 37) #[] #[.pointer (some ⟨bl,0,none⟩),.pointer (some ⟨bo,0,none⟩),.pointer (some ⟨bi,0,none⟩)])/\j.cell? ⟨bt,0,none⟩=some (.pointer (some ⟨T,0,none⟩))/\mz j T A Y (cl:Int) (k:Int)/\cg j Y/\
  j.cell? ⟨A,1,none⟩=some tP/\j.frozen? ⟨A,1,none⟩=false/\j.cell? ⟨A,2,none⟩=some (.int .i64 ((k:Int)+1))/\j.frozen? ⟨A,2,none⟩=false/\i<=es.length/\iM es at' i/\fZ N j tP (es.take i++(at',.func (.func 50) #[] #[.pointer (some ⟨ba,0,none⟩),.pointer (some ⟨bt,0,none⟩),.pointer (some ⟨bw,0,none⟩)])::es.drop i)/\∀g∈cw tP,g∈cw en\/P<=g:=by
 intro P F c c hc;have Hh:∀(a:Addr)(wr:Bool),Q.heap.size<=a.block->q a wr:=λa wr h=>W8 a wr (.inr h);have c:∀g,g∈cw en->N<=g/\g<Q.heap.size:=λg hg=>by
  obtain⟨c,c,c⟩:=he.lt (bS.1 hg);grind
 have c:IntKind.i64.wrap 1=1:=by decide
 have c:IntKind.i64.wrap ((k:Int)+1)=(k:Int)+1:=by simp only[IntKind.wrap,IntKind.bits,IntKind.signed]<;>(try simp)<;>omega
 simp only[enter_at _ func36 rfl,ntmps36];walk_nrm;refine F.cF ?_;refine F.GV ?_;generalize W:World.alloc Q _=w1;generalize CH:(World.heap Q).size=n1;have T8:=gH W CH;replace y:=dP y p W;replace r:=dP r o W;replace p:=bN p W;replace o:=bN o W;have u:=aY (i:=0) W CH rfl;have TX:=cy W CH 0;try simp only[sS,sW,sV]at u
 have J:Kp [] Q Q []:=Kp.refl _;replace J:=J.yT W;refine F.GV ?_;generalize U:World.alloc w1 _=c;generalize QC:(World.heap w1).size=X;have P:=gH U QC;replace y:=dP y p U;replace r:=dP r o U;replace TX:=dP TX u U;replace p:=bN p U;replace o:=bN o U;replace u:=bN u U;have t:=aY (i:=0) U QC rfl;have c:=cy U QC 0;try simp only[sS,sW,sV]at t
 replace J:=J.yT U;refine F.aJ ?_;refine F.es ?_;have aae:Q.heap.size<=n1/\n1<X:=by omega
 clear T8 P CH QC W U TX c;refine F.yw (γ:=Nat×Nat×Nat) (n:=11) mixed [[],[],[1],[2],[3],[],[],[0,4,5,6],[7],[],[0,1,2,3,4,5,6,7,8,9]] rfl (by kernel_rfl) (λb g=>[(10,dB (b 0) (.pointer (some ⟨A,0,none⟩)) (undef)),(11,dB (b 1) (.pointer (some ⟨A,0,none⟩)) (undef)),(12,dB (b 2) (.pointer (some ⟨A,0,none⟩)) (undef)),(13,dB (b 3) (.pointer (some ⟨A,2,none⟩)) (undef)),(14,dB (b 4) (.int .i64 (k:Int)) (undef)),(15,dB (b 5) (.int .i64 (cl:Int)) (undef)),(16,dB (b 6) (.chan (some g.1)) (undef)),(17,dB (b 7) (.agg #[.pointer (some ⟨A,0,none⟩),.int .i64 (k:Int),.int .i64 (cl:Int),.chan (some g.1),.pointer none,.slice none 0 0,.bool false,.bool false]) (undef)),(18,dB (b 8) (.pointer (some ⟨g.2.1,0,none⟩)) (undef)),(9,dB (b 9) (.pointer (some ⟨g.2.2,0,none⟩)) (undef))]) (λb g w=>(b 10=false->((Kp [] Q w)/\(w.cell? ⟨n1,0,none⟩=some (.pointer (some ⟨A,0,none⟩)))/\(w.cell? ⟨X,0,none⟩=some (.func (.func 37) #[] #[.pointer (some ⟨bl,0,none⟩),.pointer (some ⟨bo,0,none⟩),.pointer (some ⟨bi,0,none⟩)]))/\(w.cell? ⟨A,2,none⟩=some (.int .i64 (k:Int)))/\(w.cell? ⟨A,1,none⟩=some en)/\(w.frozen? ⟨A,2,none⟩=false)/\(w.frozen? ⟨A,1,none⟩=false)/\(b 6=true->X<g.1/\g.1<w.heap.size/\cg w g.1)/\(b 8=true->X<g.2.1/\g.2.1<w.heap.size/\mz w g.2.1 A g.1 (cl:Int) (k:Int))/\(b 9=true->X<g.2.2/\g.2.2<w.heap.size/\w.cell? ⟨g.2.2,0,none⟩=some (.pointer none)/\w.frozen? ⟨g.2.2,0,none⟩=false)/\(b 8=true->b 9=true->g.2.1≠g.2.2)))/\(b 10=true->(Kp [] Q w/\w.cell? ⟨n1,0,none⟩=some (.pointer (some ⟨A,0,none⟩))/\w.cell? ⟨X,0,none⟩=some (.func (.func 37) #[] #[.pointer (some ⟨bl,0,none⟩),.pointer (some ⟨bo,0,none⟩),.pointer (some ⟨bi,0,none⟩)])/\w.cell? ⟨A,2,none⟩=some (.int .i64 (k:Int))/\w.cell? ⟨A,1,none⟩=some en/\w.frozen? ⟨A,2,none⟩=false/\w.frozen? ⟨A,1,none⟩=false/\(X<g.1/\g.1<w.heap.size/\cg w g.1)/\(X<g.2.1/\g.2.1<w.heap.size/\mz w g.2.1 A g.1 (cl:Int) (k:Int))/\X<g.2.2/\g.2.2<w.heap.size/\w.cell? ⟨g.2.2,0,none⟩=some (.pointer (some ⟨g.2.1,0,none⟩))/\g.2.1≠g.2.2))) ((0,0,0)) (by simp only[pu,Nat.reduceAdd,Nat.reduceEqDiff,reduceIte]) (⟨λ_=>⟨J,u,t,o,p,r,y,λh=>(by cases h),λh=>(by cases h),λh=>(by cases h),λh=>(by cases h)⟩,λh=>by cases h⟩) (all_cons ?_ (all_cons ?_ (all_cons ?_ (all_cons ?_ (all_cons ?_ (all_cons ?_ (all_cons ?_ (all_cons ?_ (all_cons ?_ (all_cons ?_ (all_cons ?_ (all_nil)))))))))))) ?_
 .intro b g w R C m D rest V G;obtain⟨s,E⟩:=R;replace m:b 0=false:=m;have f:=dy (C 10 0 rfl) m;obtain⟨J,u,t,o,p,r,y,M,S,L,I⟩:=s f;clear s E;simp only[f,m,pu,Nat.reduceAdd,Nat.reduceEqDiff,reduceIte];refine F.Ym ?_;have B:=G g _ ⟨λ_=>⟨J,u,t,o,p,r,y,M,S,L,I⟩,λh=>no f h⟩;simp only[f,m,pu,Nat.reduceAdd,Nat.reduceEqDiff,reduceIte]at B;exact B
 .intro b g w R C m D rest V G;obtain⟨s,E⟩:=R;replace m:b 1=false:=m;have f:=dy (C 10 1 rfl) m;obtain⟨J,u,t,o,p,r,y,M,S,L,I⟩:=s f;clear s E;simp only[f,m,pu,Nat.reduceAdd,Nat.reduceEqDiff,reduceIte];refine F.Ym ?_;have B:=G g _ ⟨λ_=>⟨J,u,t,o,p,r,y,M,S,L,I⟩,λh=>no f h⟩;simp only[f,m,pu,Nat.reduceAdd,Nat.reduceEqDiff,reduceIte]at B;exact B
 .intro b g w R C m D rest V G;obtain⟨s,E⟩:=R;replace m:b 2=false:=m;have d1:=D 1 rfl;have f:=dy (C 10 2 rfl) m;obtain⟨J,u,t,o,p,r,y,M,S,L,I⟩:=s f;clear s E;simp only[d1,f,m,pu,Nat.reduceAdd,Nat.reduceEqDiff,reduceIte];refine F.aJ ?_;have B:=G g _ ⟨λ_=>⟨J,u,t,o,p,r,y,M,S,L,I⟩,λh=>no f h⟩;simp only[d1,f,m,pu,Nat.reduceAdd,Nat.reduceEqDiff,reduceIte]at B;exact B
 .intro b g w R C m D rest V G;obtain⟨s,E⟩:=R;replace m:b 3=false:=m;have d2:=D 2 rfl;have f:=dy (C 10 3 rfl) m;obtain⟨J,u,t,o,p,r,y,M,S,L,I⟩:=s f;clear s E;simp only[d2,f,m,pu,Nat.reduceAdd,Nat.reduceEqDiff,reduceIte];refine F.aJ ?_;have B:=G g _ ⟨λ_=>⟨J,u,t,o,p,r,y,M,S,L,I⟩,λh=>no f h⟩;simp only[d2,f,m,pu,Nat.reduceAdd,Nat.reduceEqDiff,reduceIte]at B;exact B
 .intro b g w R C m D rest V G;obtain⟨s,E⟩:=R;replace m:b 4=false:=m;have d3:=D 3 rfl;have f:=dy (C 10 4 rfl) m;obtain⟨J,u,t,o,p,r,y,M,S,L,I⟩:=s f;clear s E;simp only[d3,f,m,pu,Nat.reduceAdd,Nat.reduceEqDiff,reduceIte];refine F.Ym ?_;have B:=G g _ ⟨λ_=>⟨J,u,t,o,p,r,y,M,S,L,I⟩,λh=>no f h⟩;simp only[d3,f,m,pu,Nat.reduceAdd,Nat.reduceEqDiff,reduceIte]at B;exact B
 .intro b g w R C m D rest V G;obtain⟨s,E⟩:=R;replace m:b 5=false:=m;have f:=dy (C 10 5 rfl) m;obtain⟨J,u,t,o,p,r,y,M,S,L,I⟩:=s f;clear s E;simp only[f,m,pu,Nat.reduceAdd,Nat.reduceEqDiff,reduceIte];refine F.aJ ?_;have B:=G g _ ⟨λ_=>⟨J,u,t,o,p,r,y,M,S,L,I⟩,λh=>no f h⟩;simp only[f,m,pu,Nat.reduceAdd,Nat.reduceEqDiff,reduceIte]at B;exact B
 .intro b g w R C m D rest V G;obtain⟨s,E⟩:=R;replace m:b 6=false:=m;have vN:=dy (C 7 6 rfl) m;have f:=dy (C 10 6 rfl) m;obtain⟨J,u,t,o,p,r,y,M,S,L,I⟩:=s f;clear s E;simp only[vN,f,m,pu,Nat.reduceAdd,Nat.reduceEqDiff,reduceIte];refine F.op rfl rfl (by decide) (λd K Z=>?_);go_simp;rw[A8];go_simp;rw[alloc_at'];refine Z _ _ ⟨DX.alloc _ _ (λe he=>?_),?_⟩
  .have hm:=mem_listed he;simp[go_sem,A8,zO]at hm
  clear Z K d;try walk_nrm
  generalize n:World.alloc w _=w3;generalize H:(World.heap w).size=n3;have T7:=rC n H;have Bl:X<n3:=by have:X<w.heap.size:=au t;omega
  have PI:b 8=false:=by
   cases hx:b 8 with
   |false=>rfl
   |true=>have c:=C 8 7 rfl hx;have XZ:=C 7 6 rfl c;rw[show b 6=false from m]at XZ;cases XZ
  have B:=G (n3,g.2) _ ⟨λ_=>⟨J.yT n,bN u n,bN t n,bN o n,bN p n,dP r o n,dP y p n,λ_=>⟨Bl,(show n3<w3.heap.size by omega),ny n H⟩,λh=>absurd (show b 8=true from(by simpa [tick]using h)) (by rw[PI];decide),λh=>⟨(L (by simpa [tick]using h)).1,c7 (L (by simpa [tick]using h)).2.1 (by omega),bN (L (by simpa [tick]using h)).2.2.1 n,dP (L (by simpa [tick]using h)).2.2.2 (L (by simpa [tick]using h)).2.2.1 n⟩,λh=>absurd (show b 8=true from(by simpa [tick]using h)) (by rw[PI];decide)⟩,λh=>absurd (show b 10=true from(by simpa [tick]using h)) (by rw[f];decide)⟩;simp only[vN,f,m,pu,Nat.reduceAdd,Nat.reduceEqDiff,reduceIte]at B;exact B
 .intro b g w R C m D rest V G;obtain⟨s,E⟩:=R;replace m:b 7=false:=m;have d0:=D 0 rfl;have d4:=D 4 rfl;have d5:=D 5 rfl;have d6:=D 6 rfl;have f:=dy (C 10 7 rfl) m;obtain⟨J,u,t,o,p,r,y,M,S,L,I⟩:=s f;clear s E;simp only[d0,d4,d5,d6,f,m,pu,Nat.reduceAdd,Nat.reduceEqDiff,reduceIte];refine F.aJ ?_;have B:=G g _ ⟨λ_=>⟨J,u,t,o,p,r,y,M,S,L,I⟩,λh=>no f h⟩;simp only[d0,d4,d5,d6,f,m,pu,Nat.reduceAdd,Nat.reduceEqDiff,reduceIte]at B;exact B
 .intro b g w R C m D rest V G;obtain⟨s,E⟩:=R;replace m:b 8=false:=m;have d7:=D 7 rfl;have d0:=C 7 0 rfl d7;have d4:=C 7 4 rfl d7;have d5:=C 7 5 rfl d7;have d6:=C 7 6 rfl d7;have d3:=C 4 3 rfl d4;have d2:=C 3 2 rfl d3;have d1:=C 2 1 rfl d2;have f:=dy (C 10 8 rfl) m;obtain⟨J,u,t,o,p,r,y,M,S,L,I⟩:=s f;clear s E;simp only[d7,d0,d4,d5,d6,d3,d2,d1,f,m,pu,Nat.reduceAdd,Nat.reduceEqDiff,reduceIte];refine F.op rfl rfl (by decide) (λd K Z=>?_);go_simp
  skip
  rw[alloc_at'];refine Z _ _ ⟨DX.alloc _ _ (λe he=>?_),?_⟩
  .have hm:=mem_listed he;simp[go_sem,A8,zO]at hm
  clear Z K d;try walk_nrm
  generalize n:World.alloc w _=w3;generalize H:(World.heap w).size=n3;have T7:=rC n H;have Bl:X<n3:=by have:X<w.heap.size:=au t;omega
  have B:=G (g.1,n3,g.2.2) _ ⟨λ_=>⟨J.yT n,bN u n,bN t n,bN o n,bN p n,dP r o n,dP y p n,λh=>⟨(M (by omega)).1,c7 (M (by omega)).2.1 (by omega),(M (by omega)).2.2.al n⟩,λ_=>⟨Bl,(show n3<w3.heap.size by omega),aY (i:=0) n H rfl,aY (i:=1) n H rfl,aY (i:=2) n H rfl,aY (i:=3) n H rfl,aY (i:=4) n H rfl,aY (i:=5) n H rfl,aY (i:=6) n H rfl,aY (i:=7) n H rfl,cy n H 4,cy n H 5,cy n H 6,cy n H 7⟩,λh=>⟨(L (by simpa [tick]using h)).1,c7 (L (by simpa [tick]using h)).2.1 (by omega),bN (L (by simpa [tick]using h)).2.2.1 n,dP (L (by simpa [tick]using h)).2.2.2 (L (by simpa [tick]using h)).2.2.1 n⟩,λ_ h=>(λz=>by have:=(L (by simpa [tick]using h)).2.1;dsimp only at z;omega)⟩,λh=>absurd (show b 10=true from(by simpa [tick]using h)) (by rw[f];decide)⟩;simp only[d7,d0,d4,d5,d6,d3,d2,d1,f,m,pu,Nat.reduceAdd,Nat.reduceEqDiff,reduceIte]at B;exact B
 .intro b g w R C m D rest V G;obtain⟨s,E⟩:=R;replace m:b 9=false:=m;have f:=dy (C 10 9 rfl) m;obtain⟨J,u,t,o,p,r,y,M,S,L,I⟩:=s f;clear s E;simp only[f,m,pu,Nat.reduceAdd,Nat.reduceEqDiff,reduceIte];refine F.op rfl rfl (by decide) (λd K Z=>?_);go_simp
  skip
  rw[alloc_at'];refine Z _ _ ⟨DX.alloc _ _ (λe he=>?_),?_⟩
  .have hm:=mem_listed he;simp[go_sem,A8,zO]at hm
  clear Z K d;try walk_nrm
  generalize n:World.alloc w _=w3;generalize H:(World.heap w).size=n3;have T7:=rC n H;have Bl:X<n3:=by have:X<w.heap.size:=au t;omega
  have B:=G (g.1,g.2.1,n3) _ ⟨λ_=>⟨J.yT n,bN u n,bN t n,bN o n,bN p n,dP r o n,dP y p n,λh=>⟨(M (by simpa [tick]using h)).1,c7 (M (by simpa [tick]using h)).2.1 (by omega),(M (by simpa [tick]using h)).2.2.al n⟩,λh=>⟨(S (by simpa [tick]using h)).1,c7 (S (by simpa [tick]using h)).2.1 (by omega),(S (by simpa [tick]using h)).2.2.kp (Kp.alloc (L:=[]) n) (by simp) (by simp)⟩,λ_=>⟨Bl,(show n3<w3.heap.size by omega),aY (i:=0) n H rfl,cy n H 0⟩,λh _=>(λz=>by have:=(S (by simpa [tick]using h)).2.1;dsimp only at z;omega)⟩,λh=>absurd (show b 10=true from(by simpa [tick]using h)) (by rw[f];decide)⟩;simp only[f,m,pu,Nat.reduceAdd,Nat.reduceEqDiff,reduceIte]at B;exact B
 .intro b g w R C m D rest V G;obtain⟨s,E⟩:=R;replace m:b 10=false:=m;have d0:=D 0 rfl;have d1:=D 1 rfl;have d2:=D 2 rfl;have d3:=D 3 rfl;have d4:=D 4 rfl;have d5:=D 5 rfl;have d6:=D 6 rfl;have d7:=D 7 rfl;have d8:=D 8 rfl;have d9:=D 9 rfl;obtain⟨J,u,t,o,p,r,y,M,S,L,I⟩:=s m;clear s E;simp only[d0,d1,d2,d3,d4,d5,d6,d7,d8,d9,m,pu,Nat.reduceAdd,Nat.reduceEqDiff,reduceIte];obtain⟨q1,q2,q3⟩:=M d6;obtain⟨q4,q5,q6⟩:=S d8;obtain⟨q7,q8,q9,c⟩:=L d9;have Te:=I d8 d9;clear M S L I;have hlA:A<w.heap.size:=au p;have f:A<n1:=by omega
  refine F.op rfl rfl (by decide) (λd K Z=>?_);go_simp;rw[setCell_at'];refine Z _ _ ⟨DX.set _ (Hh _ _ (by dsimp only;omega)) (λe he=>?_),?_⟩
  .have hm:=mem_listed he;simp[go_sem,storedEv,ig,q9,c]at hm;subst hm;exact .inl ⟨_,rfl,rfl,Hh _ _ (by dsimp only;omega),by simp only[iL,size_set];exact q8⟩
  clear Z K d;try walk_nrm
  generalize n:World.setCell w _ _=w3;have T7:=Kg n;have ks:=Kp.H8 n;have B:=G g _ ⟨λh=>by simp[tick]at h,λ_=>⟨J.Ch n (.inr (.inr (by dsimp only;omega))),dQ u n (by simp),dQ t n (by simp<;>omega),dQ o n (by simp<;>omega),dQ p n (by simp<;>omega),eF r n,eF y n,⟨q1,by omega,q3.st n⟩,⟨q4,by omega,q6.kp ks (by simp) (by simp<;>omega)⟩,q7,by omega,kP q9 n,Te⟩⟩;simp only[d0,d1,d2,d3,d4,d5,d6,d7,d8,d9,m,pu,Nat.reduceAdd,Nat.reduceEqDiff,reduceIte]at B;exact B
 intro b g w R b;obtain⟨s,E⟩:=R;simp only[b 0 (by decide),b 1 (by decide),b 2 (by decide),b 3 (by decide),b 4 (by decide),b 5 (by decide),b 6 (by decide),b 7 (by decide),b 8 (by decide),b 9 (by decide),b 10 (by decide),pu,Nat.reduceAdd,Nat.reduceEqDiff,reduceIte];obtain⟨I,C,k,D,G,c,f,⟨q1,q2,q3⟩,⟨q4,q5,q6⟩,q7,q8,q9,Te⟩:=E (b 10 (by decide));clear s E b J u t o p r y;obtain⟨Y,T,bt⟩:=g;dsimp only at q1 q2 q3 q4 q5 q6 q7 q8 q9 Te ⊢;have J:Kp (cw en) Q w [⟨A,1,none⟩,⟨A,2,none⟩]:=I.old (by simp) (by simp);have kz:Kp [] Q w [⟨A,2,none⟩]:=I.old (by simp) (by simp);have u:=C;have t:=k;have o:=D;have p:=G;have r:=c;have y:=f;have TB:=q9;have hlA:A<n1:=by omega
 clear I C k D G c f q9;refine F.dA ?_;refine F.Ym ?_;iterate 2 (refine F.aJ ?_)
 refine F.Ym ?_;iterate 3 (refine F.aJ ?_)
 refine F.op rfl rfl (by decide) (λd K Z=>?_);go_simp;rw[setCell_at'];refine Z _ _ ⟨DX.set _ (by(first|assumption|(apply Hh<;>dsimp only<;>omega))) (λe he=>?_),?_⟩
 .have hm:=mem_listed he;simp[go_sem,storedEv,fD,ig,fE,jc,gP, *]at hm;subst hm;exact .inl ⟨_,rfl,rfl,by(first|assumption|(apply Hh<;>dsimp only<;>omega)),by simp only[iL,size_set];first|omega|exact au (by assumption)⟩
 clear Z K d;try walk_nrm
 generalize O:World.setCell w _ _=w4;have b:=lu O;replace y:=eF y O;replace r:=eF r O;replace u:=dQ u O (by simp);replace t:=dQ t O (by simp<;>omega);replace TB:=dQ TB O (by simp<;>omega);replace p:=dQ p O (by simp<;>omega);replace o:=kP o O;replace J:=J.Ch O (by first|(left;simp;done)|(right;left;simp;done)|(right;right;dsimp only;omega));refine F.re ?_;have ks:=Kp.H8 O;have q3:=q3.st O;have q6:=q6.kp ks (by simp) (by simp<;>omega);have b:w4.heap.size<=w4.heap.size:=az _;refine F.cF ?_;refine F.Ym ?_;iterate 2 (refine F.aJ ?_)
 have b:fZ N w4 en es:=Kp.bA (kz.Ch O (.inr (.inl (by simp)))) he λg hg=>⟨by simp,λx hx=>by grind⟩
 have c:Q.heap.size<=w4.heap.size:=J.size;refine F.uO func49 ?_;refine(fG.MW (EX N A at' (.func 50) #[] #[.pointer (some ⟨n1,0,none⟩),.pointer (some ⟨bt,0,none⟩),.pointer (some ⟨X,0,none⟩)] en es w4 (by omega) lA To b p y o1 ZO (λa wr h=>W8 a wr (h.imp id λh=>by omega))) q3) _ F _ _ (λv a a=>?_);obtain⟨⟨rfl,kq,tP,i,e0,epl,e1,e2,e3,e4⟩,Qr⟩:=a;have nr:∀x,Q.heap.size<=x->x∉cw en:=λx hx z=>by grind
 have a:A∉cw en:=λz=>by grind
 have u:=kq.cellC _ _ (nr n1 (by omega)) (by simp) u;have t:=kq.cellC _ _ (nr X (by omega)) (by simp<;>omega) t;have TB:=kq.cellC _ _ (nr bt (by omega)) (by simp<;>omega) TB;have r:=(kq.Q6 _ _ a (by simp<;>omega) o).trans r;have o:=kq.cellC _ _ a (by simp<;>omega) o;have q6:=q6.kp kq (nr T (by omega)) (by simp<;>omega);have J:=J.pX kq (λx hx=>.inl hx) (λx hx=>.inl (by simp at hx;simp[hx]));have n3:=Fi Qr q6.t0;have b:=Fi Qr TB;rw[bQ];try walk_nrm
 refine F.dA ?_;refine F.Ym ?_;refine F.aJ ?_;refine F.tC func36 ?_;have a:=kq.size;exact hc _ _ ⟨n1,X,Y,T,bt,w4.heap.size,tP,i,rfl,J,⟨by omega,by omega,by omega,by omega,by omega,by omega,by omega,by omega,a,λz=>Te z.symm,n3,b⟩,u,t,TB,q6,Qr,e1,e2,o,r,e0,epl,e3,e4⟩
end Go.Proofs.YtobagnjnbmgidaaGreatDoor
