import Derived.Test.YtobagnjnbmgidaaGreatDoorX30
import Derived.Test.YtobagnjnbmgidaaGreatDoorN4
set_option linter.all false
set_option maxHeartbeats 0
set_option maxRecDepth 100000
namespace Go.Proofs.YtobagnjnbmgidaaGreatDoor
open Tryz Go.Conc Go.RowKit
variable{c:Nat}{w w':aj}{v:ay}{Post:qG}{args:fW}
variable{main:Bool}{Ok:dw}
def bn(b:Bool):Nat:=if b then 1 else 0
def b8(w:aj)(c:Nat):Prop:=w.heap[c]? =some (.chan 0 #[] false 0 0 false)
theorem b8.al{o:Obj}(h:b8 w c)(e:w.alloc o=w'):b8 w' c:=by
 subst e;unfold b8;rw[Below.heap_alloc _ _ _ (cH.1 h).1];exact h
theorem b8.st{a:Addr}(h:b8 w c)(e:w.setCell a v=w'):b8 w' c:=by
 subst e;unfold b8 at h ⊢;simp only[World.setCell,rA,h]
 split<;>rfl
structure CR(w:aj)(A wc ec:Nat):Prop where
 a0:w.cell? ⟨A,0,none⟩=some (.int .i64 0)
 a1:w.cell? ⟨A,1,none⟩=some (.slice none 0 0)
 a2:w.cell? ⟨A,2,none⟩=some (.int .i64 0)
 a3:w.cell? ⟨A,3,none⟩=some (.chan (some wc))
 a4:w.cell? ⟨A,4,none⟩=some (.chan (some ec))
 a5:w.cell? ⟨A,5,none⟩=some (.int .u64 0)
 a6:w.cell? ⟨A,6,none⟩=some (.int .u32 0)
 z:∀i,w.frozen? ⟨A,i,none⟩=false
theorem vT(w0:aj):
 eC prog main (DX Ok) 35 #[] w0 λv w'=>∃wc ec,v=.pointer (some ⟨w0.heap.size+2,0,none⟩)/\Kp [] w0 w'/\w'.heap.size=w0.heap.size+3/\w0.heap.size<=wc/\wc<w0.heap.size+2/\w0.heap.size<=ec/\ec<w0.heap.size+2/\wc≠ec/\b8 w' wc/\b8 w' ec/\CR w' (w0.heap.size+2) wc ec:=by
 intro Ψ F c cs hc;generalize P:w0.heap.size=t at hc;have S:t<=w0.heap.size/\w0.heap.size<=t:=by omega
 clear P;rw[enter_at _ func35 rfl];simp only[ntmps35,oP,Nat.reduceAdd,Nat.reduceSub];have x:Kp [] w0 w0:=Kp.refl _;have l:t+(bn false+bn false+bn false)<=w0.heap.size/\w0.heap.size<=t+(bn false+bn false+bn false):=by simp[bn];omega
 refine F.cw ?_;refine F.aF ?_;try walk_nrm
 refine F.es ?_;refine F.yT (γ:=Nat×Nat) (n:=5) mixed [[],[],[0,1],[2],[0,1,2,3]] rfl (by kernel_rfl) (λb g=>[(1,dD (b 0) (.chan (some g.1)) (undef)),(2,dD (b 1) (.chan (some g.2)) (undef)),(3,dD (b 2) (.agg #[.int .i64 0,.slice none 0 0,.int .i64 0,.chan (some g.1),.chan (some g.2),.int .u64 0,.int .u32 0]) (undef)),(4,dD (b 3) (.pointer (some ⟨t+2,0,none⟩)) (undef)),(0,dD (b 4) (.pointer (some ⟨t+2,0,none⟩)) (.pointer none))]) (λb g w=>(Kp [] w0 w)/\(t+(bn (b 0)+bn (b 1)+bn (b 3))<=w.heap.size/\w.heap.size<=t+(bn (b 0)+bn (b 1)+bn (b 3)))/\(b 0=true->t<=g.1/\g.1<t+2/\g.1<w.heap.size/\b8 w g.1)/\(b 1=true->t<=g.2/\g.2<t+2/\g.2<w.heap.size/\b8 w g.2)/\(b 0=true->b 1=true->g.1≠g.2)/\(b 3=true->CR w (t+2) g.1 g.2)) ((0,0)) (by simp only[pu,Nat.reduceAdd,Nat.reduceEqDiff,reduceIte]) (⟨x,l,λh=>(by cases h),λh=>(by cases h),λh=>(by cases h),λh=>(by cases h)⟩) (all_cons ?_ (all_cons ?_ (all_cons ?_ (all_cons ?_ (all_cons ?_ (all_nil)))))) ?_
 .intro b g w A m a o rest B q
  obtain⟨x,l,s,r,C,E⟩:=A;replace a:b 0=false:=a;have yj:=dz (m 2 0 rfl) a;have jZ:=dz (m 3 2 rfl) yj;have gl:=dz (m 4 0 rfl) a;simp only[yj,jZ,gl,a,pu,Nat.reduceAdd,Nat.reduceEqDiff,reduceIte];have Q:bn (b 1)<=1:=by simp only[bn];split<;>omega
  have R:bn (b 3)=0:=by rw[jZ];rfl
  have J:bn (b 0)=0:=by rw[a];rfl
  refine F.op rfl rfl (by decide) (λd K D=>?_);go_simp;rw[Jx];go_simp;rw[alloc_at'];refine D _ _ ⟨DX.alloc _ _ (λe I=>?_),?_⟩
  .have H:=mem_listed I
   simp[go_sem,Jx,LC]at H
  clear D K d;try walk_nrm
  generalize f:World.alloc w _=N;generalize y:(World.heap w).size=O;have G:=p9 f y;have k:=q (O,g.2) _ ⟨x.zb f,(by have M:bn (tick b 0 0)=1:=(by simp[tick,bn]);have e1:tick b 0 1=b 1:=(by simp[tick]);have L:tick b 0 3=b 3:=(by simp[tick]);rw[M,e1,L];omega),λ_=>⟨by omega,by omega,by omega,nv f y⟩,λh=>⟨(r (by simpa [tick]using h)).1,(r (by simpa [tick]using h)).2.1,by have:=(r (by simpa [tick]using h)).2.2.1;omega,(r (by simpa [tick]using h)).2.2.2.al f⟩,λ_ h=>(λz=>by have:=(r (by simpa [tick]using h)).2.2.1;dsimp only at z;omega),λh=>absurd (show b 3=true from(by simpa [tick]using h)) (by rw[jZ];decide)⟩;simp only[yj,jZ,gl,a,pu,Nat.reduceAdd,Nat.reduceEqDiff,reduceIte]at k;exact k
 .intro b g w A m a o rest B q
  obtain⟨x,l,s,r,C,E⟩:=A;replace a:b 1=false:=a;have yj:=dz (m 2 1 rfl) a;have jZ:=dz (m 3 2 rfl) yj;have gl:=dz (m 4 1 rfl) a;simp only[yj,jZ,gl,a,pu,Nat.reduceAdd,Nat.reduceEqDiff,reduceIte];have Q:bn (b 0)<=1:=by simp only[bn];split<;>omega
  have R:bn (b 3)=0:=by rw[jZ];rfl
  have J:bn (b 1)=0:=by rw[a];rfl
  refine F.op rfl rfl (by decide) (λd K D=>?_);go_simp;rw[Jx];go_simp;rw[alloc_at'];refine D _ _ ⟨DX.alloc _ _ (λe I=>?_),?_⟩
  .have H:=mem_listed I
   simp[go_sem,Jx,LC]at H
  clear D K d;try walk_nrm
  generalize f:World.alloc w _=N;generalize y:(World.heap w).size=O;have G:=p9 f y;have k:=q (g.1,O) _ ⟨x.zb f,(by have M:bn (tick b 1 1)=1:=(by simp[tick,bn]);have e1:tick b 1 0=b 0:=(by simp[tick]);have L:tick b 1 3=b 3:=(by simp[tick]);rw[M,e1,L];omega),λh=>⟨(s (by simpa [tick]using h)).1,(s (by simpa [tick]using h)).2.1,by have:=(s (by simpa [tick]using h)).2.2.1;omega,(s (by simpa [tick]using h)).2.2.2.al f⟩,λ_=>⟨by omega,by omega,by omega,nv f y⟩,λh _=>(λz=>by have:=(s (by simpa [tick]using h)).2.2.1;dsimp only at z;omega),λh=>absurd (show b 3=true from(by simpa [tick]using h)) (by rw[jZ];decide)⟩;simp only[yj,jZ,gl,a,pu,Nat.reduceAdd,Nat.reduceEqDiff,reduceIte]at k;exact k
 .intro b g w A m a o rest B q
  obtain⟨x,l,s,r,C,E⟩:=A;replace a:b 2=false:=a;have u:=o 0 rfl;have d1:=o 1 rfl;simp only[u,d1,a,pu,Nat.reduceAdd,Nat.reduceEqDiff,reduceIte];refine F.aF ?_;try walk_nrm
  have k:=q g _ ⟨x,l,s,r,C,E⟩;simp only[u,d1,a,pu,Nat.reduceAdd,Nat.reduceEqDiff,reduceIte]at k;exact k
 .intro b g w A m a o rest B q
  obtain⟨x,l,s,r,C,E⟩:=A;replace a:b 3=false:=a;have d2:=o 2 rfl;have u:=m 2 0 rfl d2;have d1:=m 2 1 rfl d2;simp only[d2,u,d1,a,pu,Nat.reduceAdd,Nat.reduceEqDiff,reduceIte];have M:bn (b 0)=1:=by rw[u];rfl
  have e1:bn (b 1)=1:=by rw[d1];rfl
  have L:bn (b 3)=0:=by rw[a];rfl
  have p:w.heap.size=t+2:=by omega
  clear l;refine F.op rfl rfl (by decide) (λd K D=>?_);go_simp;rw[alloc_at'];refine D _ _ ⟨DX.alloc _ _ (λe I=>?_),?_⟩
  .have H:=mem_listed I
   simp[go_sem]at H
  clear D K d;try walk_nrm
  generalize f:World.alloc w _=N;have G:=p9 f p;have ag:CR N (t+2) g.1 g.2:=⟨aV (i:=0) f p rfl,aV (i:=1) f p rfl,aV (i:=2) f p rfl,aV (i:=3) f p rfl,aV (i:=4) f p rfl,aV (i:=5) f p rfl,aV (i:=6) f p rfl,λi=>bY f p i⟩;have k:=q g _ ⟨x.zb f,(by have W:tick b 3 0=b 0:=(by simp[tick]);have V:tick b 3 1=b 1:=(by simp[tick]);have U:bn (tick b 3 3)=1:=(by simp[tick,bn]);rw[W,V,U];omega),λ_=>⟨(s u).1,(s u).2.1,by have:=(s u).2.2.1;omega,(s u).2.2.2.al f⟩,λ_=>⟨(r d1).1,(r d1).2.1,by have:=(r d1).2.2.1;omega,(r d1).2.2.2.al f⟩,λ_ _=>C u d1,λ_=>ag⟩;simp only[d2,u,d1,a,pu,Nat.reduceAdd,Nat.reduceEqDiff,reduceIte]at k;exact k
 .intro b g w A m a o rest B q
  obtain⟨x,l,s,r,C,E⟩:=A;replace a:b 4=false:=a;have u:=o 0 rfl;have d1:=o 1 rfl;have d2:=o 2 rfl;have T:=o 3 rfl;simp only[u,d1,d2,T,a,pu,Nat.reduceAdd,Nat.reduceEqDiff,reduceIte];refine F.aF ?_;try walk_nrm
  have k:=q g _ ⟨x,l,s,r,C,E⟩;simp only[u,d1,d2,T,a,pu,Nat.reduceAdd,Nat.reduceEqDiff,reduceIte]at k;exact k
 intro b g w A j;obtain⟨x,l,s,r,C,E⟩:=A;simp only[j 0 (by decide),j 1 (by decide),j 2 (by decide),j 3 (by decide),j 4 (by decide),pu,Nat.reduceAdd,Nat.reduceEqDiff,reduceIte];have f0:=s (j 0 (by decide));have f1:=r (j 1 (by decide));have f2:=C (j 0 (by decide)) (j 1 (by decide));have f3:=E (j 3 (by decide));rw[j 0 (by decide),j 1 (by decide),j 3 (by decide)]at l;simp only[bn,if_true]at l;refine F.re ?_;refine F.ctl (λ_=>stepG_ret') ?_;refine F.bJ rfl rfl func35 (resultsC_tmp (by rfl) _) ?_;exact hc _ _ ⟨g.1,g.2,rfl,x,by omega,f0.1,f0.2.1,f1.1,f1.2.1,f2,f0.2.2.2,f1.2.2.2,f3⟩
structure mE(w:aj)(T A aR:Nat)(cl kn:Int):Prop where
 t0:w.cell? ⟨T,0,none⟩=some (.pointer (some ⟨A,0,none⟩))
 t1:w.cell? ⟨T,1,none⟩=some (.int .i64 kn)
 t2:w.cell? ⟨T,2,none⟩=some (.int .i64 cl)
 t3:w.cell? ⟨T,3,none⟩=some (.chan (some aR))
 t4:w.cell? ⟨T,4,none⟩=some (.pointer none)
 t5:w.cell? ⟨T,5,none⟩=some (.slice none 0 0)
 t6:w.cell? ⟨T,6,none⟩=some (.bool false)
 t7:w.cell? ⟨T,7,none⟩=some (.bool false)
 z4:w.frozen? ⟨T,4,none⟩=false
 z5:w.frozen? ⟨T,5,none⟩=false
 z6:w.frozen? ⟨T,6,none⟩=false
 z7:w.frozen? ⟨T,7,none⟩=false
theorem mE.kp{L:aP}{C:List Addr}{T A aR:Nat}{cl kn:Int}(h:mE w T A aR cl kn)(k:Kp L w w' C)(a:T∉L)(b:∀x∈C,x.block≠T):mE w' T A aR cl kn:=
 have c:∀i,(⟨T,i,none⟩:Addr)∉C:=λi z=>b _ z rfl
 ⟨k.cellC _ _ a (c _) h.t0,k.cellC _ _ a (c _) h.t1,k.cellC _ _ a (c _) h.t2,k.cellC _ _ a (c _) h.t3,k.cellC _ _ a (c _) h.t4,k.cellC _ _ a (c _) h.t5,k.cellC _ _ a (c _) h.t6,k.cellC _ _ a (c _) h.t7,(k.jR _ _ a (c _) h.t4).trans h.z4,(k.jR _ _ a (c _) h.t5).trans h.z5,(k.jR _ _ a (c _) h.t6).trans h.z6,(k.jR _ _ a (c _) h.t7).trans h.z7⟩
theorem b8.dx{es:dL}(D:DX Ok w w' es)(h:b8 w c):b8 w' c:=D.obj c _ h (λ_ _ _ z=>by cases z)
theorem eC.keep{R:cF}{f:FuncId}(b:∀w d,R w->R (w.at d))(l:∀w w' es,DX Ok w w' es->R w->R w')(h:eC prog main (DX Ok) f args w Post)(i:R w):
 eC prog main (DX Ok) f args w (λv w'=>Post v w'/\R w'):=λΨ F c cs hc=>
 h (λg w=>R w->Ψ g w) ⟨λg w d x a=>F.at' _ _ _ (x (show R w from b (w.at d) w.drawn a)),F.idle,F.less,λg w j x a=>F.step g w j λd=>by
  obtain⟨g',w',es,o,e,n,m⟩:=x d;exact⟨g',w',es,o,e,n (l _ _ _ e (b _ d a)),m⟩⟩ c cs (λv w' k a=>hc v w' ⟨k,a⟩) i
theorem eC.N4{f:FuncId}(h:eC prog main (DX Ok) f args w Post)(a:b8 w c):
 eC prog main (DX Ok) f args w (λv w'=>Post v w'/\b8 w' c):=h.keep (λ_ _ x=>x) (λ_ _ _ D x=>x.dx D) a
theorem F6{b i:Nat}(h:b8 w c)(hc:w.cell? ⟨b,i,none⟩=some v):c≠b:=λz=>by
 subst z;unfold b8 at h;simp only[World.cell?,h]at hc
 simp at hc
theorem HU(N A bl bo bi cl k:Nat)(at':Int)(en:ay)(es:jg)(w0:aj)(hN:N<=w0.heap.size)(lA:A<N)(he:eX N w0 en es)(Oh:es.length<900)(Z0:k<900)(p:w0.cell? ⟨A,1,none⟩=some en)(o:w0.cell? ⟨A,2,none⟩=some (.int .i64 (k:Int)))(u:w0.frozen? ⟨A,1,none⟩=false)(q:w0.frozen? ⟨A,2,none⟩=false)(o1:Ok ⟨A,1,none⟩ false)(o1w:Ok ⟨A,1,none⟩ true)(o2:Ok ⟨A,2,none⟩ false)(o2w:Ok ⟨A,2,none⟩ true)(Qa:∀(a:Addr)(wr:Bool),a.block∈bU en\/w0.heap.size<=a.block->Ok a wr):
 eC prog main (DX Ok) 36 #[.pointer (some ⟨A,0,none⟩),.int .i64 (cl:Int),.int .i64 at',.func (.func 37) #[] #[.pointer (some ⟨bl,0,none⟩),.pointer (some ⟨bo,0,none⟩),.pointer (some ⟨bi,0,none⟩)]] w0 λv w'=>∃ba bw aR T bt P oU i,v=.pointer (some ⟨T,0,none⟩)/\Kp (bU en) w0 w' [⟨A,1,none⟩,⟨A,2,none⟩]/\
  (w0.heap.size<=ba/\ba<bw/\bw<aR/\bw<T/\bw<bt/\aR<P/\T<P/\bt<P/\P<=w'.heap.size/\bt≠T/\aR≠T/\aR≠bt)/\
  w'.cell? ⟨ba,0,none⟩=some (.pointer (some ⟨A,0,none⟩))/\w'.cell? ⟨bw,0,none⟩=some (.func (.func 37) #[] #[.pointer (some ⟨bl,0,none⟩),.pointer (some ⟨bo,0,none⟩),.pointer (some ⟨bi,0,none⟩)])/\w'.cell? ⟨bt,0,none⟩=some (.pointer (some ⟨T,0,none⟩))/\mE w' T A aR (cl:Int) (k:Int)/\b8 w' aR/\
  w'.cell? ⟨A,1,none⟩=some oU/\w'.frozen? ⟨A,1,none⟩=false/\w'.cell? ⟨A,2,none⟩=some (.int .i64 ((k:Int)+1))/\w'.frozen? ⟨A,2,none⟩=false/\i<=es.length/\kP es at' i/\eX N w' oU (es.take i++(at',.func (.func 50) #[] #[.pointer (some ⟨ba,0,none⟩),.pointer (some ⟨bt,0,none⟩),.pointer (some ⟨bw,0,none⟩)])::es.drop i)/\∀g∈bU oU,g∈bU en\/P<=g:=by
 intro Ψ F c cs hc;have R:∀(a:Addr)(wr:Bool),w0.heap.size<=a.block->Ok a wr:=λa wr h=>Qa a wr (.inr h)
 have W1:∀g,g∈bU en->N<=g/\g<w0.heap.size:=λg hg=>by
  obtain⟨h1,cur,h2⟩:=he.lt (bq.1 hg);exact⟨h1,(cH.1 h2).1⟩
 have tZ:IntKind.i64.wrap 1=1:=by decide
 have aaf:IntKind.i64.wrap ((k:Int)+1)=(k:Int)+1:=by simp only[IntKind.wrap,IntKind.bits,IntKind.signed]<;>(try simp)<;>omega
 rw[enter_at _ func36 rfl];simp only[ntmps36,oP,Nat.reduceAdd,Nat.reduceSub];refine F.cw ?_;refine F.op rfl rfl (by decide) (λd K X=>?_);go_simp;rw[alloc_at'];refine X _ _ ⟨DX.alloc _ _ (λe he=>?_),?_⟩
 .have hm:=mem_listed he
  simp[go_sem]at hm
 clear X K d;try walk_nrm
 generalize Y:World.alloc w0 _=w1;generalize qV:(World.heap w0).size=n1;have Lg:=gr Y qV;replace u:=dG u p Y;replace q:=dG q o Y;replace p:=bz p Y;replace o:=bz o Y;have t:=aV (i:=0) Y qV rfl;have VN:=bY Y qV 0;try simp only[rz,rD,rC]at t
 have J:Kp [] w0 w0 []:=Kp.refl _;replace J:=J.zb Y;refine F.op rfl rfl (by decide) (λd K X=>?_);go_simp;rw[alloc_at'];refine X _ _ ⟨DX.alloc _ _ (λe he=>?_),?_⟩
 .have hm:=mem_listed he
  simp[go_sem]at hm
 clear X K d;try walk_nrm
 generalize V:World.alloc w1 _=w2;generalize Ce:(World.heap w1).size=Z;have P6:=gr V Ce;replace u:=dG u p V;replace q:=dG q o V;replace VN:=dG VN t V;replace p:=bz p V;replace o:=bz o V;replace t:=bz t V;have s:=aV (i:=0) V Ce rfl;have zbw:=bY V Ce 0;try simp only[rz,rD,rC]at s
 replace J:=J.zb V;refine F.aF ?_;try walk_nrm
 refine F.es ?_;have aal:w0.heap.size<=n1/\n1<Z:=by omega
 clear Lg P6 qV Ce Y V VN zbw;refine F.yT (γ:=Nat×Nat×Nat) (n:=11) mixed [[],[],[1],[2],[3],[],[],[0,4,5,6],[7],[],[0,1,2,3,4,5,6,7,8,9]] rfl (by kernel_rfl) (λb g=>[(10,dD (b 0) (.pointer (some ⟨A,0,none⟩)) (undef)),(11,dD (b 1) (.pointer (some ⟨A,0,none⟩)) (undef)),(12,dD (b 2) (.pointer (some ⟨A,0,none⟩)) (undef)),(13,dD (b 3) (.pointer (some ⟨A,2,none⟩)) (undef)),(14,dD (b 4) (.int .i64 (k:Int)) (undef)),(15,dD (b 5) (.int .i64 (cl:Int)) (undef)),(16,dD (b 6) (.chan (some g.1)) (undef)),(17,dD (b 7) (.agg #[.pointer (some ⟨A,0,none⟩),.int .i64 (k:Int),.int .i64 (cl:Int),.chan (some g.1),.pointer none,.slice none 0 0,.bool false,.bool false]) (undef)),(18,dD (b 8) (.pointer (some ⟨g.2.1,0,none⟩)) (undef)),(9,dD (b 9) (.pointer (some ⟨g.2.2,0,none⟩)) (undef))]) (λb g w=>(b 10=false->((Kp [] w0 w)/\(w.cell? ⟨n1,0,none⟩=some (.pointer (some ⟨A,0,none⟩)))/\(w.cell? ⟨Z,0,none⟩=some (.func (.func 37) #[] #[.pointer (some ⟨bl,0,none⟩),.pointer (some ⟨bo,0,none⟩),.pointer (some ⟨bi,0,none⟩)]))/\(w.cell? ⟨A,2,none⟩=some (.int .i64 (k:Int)))/\(w.cell? ⟨A,1,none⟩=some en)/\(w.frozen? ⟨A,2,none⟩=false)/\(w.frozen? ⟨A,1,none⟩=false)/\(b 6=true->Z<g.1/\g.1<w.heap.size/\b8 w g.1)/\(b 8=true->Z<g.2.1/\g.2.1<w.heap.size/\mE w g.2.1 A g.1 (cl:Int) (k:Int))/\(b 9=true->Z<g.2.2/\g.2.2<w.heap.size/\w.cell? ⟨g.2.2,0,none⟩=some (.pointer none)/\w.frozen? ⟨g.2.2,0,none⟩=false)/\(b 8=true->b 9=true->g.2.1≠g.2.2)))/\(b 10=true->(Kp [] w0 w/\w.cell? ⟨n1,0,none⟩=some (.pointer (some ⟨A,0,none⟩))/\w.cell? ⟨Z,0,none⟩=some (.func (.func 37) #[] #[.pointer (some ⟨bl,0,none⟩),.pointer (some ⟨bo,0,none⟩),.pointer (some ⟨bi,0,none⟩)])/\w.cell? ⟨A,2,none⟩=some (.int .i64 (k:Int))/\w.cell? ⟨A,1,none⟩=some en/\w.frozen? ⟨A,2,none⟩=false/\w.frozen? ⟨A,1,none⟩=false/\(Z<g.1/\g.1<w.heap.size/\b8 w g.1)/\(Z<g.2.1/\g.2.1<w.heap.size/\mE w g.2.1 A g.1 (cl:Int) (k:Int))/\Z<g.2.2/\g.2.2<w.heap.size/\w.cell? ⟨g.2.2,0,none⟩=some (.pointer (some ⟨g.2.1,0,none⟩))/\g.2.1≠g.2.2))) ((0,0,0)) (by simp only[pu,Nat.reduceAdd,Nat.reduceEqDiff,reduceIte]) (⟨λ_=>⟨J,t,s,o,p,q,u,λh=>(by cases h),λh=>(by cases h),λh=>(by cases h),λh=>(by cases h)⟩,λh=>by cases h⟩) (all_cons ?_ (all_cons ?_ (all_cons ?_ (all_cons ?_ (all_cons ?_ (all_cons ?_ (all_cons ?_ (all_cons ?_ (all_cons ?_ (all_cons ?_ (all_cons ?_ (all_nil)))))))))))) ?_
 .intro b g w S B j C rest W E
  obtain⟨r,D⟩:=S;replace j:b 0=false:=j;have f:=dz (B 10 0 rfl) j;obtain⟨J,t,s,o,p,q,u,O,U,M,I⟩:=r f;clear r D;simp only[f,j,pu,Nat.reduceAdd,Nat.reduceEqDiff,reduceIte];refine F.ol rfl rfl rfl λd K h=>?_;go_simp;refine h _ (λe m=>?_) ?_;simp[go_sem, *]at m;subst m;exact jB (w:=w) (by assumption) (by first|assumption|(apply R<;>dsimp only<;>omega));clear h K d;try walk_nrm
  have y:=E g _ ⟨λ_=>⟨J,t,s,o,p,q,u,O,U,M,I⟩,λh=>no f h⟩;simp only[f,j,pu,Nat.reduceAdd,Nat.reduceEqDiff,reduceIte]at y;exact y
 .intro b g w S B j C rest W E
  obtain⟨r,D⟩:=S;replace j:b 1=false:=j;have f:=dz (B 10 1 rfl) j;obtain⟨J,t,s,o,p,q,u,O,U,M,I⟩:=r f;clear r D;simp only[f,j,pu,Nat.reduceAdd,Nat.reduceEqDiff,reduceIte];refine F.ol rfl rfl rfl λd K h=>?_;go_simp;refine h _ (λe m=>?_) ?_;simp[go_sem, *]at m;subst m;exact jB (w:=w) (by assumption) (by first|assumption|(apply R<;>dsimp only<;>omega));clear h K d;try walk_nrm
  have y:=E g _ ⟨λ_=>⟨J,t,s,o,p,q,u,O,U,M,I⟩,λh=>no f h⟩;simp only[f,j,pu,Nat.reduceAdd,Nat.reduceEqDiff,reduceIte]at y;exact y
 .intro b g w S B j C rest W E
  obtain⟨r,D⟩:=S;replace j:b 2=false:=j;have d1:=C 1 rfl;have f:=dz (B 10 2 rfl) j;obtain⟨J,t,s,o,p,q,u,O,U,M,I⟩:=r f;clear r D;simp only[d1,f,j,pu,Nat.reduceAdd,Nat.reduceEqDiff,reduceIte];refine F.aF ?_;try walk_nrm
  have y:=E g _ ⟨λ_=>⟨J,t,s,o,p,q,u,O,U,M,I⟩,λh=>no f h⟩;simp only[d1,f,j,pu,Nat.reduceAdd,Nat.reduceEqDiff,reduceIte]at y;exact y
 .intro b g w S B j C rest W E
  obtain⟨r,D⟩:=S;replace j:b 3=false:=j;have d2:=C 2 rfl;have f:=dz (B 10 3 rfl) j;obtain⟨J,t,s,o,p,q,u,O,U,M,I⟩:=r f;clear r D;simp only[d2,f,j,pu,Nat.reduceAdd,Nat.reduceEqDiff,reduceIte];refine F.aF ?_;try walk_nrm
  have y:=E g _ ⟨λ_=>⟨J,t,s,o,p,q,u,O,U,M,I⟩,λh=>no f h⟩;simp only[d2,f,j,pu,Nat.reduceAdd,Nat.reduceEqDiff,reduceIte]at y;exact y
 .intro b g w S B j C rest W E
  obtain⟨r,D⟩:=S;replace j:b 4=false:=j;have d3:=C 3 rfl;have f:=dz (B 10 4 rfl) j;obtain⟨J,t,s,o,p,q,u,O,U,M,I⟩:=r f;clear r D;simp only[d3,f,j,pu,Nat.reduceAdd,Nat.reduceEqDiff,reduceIte];refine F.ol rfl rfl rfl λd K h=>?_;go_simp;refine h _ (λe m=>?_) ?_;simp[go_sem, *]at m;subst m;exact jB (w:=w) (by assumption) (by first|assumption|(apply R<;>dsimp only<;>omega));clear h K d;try walk_nrm
  have y:=E g _ ⟨λ_=>⟨J,t,s,o,p,q,u,O,U,M,I⟩,λh=>no f h⟩;simp only[d3,f,j,pu,Nat.reduceAdd,Nat.reduceEqDiff,reduceIte]at y;exact y
 .intro b g w S B j C rest W E
  obtain⟨r,D⟩:=S;replace j:b 5=false:=j;have f:=dz (B 10 5 rfl) j;obtain⟨J,t,s,o,p,q,u,O,U,M,I⟩:=r f;clear r D;simp only[f,j,pu,Nat.reduceAdd,Nat.reduceEqDiff,reduceIte];refine F.aF ?_;try walk_nrm
  have y:=E g _ ⟨λ_=>⟨J,t,s,o,p,q,u,O,U,M,I⟩,λh=>no f h⟩;simp only[f,j,pu,Nat.reduceAdd,Nat.reduceEqDiff,reduceIte]at y;exact y
 .intro b g w S B j C rest W E
  obtain⟨r,D⟩:=S;replace j:b 6=false:=j;have vU:=dz (B 7 6 rfl) j;have f:=dz (B 10 6 rfl) j;obtain⟨J,t,s,o,p,q,u,O,U,M,I⟩:=r f;clear r D;simp only[vU,f,j,pu,Nat.reduceAdd,Nat.reduceEqDiff,reduceIte];refine F.op rfl rfl (by decide) (λd K X=>?_);go_simp;rw[BU];go_simp;rw[alloc_at'];refine X _ _ ⟨DX.alloc _ _ (λe he=>?_),?_⟩
  .have hm:=mem_listed he
   simp[go_sem,BU,Ai]at hm
  clear X K d;try walk_nrm
  generalize l:World.alloc w _=w3;generalize G:(World.heap w).size=n3;have Q7:=p9 l G;have uf:Z<n3:=by have:Z<w.heap.size:=au s;omega
  have RA:b 8=false:=by
   cases hx:b 8 with
   |false=>rfl
   |true=>have h7:=B 8 7 rfl hx;have h6':=B 7 6 rfl h7;rw[show b 6=false from j]at h6';cases h6'
  have y:=E (n3,g.2) _ ⟨λ_=>⟨J.zb l,bz t l,bz s l,bz o l,bz p l,dG q o l,dG u p l,λ_=>⟨uf,(show n3<w3.heap.size by omega),nv l G⟩,λh=>absurd (show b 8=true from(by simpa [tick]using h)) (by rw[RA];decide),λh=>⟨(M (by simpa [tick]using h)).1,c7 (M (by simpa [tick]using h)).2.1 (by omega),bz (M (by simpa [tick]using h)).2.2.1 l,dG (M (by simpa [tick]using h)).2.2.2 (M (by simpa [tick]using h)).2.2.1 l⟩,λh=>absurd (show b 8=true from(by simpa [tick]using h)) (by rw[RA];decide)⟩,λh=>absurd (show b 10=true from(by simpa [tick]using h)) (by rw[f];decide)⟩;simp only[vU,f,j,pu,Nat.reduceAdd,Nat.reduceEqDiff,reduceIte]at y;exact y
 .intro b g w S B j C rest W E
  obtain⟨r,D⟩:=S;replace j:b 7=false:=j;have d0:=C 0 rfl;have d4:=C 4 rfl;have d5:=C 5 rfl;have d6:=C 6 rfl;have f:=dz (B 10 7 rfl) j;obtain⟨J,t,s,o,p,q,u,O,U,M,I⟩:=r f;clear r D;simp only[d0,d4,d5,d6,f,j,pu,Nat.reduceAdd,Nat.reduceEqDiff,reduceIte];refine F.aF ?_;try walk_nrm
  have y:=E g _ ⟨λ_=>⟨J,t,s,o,p,q,u,O,U,M,I⟩,λh=>no f h⟩;simp only[d0,d4,d5,d6,f,j,pu,Nat.reduceAdd,Nat.reduceEqDiff,reduceIte]at y;exact y
 .intro b g w S B j C rest W E
  obtain⟨r,D⟩:=S;replace j:b 8=false:=j;have d7:=C 7 rfl;have d0:=B 7 0 rfl d7;have d4:=B 7 4 rfl d7;have d5:=B 7 5 rfl d7;have d6:=B 7 6 rfl d7;have d3:=B 4 3 rfl d4;have d2:=B 3 2 rfl d3;have d1:=B 2 1 rfl d2;have f:=dz (B 10 8 rfl) j;obtain⟨J,t,s,o,p,q,u,O,U,M,I⟩:=r f;clear r D;simp only[d7,d0,d4,d5,d6,d3,d2,d1,f,j,pu,Nat.reduceAdd,Nat.reduceEqDiff,reduceIte];refine F.op rfl rfl (by decide) (λd K X=>?_);go_simp
  skip
  rw[alloc_at'];refine X _ _ ⟨DX.alloc _ _ (λe he=>?_),?_⟩
  .have hm:=mem_listed he
   simp[go_sem,BU,Ai]at hm
  clear X K d;try walk_nrm
  generalize l:World.alloc w _=w3;generalize G:(World.heap w).size=n3;have Q7:=p9 l G;have uf:Z<n3:=by have:Z<w.heap.size:=au s;omega
  have y:=E (g.1,n3,g.2.2) _ ⟨λ_=>⟨J.zb l,bz t l,bz s l,bz o l,bz p l,dG q o l,dG u p l,λh=>⟨(O (by simpa [tick]using h)).1,c7 (O (by simpa [tick]using h)).2.1 (by omega),(O (by simpa [tick]using h)).2.2.al l⟩,λ_=>⟨uf,(show n3<w3.heap.size by omega),aV (i:=0) l G rfl,aV (i:=1) l G rfl,aV (i:=2) l G rfl,aV (i:=3) l G rfl,aV (i:=4) l G rfl,aV (i:=5) l G rfl,aV (i:=6) l G rfl,aV (i:=7) l G rfl,bY l G 4,bY l G 5,bY l G 6,bY l G 7⟩,λh=>⟨(M (by simpa [tick]using h)).1,c7 (M (by simpa [tick]using h)).2.1 (by omega),bz (M (by simpa [tick]using h)).2.2.1 l,dG (M (by simpa [tick]using h)).2.2.2 (M (by simpa [tick]using h)).2.2.1 l⟩,λ_ h=>(λz=>by have:=(M (by simpa [tick]using h)).2.1;dsimp only at z;omega)⟩,λh=>absurd (show b 10=true from(by simpa [tick]using h)) (by rw[f];decide)⟩;simp only[d7,d0,d4,d5,d6,d3,d2,d1,f,j,pu,Nat.reduceAdd,Nat.reduceEqDiff,reduceIte]at y;exact y
 .intro b g w S B j C rest W E
  obtain⟨r,D⟩:=S;replace j:b 9=false:=j;have f:=dz (B 10 9 rfl) j;obtain⟨J,t,s,o,p,q,u,O,U,M,I⟩:=r f;clear r D;simp only[f,j,pu,Nat.reduceAdd,Nat.reduceEqDiff,reduceIte];refine F.op rfl rfl (by decide) (λd K X=>?_);go_simp
  skip
  rw[alloc_at'];refine X _ _ ⟨DX.alloc _ _ (λe he=>?_),?_⟩
  .have hm:=mem_listed he
   simp[go_sem,BU,Ai]at hm
  clear X K d;try walk_nrm
  generalize l:World.alloc w _=w3;generalize G:(World.heap w).size=n3;have Q7:=p9 l G;have uf:Z<n3:=by have:Z<w.heap.size:=au s;omega
  have y:=E (g.1,g.2.1,n3) _ ⟨λ_=>⟨J.zb l,bz t l,bz s l,bz o l,bz p l,dG q o l,dG u p l,λh=>⟨(O (by simpa [tick]using h)).1,c7 (O (by simpa [tick]using h)).2.1 (by omega),(O (by simpa [tick]using h)).2.2.al l⟩,λh=>⟨(U (by simpa [tick]using h)).1,c7 (U (by simpa [tick]using h)).2.1 (by omega),(U (by simpa [tick]using h)).2.2.kp (Kp.alloc (L:=[]) l) (by simp) (by simp)⟩,λ_=>⟨uf,(show n3<w3.heap.size by omega),aV (i:=0) l G rfl,bY l G 0⟩,λh _=>(λz=>by have:=(U (by simpa [tick]using h)).2.1;dsimp only at z;omega)⟩,λh=>absurd (show b 10=true from(by simpa [tick]using h)) (by rw[f];decide)⟩;simp only[f,j,pu,Nat.reduceAdd,Nat.reduceEqDiff,reduceIte]at y;exact y
 .intro b g w S B j C rest W E
  obtain⟨r,D⟩:=S;replace j:b 10=false:=j;have d0:=C 0 rfl;have d1:=C 1 rfl;have d2:=C 2 rfl;have d3:=C 3 rfl;have d4:=C 4 rfl;have d5:=C 5 rfl;have d6:=C 6 rfl;have d7:=C 7 rfl;have d8:=C 8 rfl;have d9:=C 9 rfl;obtain⟨J,t,s,o,p,q,u,O,U,M,I⟩:=r j;clear r D;simp only[d0,d1,d2,d3,d4,d5,d6,d7,d8,d9,j,pu,Nat.reduceAdd,Nat.reduceEqDiff,reduceIte];obtain⟨q1,q2,q3⟩:=O d6;obtain⟨q4,q5,q6⟩:=U d8;obtain⟨q7,q8,q9,q10⟩:=M d9;have U4:=I d8 d9;clear O U M I;have Vi:A<w.heap.size:=au p;have hAn:A<n1:=by omega
  refine F.op rfl rfl (by decide) (λd K X=>?_);go_simp;rw[setCell_at'];refine X _ _ ⟨DX.set _ (R _ _ (by dsimp only;omega)) (λe he=>?_),?_⟩
  .have hm:=mem_listed he
   simp[go_sem,storedEv,fQ,q9,q10]at hm;subst hm;exact .inl ⟨_,rfl,rfl,R _ _ (by dsimp only;omega),by simp only[iE,size_set];exact q8⟩
  clear X K d;try walk_nrm
  generalize l:World.setCell w _ _=w3;have Q7:=Fh l;have ks:=Kp.I7 l;have y:=E g _ ⟨λh=>by simp[tick]at h,λ_=>⟨J.Bv l (.inr (.inr (by dsimp only;omega))),dK t l (by simp<;>omega),dK s l (by simp<;>omega),dK o l (by simp<;>omega),dK p l (by simp<;>omega),dV q l,dV u l,⟨q1,by omega,q3.st l⟩,⟨q4,by omega,q6.kp ks (by simp) (by simp<;>omega)⟩,q7,by omega,jC q9 l,U4⟩⟩;simp only[d0,d1,d2,d3,d4,d5,d6,d7,d8,d9,j,pu,Nat.reduceAdd,Nat.reduceEqDiff,reduceIte]at y;exact y
 intro b g w S H;obtain⟨r,D⟩:=S;simp only[H 0 (by decide),H 1 (by decide),H 2 (by decide),H 3 (by decide),H 4 (by decide),H 5 (by decide),H 6 (by decide),H 7 (by decide),H 8 (by decide),H 9 (by decide),H 10 (by decide),pu,Nat.reduceAdd,Nat.reduceEqDiff,reduceIte];obtain⟨Wo,To,Tl,TC,TD,QR,QS,⟨q1,q2,q3⟩,⟨q4,q5,q6⟩,q7,q8,q9,U4⟩:=D (H 10 (by decide));clear r D H J t s o p q u;obtain⟨aR,T,bt⟩:=g;dsimp only at q1 q2 q3 q4 q5 q6 q7 q8 q9 U4 ⊢;have J:Kp (bU en) w0 w [⟨A,1,none⟩,⟨A,2,none⟩]:=Wo.old (by simp) (by simp);have kz:Kp [] w0 w [⟨A,2,none⟩]:=Wo.old (by simp) (by simp);have t:=To;have s:=Tl;have o:=TC;have p:=TD;have q:=QR;have u:=QS;have G4:=q9;have Vi:A<n1:=by omega
 clear Wo To Tl TC TD QR QS q9;refine F.dh ?_;refine F.ol rfl rfl rfl λd K h=>?_;go_simp;refine h _ (λe m=>?_) ?_;simp[go_sem, *]at m;subst m;exact jB (w:=w) (by assumption) (by first|assumption|(apply R<;>dsimp only<;>omega));clear h K d;try walk_nrm
 iterate 2 (refine F.aF ?_;try walk_nrm)
 refine F.ol rfl rfl rfl λd K h=>?_;go_simp;refine h _ (λe m=>?_) ?_;simp[go_sem, *]at m;subst m;exact jB (w:=w) (by assumption) (by first|assumption|(apply R<;>dsimp only<;>omega));clear h K d;try walk_nrm
 iterate 3 (refine F.aF ?_;try walk_nrm)
 refine F.op rfl rfl (by decide) (λd K X=>?_);go_simp;rw[setCell_at'];refine X _ _ ⟨DX.set _ (by(first|assumption|(apply R<;>dsimp only<;>omega))) (λe he=>?_),?_⟩
 .have hm:=mem_listed he
  simp[go_sem,storedEv,ey,fQ,ez,gW,fF, *]at hm;subst hm;exact .inl ⟨_,rfl,rfl,by(first|assumption|(apply R<;>dsimp only<;>omega)),by simp only[iE,size_set];first|omega|exact au (by assumption)⟩
 clear X K d;try walk_nrm
 generalize Q:World.setCell w _ _=w4;have V0:=lI Q;replace u:=dV u Q;replace q:=dV q Q;replace t:=dK t Q (by simp<;>omega);replace s:=dK s Q (by simp<;>omega);replace G4:=dK G4 Q (by simp<;>omega);replace p:=dK p Q (by simp<;>omega);replace o:=jC o Q;replace J:=J.Bv Q (by first|(left;simp;done)|(right;left;simp;done)|(right;right;dsimp only;omega));refine F.re ?_;have ks:=Kp.I7 Q;have q3:=q3.st Q;have q6:=q6.kp ks (by simp) (by simp<;>omega);have hP:w4.heap.size<=w4.heap.size:=az _;refine F.cw ?_;refine F.ol rfl rfl rfl λd K h=>?_;go_simp;refine h _ (λe m=>?_) ?_;simp[go_sem, *]at m;subst m;exact jB (w:=w4) (by assumption) (by first|assumption|(apply R<;>dsimp only<;>omega));clear h K d;try walk_nrm
 iterate 2 (refine F.aF ?_;try walk_nrm)
 have he4:eX N w4 en es:=Kp.bQ (kz.Bv Q (.inr (.inl (by simp)))) he λg hg=>⟨by simp,λx hx=>by have:=W1 g hg;simp at hx;subst hx;dsimp only;omega⟩
 have hs4:w0.heap.size<=w4.heap.size:=J.size;refine F.enter rfl rfl (by decide) (λ_=>run_call_body rfl func49 (by rfl) (by rfl)) (λ_=>events_call_body rfl func49 (by rfl) (by rfl) _) ?_;walk_nrm;refine(eC.N4 (FP N A at' (.func 50) #[] #[.pointer (some ⟨n1,0,none⟩),.pointer (some ⟨bt,0,none⟩),.pointer (some ⟨Z,0,none⟩)] en es w4 (by omega) lA Oh he4 p u o1 o1w (λa wr h=>Qa a wr (h.imp id λh=>by omega))) q3) _ F _ _ (λv w5 hp=>?_);obtain⟨⟨rfl,kq,oU,i,e0,epl,e1,e2,e3,e4⟩,Su⟩:=hp;have nr:∀x,w0.heap.size<=x->x∉bU en:=λx hx z=>by have:=W1 x z;omega
 have TB:A∉bU en:=λz=>by have:=W1 A z;omega
 have t:=kq.cellC _ _ (nr n1 (by omega)) (by simp<;>omega) t;have s:=kq.cellC _ _ (nr Z (by omega)) (by simp<;>omega) s;have G4:=kq.cellC _ _ (nr bt (by omega)) (by simp<;>omega) G4;have q:=(kq.jR _ _ TB (by simp<;>omega) o).trans q;have o:=kq.cellC _ _ TB (by simp<;>omega) o;have q6:=q6.kp kq (nr T (by omega)) (by simp<;>omega);have J:=J.qk kq (λx hx=>.inl hx) (λx hx=>.inl (by simp at hx;simp[hx]));have n3:=F6 Su q6.t0;have n4:=F6 Su G4;rw[bO];try walk_nrm
 refine F.dh ?_;refine F.ol rfl rfl rfl λd K h=>?_;go_simp;refine h _ (λe m=>?_) ?_;simp[go_sem, *]at m;subst m;exact jB (w:=w5) (by assumption) (by first|assumption|(apply R<;>dsimp only<;>omega));clear h K d;try walk_nrm
 refine F.aF ?_;try walk_nrm
 refine F.re ?_;refine F.ctl (λ_=>stepG_ret') ?_;refine F.bJ rfl rfl func36 (resultsC_tmp (by rfl) _) ?_;have hk5:=kq.size;exact hc _ _ ⟨n1,Z,aR,T,bt,w4.heap.size,oU,i,rfl,J,⟨by omega,by omega,by omega,by omega,by omega,by omega,by omega,by omega,hk5,λz=>U4 z.symm,n3,n4⟩,t,s,G4,q6,Su,e1,e2,o,q,e0,epl,e3,e4⟩
end Go.Proofs.YtobagnjnbmgidaaGreatDoor
