import Derived.Test.YtobagnjnbmgidaaGreatDoorX30
import Derived.Test.YtobagnjnbmgidaaGreatDoorA1
import Derived.Deep.AppendSrc
import Derived.Laws.IdiomCopy
set_option linter.all false
set_option maxHeartbeats 0
set_option maxRecDepth 100000
namespace Go.Proofs.YtobagnjnbmgidaaGreatDoor
open Tryz Go.Conc Go.RowKit
variable{H ca:Addr}{V:Ev0}{num pd pr si:Int}{y:ju}{B' N T b5 S c cap d e g j l lb m n nb q sc O Y Q x:Nat}{r r0:aH}{α:Type}{C R:aW}{D cf:aC}{h wi:ay}{v:eX}{Post:qz}{es:jl}{L:iy}{ON:eP}{args:gd}{news olds vs:iO}
variable{J:Bool}{Ok Wy:dh}{Ψ:gi}{b:aC}{a:Act}{k:eC}{cs:cO}{w w':aj}{ops:g8}{i B t:Nat}{U:aN}{o:Oper}{M:aW}{γ:Type}{I:PK}{P:aG}{E:TE γ}
def bn(b:Bool):Nat:=if b then 1 else 0
def gw(w:aj)(c:Nat):Prop:=w.heap[c]? =some (.chan 0 #[] false 0 0 false)
def gw.al{o:Obj}(h:gw w c)(e:w.alloc o=w'):gw w' c:=by
 subst e;unfold gw;rw[Below.heap_alloc _ _ _ (cU.1 h).1];exact h
def gw.st{a:Addr}{v:ay}(h:gw w c)(e:w.setCell a v=w'):gw w' c:=by
 subst e;unfold gw at h ⊢;simp only[World.setCell,sU,h];simp
structure BV(w:aj)(A wc ec:Nat):Prop where
 a0:w.cell? ⟨A,0,none⟩=some (.int .i64 0)
 a1:w.cell? ⟨A,1,none⟩=some (.slice none 0 0)
 a2:w.cell? ⟨A,2,none⟩=some (.int .i64 0)
 a3:w.cell? ⟨A,3,none⟩=some (.chan (some wc))
 a4:w.cell? ⟨A,4,none⟩=some (.chan (some ec))
 a5:w.cell? ⟨A,5,none⟩=some (.int .u64 0)
 a6:w.cell? ⟨A,6,none⟩=some (.int .u32 0)
 z:∀i,w.frozen? ⟨A,i,none⟩=false
def vM(p:aj):
 fG prog J (DX Ok) 35 #[] p λv w'=>∃D I,v=.pointer (some ⟨p.heap.size+2,0,none⟩)/\Kp [] p w'/\w'.heap.size=p.heap.size+3/\p.heap.size<=D/\D<p.heap.size+2/\p.heap.size<=I/\I<p.heap.size+2/\D≠I/\gw w' D/\gw w' I/\BV w' (p.heap.size+2) D I:=by
 intro Ψ F c cs W;generalize Q:p.heap.size=s at W;have c:s<=p.heap.size/\p.heap.size<=s:=ω
 clear Q;simp only[enter_at _ func35 rfl,ntmps35];walk_nrm;have t:Kp [] p p:=Kp.refl _;have k:s+(bn false+bn false+bn false)<=p.heap.size/\p.heap.size<=s+(bn false+bn false+bn false):=by simp[bn];omega
 refine F.cF ?_;refine F.aJ ?_;refine F.es ?_;refine F.yw (γ:=Nat×Nat) (n:=5) mixed [[],[],[0,1],[2],[0,1,2,3]] rfl ρ (λb g=>[(1,dB (b 0) (.chan (some g.1)) (undef)),(2,dB (b 1) (.chan (some g.2)) (undef)),(3,dB (b 2) (.agg #[.int .i64 0,.slice none 0 0,.int .i64 0,.chan (some g.1),.chan (some g.2),.int .u64 0,.int .u32 0]) (undef)),(4,dB (b 3) (.pointer (some ⟨s+2,0,none⟩)) (undef)),(0,dB (b 4) (.pointer (some ⟨s+2,0,none⟩)) (.pointer none))]) (λb g w=>(Kp [] p w)/\(s+(bn (b 0)+bn (b 1)+bn (b 3))<=w.heap.size/\w.heap.size<=s+(bn (b 0)+bn (b 1)+bn (b 3)))/\(b 0=true->s<=g.1/\g.1<s+2/\g.1<w.heap.size/\gw w g.1)/\(b 1=true->s<=g.2/\g.2<s+2/\g.2<w.heap.size/\gw w g.2)/\(b 0=true->b 1=true->g.1≠g.2)/\(b 3=true->BV w (s+2) g.1 g.2)) ((0,0)) φ (⟨t,k,nofun,nofun,nofun,nofun⟩) (all_cons ?_ (all_cons ?_ (all_cons ?_ (all_cons ?_ (all_cons ?_ (all_nil)))))) ?_
 .intro b g w y l a m U A o;let⟨t,k,r,q,B,C⟩:=y;replace a:b 0=false:=a;have xR:=dy (l 2 0 rfl) a;have Yl:=dy (l 3 2 rfl) xR;have gD:=dy (l 4 0 rfl) a;simp only[xR,Yl,gD,a,pu,Nat.reduceAdd,Nat.reduceEqDiff,reduceIte];have T:bn (b 1)<=1:=by simp only[bn];split<;>omega
  have V:bn (b 3)=0:=χ
  have G:bn (b 0)=0:=χ
  refine F.op rfl rfl δ (λd K H=>?_);go_simp;rw[ID];go_simp;rw[alloc_at'];refine H _ _ ⟨DX.alloc _ _ (λe S=>?_),?_⟩
  .have R:=mem_listed S;simp[go_sem,ID,Ky]at R
  clear H K d;try walk_nrm
  generalize f:World.alloc w _=O;generalize x:(World.heap w).size=P;have E:=rC f x;have j:=o (P,g.2) _ ⟨t.yT f,(by have N:bn (tick b 0 0)=1:=φ;have M:tick b 0 1=b 1:=(by simp[tick]);have L:tick b 0 3=b 3:=(by simp[tick]);rw[N,M,L];omega),λ_=>⟨ω,ω,ω,ny f x⟩,λh=>⟨(q (by simpa [tick]using h)).1,(q (by simpa [tick]using h)).2.1,by have:=(q (by simpa [tick]using h)).2.2.1;omega,(q (by simpa [tick]using h)).2.2.2.al f⟩,λ_ h=>(λz=>by have:=(q (by simpa [tick]using h)).2.2.1;omega),λh=>absurd (show b 3=true from(by simpa [tick]using h)) χ⟩;simp only[xR,Yl,gD,a,pu,Nat.reduceAdd,Nat.reduceEqDiff,reduceIte]at j;exact j
 .intro b g w y l a m U A o;let⟨t,k,r,q,B,C⟩:=y;replace a:b 1=false:=a;have xR:=dy (l 2 1 rfl) a;have Yl:=dy (l 3 2 rfl) xR;have gD:=dy (l 4 1 rfl) a;simp only[xR,Yl,gD,a,pu,Nat.reduceAdd,Nat.reduceEqDiff,reduceIte];have T:bn (b 0)<=1:=by simp only[bn];split<;>omega
  have V:bn (b 3)=0:=χ
  have G:bn (b 1)=0:=χ
  refine F.op rfl rfl δ (λd K H=>?_);go_simp;rw[ID];go_simp;rw[alloc_at'];refine H _ _ ⟨DX.alloc _ _ (λe S=>?_),?_⟩
  .have R:=mem_listed S;simp[go_sem,ID,Ky]at R
  clear H K d;try walk_nrm
  generalize f:World.alloc w _=O;generalize x:(World.heap w).size=P;have E:=rC f x;have j:=o (g.1,P) _ ⟨t.yT f,(by have N:bn (tick b 1 1)=1:=φ;have M:tick b 1 0=b 0:=(by simp[tick]);have L:tick b 1 3=b 3:=(by simp[tick]);rw[N,M,L];omega),λh=>⟨(r (by simpa [tick]using h)).1,(r (by simpa [tick]using h)).2.1,by have:=(r (by simpa [tick]using h)).2.2.1;omega,(r (by simpa [tick]using h)).2.2.2.al f⟩,λ_=>⟨ω,ω,ω,ny f x⟩,λh _=>(λz=>by have:=(r (by simpa [tick]using h)).2.2.1;omega),λh=>absurd (show b 3=true from(by simpa [tick]using h)) χ⟩;simp only[xR,Yl,gD,a,pu,Nat.reduceAdd,Nat.reduceEqDiff,reduceIte]at j;exact j
 .intro b g w y l a m U A o;let⟨t,k,r,q,B,C⟩:=y;replace a:b 2=false:=a;have u:=m 0 rfl;have d1:=m 1 rfl;simp only[u,d1,a,pu,Nat.reduceAdd,Nat.reduceEqDiff,reduceIte];refine F.aJ ?_;have j:=o g _ ⟨t,k,r,q,B,C⟩;simp only[u,d1,a,pu,Nat.reduceAdd,Nat.reduceEqDiff,reduceIte]at j;exact j
 .intro b g w y l a m U A o;let⟨t,k,r,q,B,C⟩:=y;replace a:b 3=false:=a;have d2:=m 2 rfl;have u:=l 2 0 rfl d2;have d1:=l 2 1 rfl d2;simp only[d2,u,d1,a,pu,Nat.reduceAdd,Nat.reduceEqDiff,reduceIte];have N:bn (b 0)=1:=by rw[u];rfl
  have M:bn (b 1)=1:=by rw[d1];rfl
  have L:bn (b 3)=0:=χ
  have n:w.heap.size=s+2:=ω
  clear k;refine F.GV ?_;generalize f:World.alloc w _=O;have E:=rC f n;have h:BV O (s+2) g.1 g.2:=⟨aY (i:=0) f n rfl,aY (i:=1) f n rfl,aY (i:=2) f n rfl,aY (i:=3) f n rfl,aY (i:=4) f n rfl,aY (i:=5) f n rfl,aY (i:=6) f n rfl,λi=>cy f n i⟩;have j:=o g _ ⟨t.yT f,(by have e:tick b 3 0=b 0:=(by simp[tick]);have d:tick b 3 1=b 1:=(by simp[tick]);have c:bn (tick b 3 3)=1:=φ;rw[e,d,c];omega),λ_=>⟨(r u).1,(r u).2.1,χ,(r u).2.2.2.al f⟩,λ_=>⟨(q d1).1,(q d1).2.1,χ,(q d1).2.2.2.al f⟩,λ_ _=>B u d1,λ_=>h⟩;simp only[d2,u,d1,a,pu,Nat.reduceAdd,Nat.reduceEqDiff,reduceIte]at j;exact j
 .intro b g w y l a m U A o;let⟨t,k,r,q,B,C⟩:=y;replace a:b 4=false:=a;have u:=m 0 rfl;have d1:=m 1 rfl;have d2:=m 2 rfl;have c:=m 3 rfl;simp only[u,d1,d2,c,a,pu,Nat.reduceAdd,Nat.reduceEqDiff,reduceIte];refine F.aJ ?_;have j:=o g _ ⟨t,k,r,q,B,C⟩;simp only[u,d1,d2,c,a,pu,Nat.reduceAdd,Nat.reduceEqDiff,reduceIte]at j;exact j
 intro b g w y b;let⟨t,k,r,q,B,C⟩:=y;simp only[b 0 δ,b 1 δ,b 2 δ,b 3 δ,b 4 δ,pu,Nat.reduceAdd,Nat.reduceEqDiff,reduceIte];have f0:=r (b 0 δ);have f1:=q (b 1 δ);have f2:=B (b 0 δ) (b 1 δ);have f3:=C (b 3 δ);rw[b 0 δ,b 1 δ,b 3 δ]at k;simp only[bn,if_true]at k;refine F.tC func35 ?_;exact W _ _ ⟨g.1,g.2,rfl,t,ω,f0.1,f0.2.1,f1.1,f1.2.1,f2,f0.2.2.2,f1.2.2.2,f3⟩
structure mz(w:aj)(T A Y:Nat)(cl kn:Int):Prop where
 t0:w.cell? ⟨T,0,none⟩=some (.pointer (some ⟨A,0,none⟩))
 t1:w.cell? ⟨T,1,none⟩=some (.int .i64 kn)
 t2:w.cell? ⟨T,2,none⟩=some (.int .i64 cl)
 t3:w.cell? ⟨T,3,none⟩=some (.chan (some Y))
 t4:w.cell? ⟨T,4,none⟩=some (.pointer none)
 t5:w.cell? ⟨T,5,none⟩=some (.slice none 0 0)
 t6:w.cell? ⟨T,6,none⟩=some (.bool false)
 t7:w.cell? ⟨T,7,none⟩=some (.bool false)
 z4:w.frozen? ⟨T,4,none⟩=false
 z5:w.frozen? ⟨T,5,none⟩=false
 z6:w.frozen? ⟨T,6,none⟩=false
 z7:w.frozen? ⟨T,7,none⟩=false
def mz.kp{L:aN}{C:List Addr}{A:Nat}{b kn:Int}(h:mz w T A Y b kn)(k:Kp L w w' C)(a:T∉L)(d:∀x∈C,x.block≠T):mz w' T A Y b kn:=
 have c:∀i,(⟨T,i,none⟩:Addr)∉C:=λi z=>d _ z rfl
 ⟨k.cellC _ _ a (c _) h.t0,k.cellC _ _ a (c _) h.t1,k.cellC _ _ a (c _) h.t2,k.cellC _ _ a (c _) h.t3,k.cellC _ _ a (c _) h.t4,k.cellC _ _ a (c _) h.t5,k.cellC _ _ a (c _) h.t6,k.cellC _ _ a (c _) h.t7,(k.Q6 _ _ a (c _) h.t4).trans h.z4,(k.Q6 _ _ a (c _) h.t5).trans h.z5,(k.Q6 _ _ a (c _) h.t6).trans h.z6,(k.Q6 _ _ a (c _) h.t7).trans h.z7⟩
def gw.dx{es:dS}(D:DX Ok w w' es)(h:gw w c):gw w' c:=D.obj c _ h nofun
def fG.keep{R:cK}{f:FuncId}(b:∀w d,R w->R (w.at d))(j:∀w w' es,DX Ok w w' es->R w->R w')(h:fG prog J (DX Ok) f args w Post)(i:R w):
 fG prog J (DX Ok) f args w (λv w'=>Post v w'/\R w'):=λΨ F c cs f=>
 h (λg w=>R w->Ψ g w) ⟨λg w d x a=>F.at' _ _ _ (x (show R w from b (w.at d) w.drawn a)),F.idle,F.less,λg w e x a=>F.step g w e λd=>by
  let⟨l,w',es,k,e,h,g⟩:=x d;exact⟨l,w',es,k,e,h (j _ _ _ e (b _ d a)),g⟩⟩ c cs (λv w' b a=>f v w' ⟨b,a⟩) i
def fG.MW{f:FuncId}(h:fG prog J (DX Ok) f args w Post)(a:gw w c):
 fG prog J (DX Ok) f args w (λv w'=>Post v w'/\gw w' c):=h.keep (λ_ _ x=>x) (λ_ _ _ D x=>x.dx D) a
def MD{b:Nat}{v:ay}(h:gw w c)(a:w.cell? ⟨b,i,none⟩=some v):c≠b:=λz=>by
 subst z;unfold gw at h;simp only[World.cell?,h]at a;simp at a
def GS(ff N A bl bo bi cl k:Nat)(at':Int)(en:ay)(es:jl)(M:aj)(hN:N<=M.heap.size)(lA:A<N)(he:fZ N M en es)(To:es.length<1000000)(Tt:k<1000000)(n:M.cell? ⟨A,1,none⟩=some en)(m:M.cell? ⟨A,2,none⟩=some (.int .i64 (k:Int)))(s:M.frozen? ⟨A,1,none⟩=false)(o:M.frozen? ⟨A,2,none⟩=false)(o1:Ok ⟨A,1,none⟩ false)(ZO:Ok ⟨A,1,none⟩ true)(o2:Ok ⟨A,2,none⟩ false)(o2w:Ok ⟨A,2,none⟩ true)(W8:∀(a:Addr)(wr:Bool),a.block∈cw en\/M.heap.size<=a.block->Ok a wr):
 fG prog J (DX Ok) 36 #[.pointer (some ⟨A,0,none⟩),.int .i64 (cl:Int),.int .i64 at',.func (.func ff) #[] #[.pointer (some ⟨bl,0,none⟩),.pointer (some ⟨bo,0,none⟩),.pointer (some ⟨bi,0,none⟩)]] M λv w'=>∃ba bw Y T S P tP i,v=.pointer (some ⟨T,0,none⟩)/\Kp (cw en) M w' [⟨A,1,none⟩,⟨A,2,none⟩]/\
  (M.heap.size<=ba/\ba<bw/\bw<Y/\bw<T/\bw<S/\Y<P/\T<P/\S<P/\P<=w'.heap.size/\S≠T/\Y≠T/\Y≠S)/\
  w'.cell? ⟨ba,0,none⟩=some (.pointer (some ⟨A,0,none⟩))/\w'.cell? ⟨bw,0,none⟩=some (.func (.func ff) #[] #[.pointer (some ⟨bl,0,none⟩),.pointer (some ⟨bo,0,none⟩),.pointer (some ⟨bi,0,none⟩)])/\w'.cell? ⟨S,0,none⟩=some (.pointer (some ⟨T,0,none⟩))/\mz w' T A Y (cl:Int) (k:Int)/\gw w' Y/\
  w'.cell? ⟨A,1,none⟩=some tP/\w'.frozen? ⟨A,1,none⟩=false/\w'.cell? ⟨A,2,none⟩=some (.int .i64 ((k:Int)+1))/\w'.frozen? ⟨A,2,none⟩=false/\i<=es.length/\iM es at' i/\fZ N w' tP (es.take i++(at',.func (.func 50) #[] #[.pointer (some ⟨ba,0,none⟩),.pointer (some ⟨S,0,none⟩),.pointer (some ⟨bw,0,none⟩)])::es.drop i)/\∀g∈cw tP,g∈cw en\/P<=g:=by
 intro Ψ F c cs hc;have Hh:∀(a:Addr)(wr:Bool),M.heap.size<=a.block->Ok a wr:=λa wr h=>W8 a wr (.inr h);have c:∀g,g∈cw en->N<=g/\g<M.heap.size:=λg hg=>by
  let⟨_,_,c⟩:=he.lt (bS.1 hg);grind
 have c:IntKind.i64.wrap 1=1:=δ
 have c:IntKind.i64.wrap ((k:Int)+1)=(k:Int)+1:=by simp only[IntKind.wrap,IntKind.bits,IntKind.signed]<;>(try simp)<;>omega
 simp only[enter_at _ func36 rfl,ntmps36];walk_nrm;refine F.cF ?_;refine F.GV ?_;generalize W:World.alloc M _=w1;generalize CH:(World.heap M).size=n1;have T8:=gH W CH;replace s:=dP s n W;replace o:=dP o m W;replace n:=bN n W;replace m:=bN m W;have r:=aY (i:=0) W CH rfl;have TX:=cy W CH 0;try simp only[sS,sW,sV]at r
 have G:Kp [] M M []:=Kp.refl _;replace G:=G.yT W;refine F.GV ?_;generalize R:World.alloc w1 _=c;generalize QC:(World.heap w1).size=X;have P:=gH R QC;replace s:=dP s n R;replace o:=dP o m R;replace TX:=dP TX r R;replace n:=bN n R;replace m:=bN m R;replace r:=bN r R;have q:=aY (i:=0) R QC rfl;have c:=cy R QC 0;try simp only[sS,sW,sV]at q
 replace G:=G.yT R;refine F.aJ ?_;refine F.es ?_;have abj:M.heap.size<=n1/\n1<X:=ω
 clear T8 P CH QC W R TX c;refine F.yw (γ:=Nat×Nat×Nat) (n:=11) mixed [[],[],[1],[2],[3],[],[],[0,4,5,6],[7],[],[0,1,2,3,4,5,6,7,8,9]] rfl ρ (λb g=>[(10,dB (b 0) (.pointer (some ⟨A,0,none⟩)) (undef)),(11,dB (b 1) (.pointer (some ⟨A,0,none⟩)) (undef)),(12,dB (b 2) (.pointer (some ⟨A,0,none⟩)) (undef)),(13,dB (b 3) (.pointer (some ⟨A,2,none⟩)) (undef)),(14,dB (b 4) (.int .i64 (k:Int)) (undef)),(15,dB (b 5) (.int .i64 (cl:Int)) (undef)),(16,dB (b 6) (.chan (some g.1)) (undef)),(17,dB (b 7) (.agg #[.pointer (some ⟨A,0,none⟩),.int .i64 (k:Int),.int .i64 (cl:Int),.chan (some g.1),.pointer none,.slice none 0 0,.bool false,.bool false]) (undef)),(18,dB (b 8) (.pointer (some ⟨g.2.1,0,none⟩)) (undef)),(9,dB (b 9) (.pointer (some ⟨g.2.2,0,none⟩)) (undef))]) (λb g w=>(b 10=false->((Kp [] M w)/\(w.cell? ⟨n1,0,none⟩=some (.pointer (some ⟨A,0,none⟩)))/\(w.cell? ⟨X,0,none⟩=some (.func (.func ff) #[] #[.pointer (some ⟨bl,0,none⟩),.pointer (some ⟨bo,0,none⟩),.pointer (some ⟨bi,0,none⟩)]))/\(w.cell? ⟨A,2,none⟩=some (.int .i64 (k:Int)))/\(w.cell? ⟨A,1,none⟩=some en)/\(w.frozen? ⟨A,2,none⟩=false)/\(w.frozen? ⟨A,1,none⟩=false)/\(b 6=true->X<g.1/\g.1<w.heap.size/\gw w g.1)/\(b 8=true->X<g.2.1/\g.2.1<w.heap.size/\mz w g.2.1 A g.1 (cl:Int) (k:Int))/\(b 9=true->X<g.2.2/\g.2.2<w.heap.size/\w.cell? ⟨g.2.2,0,none⟩=some (.pointer none)/\w.frozen? ⟨g.2.2,0,none⟩=false)/\(b 8=true->b 9=true->g.2.1≠g.2.2)))/\(b 10=true->(Kp [] M w/\w.cell? ⟨n1,0,none⟩=some (.pointer (some ⟨A,0,none⟩))/\w.cell? ⟨X,0,none⟩=some (.func (.func ff) #[] #[.pointer (some ⟨bl,0,none⟩),.pointer (some ⟨bo,0,none⟩),.pointer (some ⟨bi,0,none⟩)])/\w.cell? ⟨A,2,none⟩=some (.int .i64 (k:Int))/\w.cell? ⟨A,1,none⟩=some en/\w.frozen? ⟨A,2,none⟩=false/\w.frozen? ⟨A,1,none⟩=false/\(X<g.1/\g.1<w.heap.size/\gw w g.1)/\(X<g.2.1/\g.2.1<w.heap.size/\mz w g.2.1 A g.1 (cl:Int) (k:Int))/\X<g.2.2/\g.2.2<w.heap.size/\w.cell? ⟨g.2.2,0,none⟩=some (.pointer (some ⟨g.2.1,0,none⟩))/\g.2.1≠g.2.2))) ((0,0,0)) (by simp only[pu,Nat.reduceAdd,Nat.reduceEqDiff,reduceIte]) (⟨λ_=>⟨G,r,q,m,n,o,s,nofun,nofun,nofun,nofun⟩,nofun⟩) (all_cons ?_ (all_cons ?_ (all_cons ?_ (all_cons ?_ (all_cons ?_ (all_cons ?_ (all_cons ?_ (all_cons ?_ (all_cons ?_ (all_cons ?_ (all_cons ?_ (all_nil)))))))))))) ?_
 .intro b g w O u j y U V C;let⟨p,B⟩:=O;replace j:b 0=false:=j;have f:=dy (u 10 0 rfl) j;let⟨G,r,q,m,n,o,s,I,Q,H,E⟩:=p f;clear p B;simp only[f,j,pu,Nat.reduceAdd,Nat.reduceEqDiff,reduceIte];refine F.Ym ?_;have t:=C g _ ⟨λ_=>⟨G,r,q,m,n,o,s,I,Q,H,E⟩,λh=>no f h⟩;simp only[f,j,pu,Nat.reduceAdd,Nat.reduceEqDiff,reduceIte]at t;exact t
 .intro b g w O u j y U V C;let⟨p,B⟩:=O;replace j:b 1=false:=j;have f:=dy (u 10 1 rfl) j;let⟨G,r,q,m,n,o,s,I,Q,H,E⟩:=p f;clear p B;simp only[f,j,pu,Nat.reduceAdd,Nat.reduceEqDiff,reduceIte];refine F.Ym ?_;have t:=C g _ ⟨λ_=>⟨G,r,q,m,n,o,s,I,Q,H,E⟩,λh=>no f h⟩;simp only[f,j,pu,Nat.reduceAdd,Nat.reduceEqDiff,reduceIte]at t;exact t
 .intro b g w O u j y U V C;let⟨p,B⟩:=O;replace j:b 2=false:=j;have d1:=y 1 rfl;have f:=dy (u 10 2 rfl) j;let⟨G,r,q,m,n,o,s,I,Q,H,E⟩:=p f;clear p B;simp only[d1,f,j,pu,Nat.reduceAdd,Nat.reduceEqDiff,reduceIte];refine F.aJ ?_;have t:=C g _ ⟨λ_=>⟨G,r,q,m,n,o,s,I,Q,H,E⟩,λh=>no f h⟩;simp only[d1,f,j,pu,Nat.reduceAdd,Nat.reduceEqDiff,reduceIte]at t;exact t
 .intro b g w O u j y U V C;let⟨p,B⟩:=O;replace j:b 3=false:=j;have d2:=y 2 rfl;have f:=dy (u 10 3 rfl) j;let⟨G,r,q,m,n,o,s,I,Q,H,E⟩:=p f;clear p B;simp only[d2,f,j,pu,Nat.reduceAdd,Nat.reduceEqDiff,reduceIte];refine F.aJ ?_;have t:=C g _ ⟨λ_=>⟨G,r,q,m,n,o,s,I,Q,H,E⟩,λh=>no f h⟩;simp only[d2,f,j,pu,Nat.reduceAdd,Nat.reduceEqDiff,reduceIte]at t;exact t
 .intro b g w O u j y U V C;let⟨p,B⟩:=O;replace j:b 4=false:=j;have d3:=y 3 rfl;have f:=dy (u 10 4 rfl) j;let⟨G,r,q,m,n,o,s,I,Q,H,E⟩:=p f;clear p B;simp only[d3,f,j,pu,Nat.reduceAdd,Nat.reduceEqDiff,reduceIte];refine F.Ym ?_;have t:=C g _ ⟨λ_=>⟨G,r,q,m,n,o,s,I,Q,H,E⟩,λh=>no f h⟩;simp only[d3,f,j,pu,Nat.reduceAdd,Nat.reduceEqDiff,reduceIte]at t;exact t
 .intro b g w O u j y U V C;let⟨p,B⟩:=O;replace j:b 5=false:=j;have f:=dy (u 10 5 rfl) j;let⟨G,r,q,m,n,o,s,I,Q,H,E⟩:=p f;clear p B;simp only[f,j,pu,Nat.reduceAdd,Nat.reduceEqDiff,reduceIte];refine F.aJ ?_;have t:=C g _ ⟨λ_=>⟨G,r,q,m,n,o,s,I,Q,H,E⟩,λh=>no f h⟩;simp only[f,j,pu,Nat.reduceAdd,Nat.reduceEqDiff,reduceIte]at t;exact t
 .intro b g w O u j y U V C;let⟨p,B⟩:=O;replace j:b 6=false:=j;have vN:=dy (u 7 6 rfl) j;have f:=dy (u 10 6 rfl) j;let⟨G,r,q,m,n,o,s,I,Q,H,E⟩:=p f;clear p B;simp only[vN,f,j,pu,Nat.reduceAdd,Nat.reduceEqDiff,reduceIte];refine F.op rfl rfl δ (λd K Z=>?_);go_simp;rw[A8];go_simp;rw[alloc_at'];refine Z _ _ ⟨DX.alloc _ _ (λe he=>?_),?_⟩
  .have hm:=mem_listed he;simp[go_sem,A8,zO]at hm
  clear Z K d;try walk_nrm
  generalize l:World.alloc w _=w3;generalize D:(World.heap w).size=n3;have T7:=rC l D;have Bl:X<n3:=by have:X<w.heap.size:=au q;omega
  have PI:b 8=false:=by
   cases hx:b 8 with
   |false=>rfl
   |true=>have c:=u 8 7 rfl hx;have XZ:=u 7 6 rfl c;rw[show b 6=false from j]at XZ;cases XZ
  have t:=C (n3,g.2) _ ⟨λ_=>⟨G.yT l,bN r l,bN q l,bN m l,bN n l,dP o m l,dP s n l,λ_=>⟨Bl,(show n3<w3.heap.size by omega),ny l D⟩,λh=>absurd (show b 8=true from(by simpa [tick]using h)) (by rw[PI];decide),λh=>⟨(H (by simpa [tick]using h)).1,ga (H (by simpa [tick]using h)).2.1 ω,bN (H (by simpa [tick]using h)).2.2.1 l,dP (H (by simpa [tick]using h)).2.2.2 (H (by simpa [tick]using h)).2.2.1 l⟩,λh=>absurd (show b 8=true from(by simpa [tick]using h)) (by rw[PI];decide)⟩,λh=>absurd (show b 10=true from(by simpa [tick]using h)) (by rw[f];decide)⟩;simp only[vN,f,j,pu,Nat.reduceAdd,Nat.reduceEqDiff,reduceIte]at t;exact t
 .intro b g w O u j y U V C;let⟨p,B⟩:=O;replace j:b 7=false:=j;have d0:=y 0 rfl;have d4:=y 4 rfl;have d5:=y 5 rfl;have d6:=y 6 rfl;have f:=dy (u 10 7 rfl) j;let⟨G,r,q,m,n,o,s,I,Q,H,E⟩:=p f;clear p B;simp only[d0,d4,d5,d6,f,j,pu,Nat.reduceAdd,Nat.reduceEqDiff,reduceIte];refine F.aJ ?_;have t:=C g _ ⟨λ_=>⟨G,r,q,m,n,o,s,I,Q,H,E⟩,λh=>no f h⟩;simp only[d0,d4,d5,d6,f,j,pu,Nat.reduceAdd,Nat.reduceEqDiff,reduceIte]at t;exact t
 .intro b g w O u j y U V C;let⟨p,B⟩:=O;replace j:b 8=false:=j;have d7:=y 7 rfl;have d0:=u 7 0 rfl d7;have d4:=u 7 4 rfl d7;have d5:=u 7 5 rfl d7;have d6:=u 7 6 rfl d7;have d3:=u 4 3 rfl d4;have d2:=u 3 2 rfl d3;have d1:=u 2 1 rfl d2;have f:=dy (u 10 8 rfl) j;let⟨G,r,q,m,n,o,s,I,Q,H,E⟩:=p f;clear p B;simp only[d7,d0,d4,d5,d6,d3,d2,d1,f,j,pu,Nat.reduceAdd,Nat.reduceEqDiff,reduceIte];refine F.op rfl rfl δ (λd K Z=>?_);go_simp
  skip
  rw[alloc_at'];refine Z _ _ ⟨DX.alloc _ _ (λe he=>?_),?_⟩
  .have hm:=mem_listed he;simp[go_sem,A8,zO]at hm
  clear Z K d;try walk_nrm
  generalize l:World.alloc w _=w3;generalize D:(World.heap w).size=n3;have T7:=rC l D;have Bl:X<n3:=by have:X<w.heap.size:=au q;omega
  have t:=C (g.1,n3,g.2.2) _ ⟨λ_=>⟨G.yT l,bN r l,bN q l,bN m l,bN n l,dP o m l,dP s n l,λh=>⟨(I ω).1,ga (I ω).2.1 ω,(I ω).2.2.al l⟩,λ_=>⟨Bl,(show n3<w3.heap.size by omega),aY (i:=0) l D rfl,aY (i:=1) l D rfl,aY (i:=2) l D rfl,aY (i:=3) l D rfl,aY (i:=4) l D rfl,aY (i:=5) l D rfl,aY (i:=6) l D rfl,aY (i:=7) l D rfl,cy l D 4,cy l D 5,cy l D 6,cy l D 7⟩,λh=>⟨(H (by simpa [tick]using h)).1,ga (H (by simpa [tick]using h)).2.1 ω,bN (H (by simpa [tick]using h)).2.2.1 l,dP (H (by simpa [tick]using h)).2.2.2 (H (by simpa [tick]using h)).2.2.1 l⟩,λ_ h=>(λz=>by have:=(H (by simpa [tick]using h)).2.1;dsimp only at z;omega)⟩,λh=>absurd (show b 10=true from(by simpa [tick]using h)) (by rw[f];decide)⟩;simp only[d7,d0,d4,d5,d6,d3,d2,d1,f,j,pu,Nat.reduceAdd,Nat.reduceEqDiff,reduceIte]at t;exact t
 .intro b g w O u j y U V C;let⟨p,B⟩:=O;replace j:b 9=false:=j;have f:=dy (u 10 9 rfl) j;let⟨G,r,q,m,n,o,s,I,Q,H,E⟩:=p f;clear p B;simp only[f,j,pu,Nat.reduceAdd,Nat.reduceEqDiff,reduceIte];refine F.op rfl rfl δ (λd K Z=>?_);go_simp
  skip
  rw[alloc_at'];refine Z _ _ ⟨DX.alloc _ _ (λe he=>?_),?_⟩
  .have hm:=mem_listed he;simp[go_sem,A8,zO]at hm
  clear Z K d;try walk_nrm
  generalize l:World.alloc w _=w3;generalize D:(World.heap w).size=n3;have T7:=rC l D;have Bl:X<n3:=by have:X<w.heap.size:=au q;omega
  have t:=C (g.1,g.2.1,n3) _ ⟨λ_=>⟨G.yT l,bN r l,bN q l,bN m l,bN n l,dP o m l,dP s n l,λh=>⟨(I (by simpa [tick]using h)).1,ga (I (by simpa [tick]using h)).2.1 ω,(I (by simpa [tick]using h)).2.2.al l⟩,λh=>⟨(Q (by simpa [tick]using h)).1,ga (Q (by simpa [tick]using h)).2.1 ω,(Q (by simpa [tick]using h)).2.2.kp (Kp.alloc (L:=[]) l) ψ ψ⟩,λ_=>⟨Bl,(show n3<w3.heap.size by omega),aY (i:=0) l D rfl,cy l D 0⟩,λh _=>(λz=>by have:=(Q (by simpa [tick]using h)).2.1;dsimp only at z;omega)⟩,λh=>absurd (show b 10=true from(by simpa [tick]using h)) (by rw[f];decide)⟩;simp only[f,j,pu,Nat.reduceAdd,Nat.reduceEqDiff,reduceIte]at t;exact t
 .intro b g w O u j y U V C;let⟨p,B⟩:=O;replace j:b 10=false:=j;have d0:=y 0 rfl;have d1:=y 1 rfl;have d2:=y 2 rfl;have d3:=y 3 rfl;have d4:=y 4 rfl;have d5:=y 5 rfl;have d6:=y 6 rfl;have d7:=y 7 rfl;have d8:=y 8 rfl;have d9:=y 9 rfl;let⟨G,r,q,m,n,o,s,I,Q,H,E⟩:=p j;clear p B;simp only[d0,d1,d2,d3,d4,d5,d6,d7,d8,d9,j,pu,Nat.reduceAdd,Nat.reduceEqDiff,reduceIte];let⟨q1,q2,q3⟩:=I d6;let⟨q4,q5,q6⟩:=Q d8;let⟨q7,q8,q9,c⟩:=H d9;have Te:=E d8 d9;clear I Q H E;have hlA:A<w.heap.size:=au n;have f:A<n1:=ω
  refine F.op rfl rfl δ (λd K Z=>?_);go_simp;rw[setCell_at'];refine Z _ _ ⟨DX.set _ (Hh _ _ (by dsimp only;omega)) (λe he=>?_),?_⟩
  .have hm:=mem_listed he;simp[go_sem,storedEv,ig,q9,c]at hm;subst hm;exact .inl ⟨_,rfl,rfl,Hh _ _ (by dsimp only;omega),by simp only[iL,size_set];exact q8⟩
  clear Z K d;try walk_nrm
  generalize l:World.setCell w _ _=w3;have T7:=Kg l;have ks:=Kp.H8 l;have t:=C g _ ⟨λh=>by simp[tick]at h,λ_=>⟨G.EH l (.inr (.inr (by dsimp only;omega))),dQ r l ψ,dQ q l Θ,dQ m l Θ,dQ n l Θ,eF o l,eF s l,⟨q1,ω,q3.st l⟩,⟨q4,ω,q6.kp ks ψ Θ⟩,q7,ω,kP q9 l,Te⟩⟩;simp only[d0,d1,d2,d3,d4,d5,d6,d7,d8,d9,j,pu,Nat.reduceAdd,Nat.reduceEqDiff,reduceIte]at t;exact t
 intro b g w O b;let⟨p,B⟩:=O;simp only[b 0 δ,b 1 δ,b 2 δ,b 3 δ,b 4 δ,b 5 δ,b 6 δ,b 7 δ,b 8 δ,b 9 δ,b 10 δ,pu,Nat.reduceAdd,Nat.reduceEqDiff,reduceIte];let⟨E,u,k,y,C,c,f,⟨q1,q2,q3⟩,⟨q4,q5,q6⟩,q7,q8,q9,Te⟩:=B (b 10 δ);clear p B b G r q m n o s;let⟨Y,T,S⟩:=g;dsimp only at q1 q2 q3 q4 q5 q6 q7 q8 q9 Te ⊢;have G:Kp (cw en) M w [⟨A,1,none⟩,⟨A,2,none⟩]:=E.old ψ ψ;have kz:Kp [] M w [⟨A,2,none⟩]:=E.old ψ ψ;have r:=u;have q:=k;have m:=y;have n:=C;have o:=c;have s:=f;have TB:=q9;have hlA:A<n1:=ω
 clear E u k y C c f q9;refine F.dA ?_;refine F.Ym ?_;iterate 2 (refine F.aJ ?_)
 refine F.Ym ?_;iterate 3 (refine F.aJ ?_)
 refine F.op rfl rfl δ (λd K Z=>?_);go_simp;rw[setCell_at'];refine Z _ _ ⟨DX.set _ (by(first|assumption|(apply Hh<;>dsimp only<;>omega))) (λe he=>?_),?_⟩
 .have hm:=mem_listed he;simp[go_sem,storedEv,fD,ig,fE,jc,gP, *]at hm;subst hm;exact .inl ⟨_,rfl,rfl,by(first|assumption|(apply Hh<;>dsimp only<;>omega)),by simp only[iL,size_set];first|omega|exact au (by assumption)⟩
 clear Z K d;try walk_nrm
 generalize L:World.setCell w _ _=w4;have b:=lu L;replace s:=eF s L;replace o:=eF o L;replace r:=dQ r L ψ;replace q:=dQ q L Θ;replace TB:=dQ TB L Θ;replace n:=dQ n L Θ;replace m:=kP m L;replace G:=G.EH L (by first|(left;simp;done)|(right;left;simp;done)|(right;right;dsimp only;omega));refine F.re ?_;have ks:=Kp.H8 L;have q3:=q3.st L;have q6:=q6.kp ks ψ Θ;have b:w4.heap.size<=w4.heap.size:=az _;refine F.cF ?_;refine F.Ym ?_;iterate 2 (refine F.aJ ?_)
 have b:fZ N w4 en es:=Kp.bA (kz.EH L (.inr (.inl ψ))) he λg hg=>⟨ψ,λx hx=>χ⟩
 have c:M.heap.size<=w4.heap.size:=G.size;refine F.uO func49 ?_;refine(fG.MW (EX N A at' (.func 50) #[] #[.pointer (some ⟨n1,0,none⟩),.pointer (some ⟨S,0,none⟩),.pointer (some ⟨X,0,none⟩)] en es w4 ω lA To b n s o1 ZO (λa wr h=>W8 a wr (h.imp id λh=>ω))) q3) _ F _ _ (λv a a=>?_);obtain⟨⟨rfl,kq,tP,i,e0,epl,e1,e2,e3,e4⟩,hq3⟩:=a;have nr:∀x,M.heap.size<=x->x∉cw en:=λx hx z=>χ
 have a:A∉cw en:=λz=>χ
 have r:=kq.cellC _ _ (nr n1 ω) ψ r;have q:=kq.cellC _ _ (nr X ω) Θ q;have TB:=kq.cellC _ _ (nr S ω) Θ TB;have o:=(kq.Q6 _ _ a Θ m).trans o;have m:=kq.cellC _ _ a Θ m;have q6:=q6.kp kq (nr T ω) Θ;have G:=G.pX kq (λx hx=>.inl hx) (λx hx=>.inl (by simp at hx;simp[hx]));have n3:=MD hq3 q6.t0;have b:=MD hq3 TB;rw[bQ];try walk_nrm
 refine F.dA ?_;refine F.Ym ?_;refine F.aJ ?_;refine F.tC func36 ?_;have a:=kq.size;exact hc _ _ ⟨n1,X,Y,T,S,w4.heap.size,tP,i,rfl,G,⟨ω,ω,ω,ω,ω,ω,ω,ω,a,λz=>Te z.symm,n3,b⟩,r,q,TB,q6,hq3,e1,e2,m,o,e0,epl,e3,e4⟩
abbrev O3(Ok:dh)(Ψ:gi)(B:Nat)(M:aW)(f:Nat)(args:gd)(v:ay):Prop:=∀(cf:aC)(cs:cO)(w':aj)(M':aW),(∀r,Has M r->Has M' r)->Sat Ok w' M'->B<=w'.heap.size->(∀w2,Sat Ok w2 M'->w'.heap.size<=w2.heap.size->Ψ (G (cf.finish v) cs) w2)->Ψ (G (Frame.enter Tryz.prog f args .normal) (cf::cs)) w'
def t152:Qc prog 152 4 1 1=true:=ρ
def t156:Qc prog 156 114 1 8=true:=ρ
def EJ(p:Qc prog t e q S=true)(r:S<=48)(w:aj)(Q:TypeId)(x:olds.length=O*q)(holds:∀a,ON=some a->∀j u,olds[j]? =some u->w.cell? (a.add j)=some u)(x:ON=none->O=0){a:Addr}(x:news.length=m*q)(d:∀j u,news[j]? =some u->w.cell? (a.add j)=some u)(D:∀u∈news,u.oneCell'=true)(C:sc<O+m)(B:(O+m)*48<=140737488355328):
 ∃n j,(Builtin.append_ #[t,t] Q #[.slice ON O sc,.slice (some a) m c]).run prog w=.ok (.slice (some ⟨w.heap.size,0,none⟩) (O+m) n) (w.drew.alloc (.cells ((olds++news).toArray++j) e))/\O+m<=n/\j.size=(n-(O+m))*q/\
  ∀ev∈(Builtin.append_ #[t,t] Q #[.slice ON O sc,.slice (some a) m c]).events prog w #[],(∃H,ev.loc=.cell H/\ev.write=false/\(H.block=a.block\/∃b,ON=some b/\H.block=b.block))\/ev=noRoomEvent:=by
 let⟨inf,z,o,v,s,_,A,y,j⟩:=kv p;have f:olds.length=O*inf.size:=ξ
 have i:news.length=m*inf.size:=ξ
 have k:(Builtin.firstCells inf.size O (.slice ON O sc)).run prog w.drew=.ok olds.toArray w.drew:=by
  cases ON with
  |none=>
   have e:olds=[]:=WC ξ;rw[e];rfl
  |some b=>exact run_firstCells_some (P:=prog) w.drew inf.size O b O sc olds f ξ
 have j:=run_firstCells_some (P:=prog) w.drew inf.size m a m c news i ξ;have f:=growslice_fits (need:=O+m) (old:=sc) (bytes:=inf.bytes) ω (by rw[A];exact aT (Nat.mul_le_mul (az _) r) B);have p:=run_append_grow_src (P:=prog) w t t Q e inf z o v s ON O sc olds k (.slice (some a) m c) m news (Src.ofSlice w o a m c news i d D) C ω f;refine⟨_,_,p,grownCap_ge w (O+m) sc e,by rw[size_zeroCells,y],λev l=>?_⟩;have f:¬(O+m<=sc):=ω
 have c:¬(9223372036854775807<((O:Int)+(m:Int))):=ω
 have d:¬(281474976710656<Builtin.nextslicecap (O+m) sc*inf.bytes):=ω
 simp[Builtin.append_,run_underlying o,sizeOf,typeInfo,zeroValue,v,s,Builtin.lenOf,f,c,d,Question.forced,k,j,newRow]at l;rcases events_firstCells_in (P:=prog) (λg=>g=a.block\/∃b,ON=some b/\g=b.block) inf.size m _ w.drew _ (λj c n e=>by
  simp_all) ev l with h|⟨H,i,f,d⟩
 .rcases events_firstCells_in (P:=prog) (λg=>g=a.block\/∃b,ON=some b/\g=b.block) inf.size O _ w.drew _ (λj c n e=>by
   simp_all) ev h with h|⟨H,i,f,d⟩
  .exact .inr (qC _ _ ev h)
  simp_all
 simp_all
def aB.Om(B:Qc prog t e q S=true)(N:S<=48)(F:aB prog J (DX Ok) Ψ)(W:ops[i]? =some o)(T:Region.wanted o (yielded ops a.tmps)=true)(E:b.kind≠.early)(s x:Operand)(r:o.op=.call {callee:=.builtin .append,args:=#[s,x],argTypes:=#[t,t]})(Q:a.eval s=.slice ON O sc)(P:a.eval x=.slice (some H) m c)(C:olds.length=O*q)(holds:∀a,ON=some a->∀j u,olds[j]? =some u->w.cell? (a.add j)=some u)(v:ON=none->O=0)(X:news.length=m*q)(f:∀j u,news[j]? =some u->w.cell? (H.add j)=some u)(h1:∀u∈news,u.oneCell'=true)(Y:sc<O+m)(u:(O+m)*48<=140737488355328)(n:∀D,ON=some D->D.block<w.heap.size/\∀a:Addr,a.block=D.block->Ok a false)(p:H.block<w.heap.size/\∀a:Addr,a.block=H.block->Ok a false)(h:∀A l j,O+m<=A->l.size=(A-(O+m))*q->w.alloc (.cells ((olds++news).toArray++l) e)=j->Ψ (G (b.at (a.put o.dst (.slice (some ⟨w.heap.size,0,none⟩) (O+m) A)) (.inRegion ops U::k)) cs) j):
 Ψ (G (b.at a (.inRegion ops (i::U)::k)) cs) w:=by
 refine F.OA W T E λd K b=>?_;let⟨A,l,a,Z,M,L⟩:=EJ B N (w.at d) o.type (ON:=ON) (sc:=sc) (a:=H) (c:=c) C holds v X f h1 Y u;have y:(w.at d).grownBy ((w.at d).drew.alloc (.cells ((olds++news).toArray++l) e)) none:=⟨rfl,rfl,rfl,ψ,λk E _=>Below.heap_alloc (w.at d).drew _ k E⟩;refine uponK_append s x t r Q P a (b _ _ ⟨WG (g:=none) (λev V=>?_) y nofun nofun,?_⟩)
 .have R:=mem_listed V;rw[events_append_op s x t r Q P]at R;rcases L ev R with ⟨b,c,f,a⟩|c
  .refine .inl ⟨b,c,rfl,?_,?_⟩
   .rw[f];rcases a with a|⟨D,a,b⟩
    .exact p.2 _ a
    .exact(n D a).2 _ b
   .refine ga ?_ y.size;rcases a with a|⟨D,a,b⟩
    .rw[a];exact p.1
    .rw[b];exact(n D a).1
  .exact .inr c
 .exact F.at' _ (w.alloc (.cells ((olds++news).toArray++l) e)) (d+1) (h A l _ Z M rfl)
def EK(a:Qc prog t e q S=true)(w:aj)(Q:TypeId)(e:ON=none->O=0){x:eP}(b:O<=sc):(Builtin.append_ #[t,t] Q #[.slice ON O sc,.slice x 0 c]).run prog w=.ok (.slice ON O sc) w/\(Builtin.append_ #[t,t] Q #[.slice ON O sc,.slice x 0 c]).events prog w #[]=#[]:=by
 let⟨inf,z,f,d,_,_,_,_,c⟩:=kv a;cases x<;>cases ON<;>simp[Builtin.append_,run_underlying f,sizeOf,typeInfo,d,Builtin.lenOf,b,Builtin.firstCells,loadCells,loadCellsFrom,storeCells]
def aB.app0(j:Qc prog t e q S=true)(F:aB prog J (DX Ok) Ψ)(y:ops[i]? =some o)(q:Region.wanted o (yielded ops a.tmps)=true)(B:b.kind≠.early)(s x:Operand)(f:o.op=.call {callee:=.builtin .append,args:=#[s,x],argTypes:=#[t,t]}){n:eP}(r:a.eval s=.slice ON O sc)(p:a.eval x=.slice n 0 c)(A:ON=none->O=0)(e:O<=sc)(h:Ψ (G (b.at (a.put o.dst (.slice ON O sc)) (.inRegion ops U::k)) cs) w):
 Ψ (G (b.at a (.inRegion ops (i::U)::k)) cs) w:=by
 refine F.OA y q B λd K b=>?_;let⟨a,m⟩:=EK j (w.at d) o.type (x:=n) (c:=c) A e;refine uponK_append s x t f r p a (b _ _ ⟨WG (g:=none) (λev v=>?_) ⟨rfl,rfl,rfl,az _,λ_ _ _=>rfl⟩ nofun nofun,F.at' _ _ _ h⟩);have u:=mem_listed v;rw[events_append_op s x t f r p,m]at u;simp at u
def Mb(o:Oper)(x d Q:Nat):Bool:=o.guard.isNone&&(match o.dst with|some d'=>d'==d|none=>false)&&(match o.op with
 |.slice t (.tmp x') (some (.const (.int .i64 l))) none none=>t==Q&&x'==x&&l==1
 |_=>false)
def HZ(h:Mb o x d Q=true):o.guard=none/\o.dst=some d/\o.op=.slice Q (.tmp x) (some (.const (.int .i64 1))) none none:=by
 unfold Mb at h;simp only[bZ]at h;let⟨⟨_,_⟩,a⟩:=h;have a:o.guard=none:=by
  simp_all
 grind
def vu(a:Qc prog Q e n S=true)(w:aj)(b:q+1<=cap):(Instr.sliceAt Q (.slice (some ca) (q+1) cap) (some (.int .i64 1)) none none).run prog w=.ok (.slice (some (if cap=1 then ca else ca.add n)) q (cap-1)) w/\
 (Instr.sliceAt Q (.slice (some ca) (q+1) cap) (some (.int .i64 1)) none none).events prog w #[]=#[]:=by
 let⟨inf,z,c,b,_,d,_,_,e⟩:=kv a;have a:(1:Int)<=(q:Int)+1:=ω
 constructor
 .simp[Instr.sliceAt,run_underlying c,Instr.slice,Instr.sliceBounds,Instr.sliceBound,asIntOf,sizeOf,typeInfo,b,d,a];grind
 .simp[Instr.sliceAt,run_underlying c,Instr.slice,Instr.sliceBounds,Instr.sliceBound,asIntOf,sizeOf,typeInfo,b,a]
def Ub(f:Qc prog Q e n S=true)(F:aB prog J (DX Ok) Ψ)(o:b.kind≠.early){E:Env}{t:eC}(x d:Nat)(m:kI t=true)(e:Mb (aQ t) x d Q=true)(p:d<N)(k:look E x=some (.slice (some ca) (q+1) cap))(h:q+1<=cap)(s:St Ok B' N E M c a w)(K:∀j,aR ((d,.slice (some (if cap=1 then ca else ca.add n)) q (cap-1))::E) N j->j.defers=a.defers->Ψ (G (b.at j (jB t)) cs) w):Ψ (G (b.at a t) cs) w:=by
 let⟨ops,i,r,I,l,d,n⟩:=dH m;let⟨r,m,i⟩:=HZ e;have b:a.eval (.tmp x)=.slice (some ca) (q+1) cap:=by rw[s.env.eval (by simp[kn,k])];simp[ev,k]
 have c:a.eval (.const (.int .i64 1))=.int .i64 1:=rfl;rw[l];refine F.AZ d (by simp[Region.wanted,r]) o (λg=>?_) λg a a=>?_
 .unfold execOp;simp only[i,fI,YU,b,c,YV,(vu f (w.at g) (ca:=ca) h).1,(vu f (w.at g) (ca:=ca) h).2,xg];rfl
 .unfold execOp;simp only[i,fI,YU,b,c,Am,(vu f (w.at g) (ca:=ca) h).1,Hv];refine a _ ?_;rw[<-n,m];exact K _ (s.env.put p) (put_defers _ _ _)
def kG{p:Nat}(a:aH)(h:nth M p=some r):nth (cG M p a) p=some a:=by rw[dX];simp[h]
def jM:∀(M:aW)(p:Nat)(a b:aH),cG (cG M p a) p b=cG M p b
 |[],_,_,_=>by simp[cG]
 |_::_,0,_,_=>by simp[cG]
 |_::M,p+1,a,b=>by simp only[cG];rw[jM M p a b]
def fU(f:Nat->α)(k:Nat):upd f k (f k)=f:=by funext j;unfold upd;split<;>simp_all
def LS.pU(y:ju)(t j:Nat)(L:LS):LS:=
 if((L.gt j).st=0/\y.b<=(L.gt j).la.length\/(L.gt j).st=2/\((L.gt j).la.length:Int)=y.e)/\over y (L.gt j).la=true then(L.aO j ((L.gt j).turn L.now 1)).say t j 9 0
 else if(L.gt j).st=2/\((L.gt j).la.length:Int)=y.e then(L.aO j ((L.gt j).turn L.now 0)).say t j 11 0 else L
def uS(h:i<L.length):dY (L.take (i+1))=dY (L.take i)+(if L.getD i false=true then 1 else 0):=by
 unfold dY;rw[List.take_add_one,mZ h,ni,mZ h];cases a:L[i]<;>simp
def Yy(L:iy):dY L<=L.length:=List.length_filter_le _ _
def pW{k:Nat}{b:Bk}{L:LS}(c:(L.tk t).q k=(L.gt k).pd)(d:¬(bq b=3\/bq b=5)):L.count y t k b=(L.aO k {L.gt k with la:=(L.gt k).keep y (decide (b.k≠1))}).pU y t k:=by
 have e:∀g:Gt,(L.aO k g).gt k=g:=λg=>by simp[LS.aO,upd]
 have b:∀g a:Gt,(L.aO k g).aO k a=L.aO k a:=λg a=>by
  unfold LS.aO;congr 1;funext j;unfold upd;by_cases h:j=k<;>simp[h]
 unfold LS.count LS.pU;rw[af (by rw[c];simp),af d];simp only[e,b];rfl
def fu.app{L:List iN}(H:fu C h L)(A:aW):fu (A++C) h L:=by
 rcases H with H|⟨ca,cap,i,b,a⟩
 .exact .inl H
 .exact .inr ⟨ca,cap,A.length+i,b,by rw[j4,af ω,D4];exact a⟩
def gO(h:nth M i=some r):r∈M:=by rw[dF]at h;grind
def lP(h:r∈M):∃i,nth M i=some r:=by
 let⟨i,a⟩:=u9 h;exact⟨i,by rw[dF];exact a⟩
def Sat.kp{C:List Addr}(h:Sat Ok w M)(k:Kp [] w w' C)(d:∀r∈M,∀j,r.has j->r.ad j∉C)(f:∀r∈M,∀g e n,r.row=some (g,e,n)->∀x∈C,x.block≠g):Sat Ok w' M:=by
 refine⟨λi r a j b=>?_,λi r a j b=>?_,h.sep,λi r a g e n c=>?_⟩
 .exact k.cellC _ _ ψ (d r (gO a) j b) (h.val i r a j b)
 .have:=h.ok i r a j b;exact⟨this.1,λz=>⟨(this.2 z).1,(k.Q6 _ _ ψ (d r (gO a) j b) (h.val i r a j b)).trans (this.2 z).2⟩⟩
 .let⟨m,l,b,j,d⟩:=h.row i r a g e n c;exact⟨m,l,b,k.blk g b e (0,0) ψ (f r (gO a) g e n c) j,d⟩
def Sat.PZ(h:Sat Ok w M)(k:Kp [] w w' []):Sat Ok w' M:=h.kp k (λ_ _ _ _=>ψ) nofun
def Sat.OB(h:Sat Ok w M)(d:∀r∈M,∀j,r.has j->Ok (r.ad j) false->Wy (r.ad j) false)(c:∀r∈M,r.wr=true->∀j,r.has j->Ok (r.ad j) true->Wy (r.ad j) true):Sat Wy w M:=by
 refine⟨h.val,λi r b j a=>?_,h.sep,h.row⟩;have:=h.ok i r b j a;exact⟨d r (gO b) j a this.1,λz=>⟨c r (gO b) z j a (this.2 z).1,(this.2 z).2⟩⟩
def Sat.dj(h:Sat Ok w M){a:aH}(d:r∈M)(b:a∈M)(g:r.wr=true)(c:a.wr=false){j j':Ix}(k:r.has j)(c:a.has j'):r.ad j≠a.ad j':=λe=>by
 let⟨i,l⟩:=lP d;let⟨f,d⟩:=lP b;obtain⟨rfl,_⟩:=h.sep i r f a l d g j j' k c e;simp_all
def Sat.blk(h:Sat Ok w M)(a:r∈M){j:Ix}(b:r.has j):(r.ad j).block<w.heap.size:=au ((h.mem a).val j b)
def l9{s:PS}{b i0:Nat}{j0:Ix}(h:Sat Ok w (pM s++C))(P:PV Ok s es)(m:Flat C)(j:nth (pM s++C) i0=some r0)(o:i0≠1)(o:i0≠3)(i:r0.has j0)(l:r0.ad j0=⟨b,0,none⟩):
 ∀r∈pM s++C,∀g e n,r.row=some (g,e,n)->b≠g:=by
 intro r c g e n a f;subst f;rcases dJ.1 c with c|c
 .simp only[pM,ak,bH,or_false]at c;rcases c with rfl|rfl|rfl|rfl|rfl|rfl|rfl
  .cases a
  .let⟨d,k,_⟩:=h.row 1 _ rfl b e n a;have:=(h.sep 1 _ i0 r0 rfl j rfl (0,0) j0 d i ξ).1;omega
  .cases a
  .let⟨d,k,_⟩:=h.row 3 _ rfl b e n a;have e:s.ea=some ⟨b,0,none⟩:=by
    rcases P.jr.row with ⟨z,_⟩|⟨g,b,_⟩
    .simp_all
    simp_all
   have:=(h.sep 3 _ i0 r0 rfl j rfl (0,0) j0 d i (by
    rw[l];show((s.ea.getD ⟨0,0,none⟩).add (0*5)).add 0=_;rw[e];rfl)).1
   omega
  .cases a
  .cases a
  .cases a
 .rw[bO.1 m r c]at a;cases a
def fu.pre{L:List iN}(x:fu C h L)(A:aW):fu (C++A) h L:=by
 rcases x with x|⟨ca,cap,i,b,a⟩
 .exact .inl x
 .exact .inr ⟨ca,cap,i,b,by rw[j4,sJ (qH _ _ _ a)];exact a⟩
def nq{b o:Nat}(h:∀j,j<vs.length->w.cell? ⟨b,o+j,none⟩=some (vs.getD j undef))(d:∀j,j<vs.length->Ok ⟨b,o+j,none⟩ false):xE Ok w (oR b o vs false):=by
 refine⟨λj a=>?_,λj a=>⟨d j.2 a.2,nofun⟩,nofun,nofun⟩;have c:j.2<vs.length:=a.2;have:=h j.2 c;cases vs with
 |nil=>cases c
 |cons z a=>exact this
def qB{b o:Nat}(h:∀j,j<vs.length->w.cell? ⟨b,o+j,none⟩=some (vs.getD j undef)/\w.frozen? ⟨b,o+j,none⟩=false)(i:∀j,j<vs.length->Ok ⟨b,o+j,none⟩ false/\Ok ⟨b,o+j,none⟩ true):xE Ok w (oR b o vs true):=by
 refine⟨λj a=>?_,λj a=>⟨(i j.2 a.2).1,λz=>⟨(i j.2 a.2).2,(h j.2 a.2).2⟩⟩,λ_ j f a d e=>?_,nofun⟩
 .have c:j.2<vs.length:=a.2;have:=(h j.2 c).1;cases vs with
  |nil=>cases c
  |cons z b=>exact this
 .have b:o+j.2=o+f.2:=cT Addr.off e;have b:j.1<1:=a.1;have c:f.1<1:=d.1;grind
def AA(F:aB prog J (DX Ok) Ψ)(hB:HB B Ok){s:PS}{ff k cl bl bo bi:Nat}{at':Int}(H:Sat Ok w (pM s++(oR s.k.A 2 [i6 k] true::C)))(E:PV Ok s es)(hC:Flat C)(O:B<=w.heap.size)(hq:es.length<1000000)(Tt:k<1000000)(K:∀N M Y T S B O i w',i<=es.length->iM es at' i->Sat Ok w' (pM {s with en:=B,eb:=O}++(oR s.k.A 2 [i6 ((k:Int)+1)] true::oR T 0 [ptr s.k.A,i6 k,i6 cl,.chan (some Y)] false::dO T (.pointer none) (.slice none 0 0) false false::oR N 0 [ptr s.k.A] false::oR M 0 [.func (.func ff) #[] #[ptr bl,ptr bo,ptr bi]] false::oR S 0 [ptr T] false::C))->
 PV Ok {s with en:=B,eb:=O} (es.take i++(at',.func (.func 50) #[] #[ptr N,ptr S,ptr M])::es.drop i)->gw w' Y->w.heap.size<=Y/\w.heap.size<=T/\T<w'.heap.size/\T≠Y->w.heap.size<=w'.heap.size->Kp (cw s.en) w w' [⟨s.k.A,1,none⟩,⟨s.k.A,2,none⟩]->Ψ (G (cf.finish (ptr T)) cs) w'):
 Ψ (G (Frame.enter prog 36 #[ptr s.k.A,i6 cl,i6 at',.func (.func ff) #[] #[ptr bl,ptr bo,ptr bi]] .normal) (cf::cs)) w:=by
 have G:=H.ok 0 _ rfl (0,1) ⟨aD,gr 1⟩;have X:=H.val 0 _ rfl (0,1) ⟨aD,gr 1⟩;have O:nth (pM s++(oR s.k.A 2 [i6 k] true::C)) 7=some (oR s.k.A 2 [i6 k] true):=rfl;have OR:=H.val 7 _ O (0,0) ⟨aD,aD⟩;have B:=H.ok 7 _ O (0,0) ⟨aD,aD⟩;have W:=au X;have he:fZ (s.k.A+1) w s.en es:=Mp (i:=1) H rfl E.en λz=>(E.eo z).1;have Q:∀g,g∈cw s.en->s.eb.c=1/\g=s.eb.E:=λg L=>by
  rcases E.en.2 with ⟨O,z2,z3⟩|⟨o,c,O,z2,_⟩
  .rw[O,bS]at L;simp[Value.ownBlock]at L
  .rw[O,bS]at L;simp[Value.ownBlock]at L;omega
 refine GS ff (s.k.A+1) s.k.A bl bo bi cl k at' s.en es w (by exact W) (gr _) he hq Tt X OR (G.2 rfl).2 (B.2 rfl).2 G.1 (G.2 rfl).1 B.1 (B.2 rfl).1 (λa wr h=>?_) Ψ F cf cs λv w' F=>?_
 .rcases h with h|h
  .let⟨O,z2⟩:=Q _ h;exact(E.eo O).2 a wr z2
  .exact hB a wr ω
 obtain⟨N,M,Y,T,S,P,A,i,rfl,hk,⟨B,B,B,B,B,B,B,B,B,B,B,B⟩,OO,TA,TB,u,mQ,c1,c2,d1,d2,R,UT,c3,c4⟩:=F;have B:(es.take i++(at',Value.func (.func 50) #[] #[ptr N,ptr S,ptr M])::es.drop i).length=es.length+1:=θ
 have B:=l9 (b:=s.k.A) H E (hC.cons rfl) (i0:=0) (j0:=(0,0)) rfl δ δ ⟨aD,(by decide:0<2)⟩ rfl;have V:Sat Ok w (bR s.k.A [i6 s.l.now,s.en]::eR s.eb::((pM s).tail.tail++C)):=H.BC (A:=pM s);have Z:∀r∈bR s.k.A [i6 s.l.now,s.en]::eR s.eb::((pM s).tail.tail++C),Dj (oR s.k.A 2 [i6 k] true) r:=by
  have:=H.perm (eY (a:=oR s.k.A 2 [i6 k] true) (l₁:=pM s) (l₂:=C));exact(iG.1 (sat_iff.1 this).2).1
 have F:∀v:Value,(oR s.k.A 2 [v] true).has (0,0):=λv=>⟨aD,aD⟩
 let⟨m,q1,q2,v,q4,q5⟩:=Sat.K6 (C':=[⟨s.k.A,2,none⟩]) V E.en (λz=>(E.eo z).1) (λa wr z=>hB a wr ω) (λz=>(E.eo z).2) (λa a=>χ) (λi r R j d z=>by
  simp only[ak,bH,or_false]at z;exact Z r (aP _ (aP _ (gO R))) (.inl rfl) (0,0) j (F _) d z.symm) hk c1 c2 c3 (λg L=>(c4 g L).imp id λz=>ω) χ (λi r g e n R L=>λz=>B r (by
  have:=gO R;rcases dJ.1 this with z|z
  .exact gU _ (aP _ (aP _ z))
  grind) g e n L z.symm)
 have a:(m.E<w.heap.size\/P<=m.E):=by
  rcases q2.2 with ⟨_,_,z⟩|⟨o,c,z,_⟩
  .omega
  .rcases c4 m.E (by rw[z,bS];rfl)with y|y
   .let⟨a,c⟩:=Q _ y;let⟨cu,c,_⟩:=wo H (i:=1) rfl a;grind
   omega
 have a:s.k.A<w.heap.size:=W;have l:∀(b o:Nat)(vs:iO)(wr:Bool),w.heap.size<=b->b<P->∀r∈bR s.k.A [i6 s.l.now,A]::eR m::((pM s).tail.tail++C),Dj (oR b o vs wr) r:=λb o vs wr h1 h2 r f _ j I d x e=>by
  have e1:b=(r.ad I).block:=cT Addr.block e;rcases ak.1 f with rfl|f
  .grind
  .rcases ak.1 f with rfl|f
   .grind
   .have:=V.blk (aP _ (aP _ f)) x;omega
 have a:∀r∈bR s.k.A [i6 s.l.now,A]::eR m::((pM s).tail.tail++C),Dj (oR s.k.A 2 [i6 ((k:Int)+1)] true) r:=λr f hw j I d x e=>by
  rcases ak.1 f with rfl|f
  .have e1:2+j.2=I.2:=cT Addr.off e;have:I.2<2:=x.2;omega
  .rcases ak.1 f with rfl|f
   .grind
   .exact Z r (aP _ (aP _ f)) (.inl rfl) j I d x e
 have t:∀(r D:aH),r.wr=false->D.wr=false->Dj r D:=λr D h1 h2 hw=>by
  grind
 have p:∀(b g o n:Nat)(vs c:iO)(wr a:Bool),b≠g->Dj (oR b o vs wr) (oR g n c a):=λb g o n vs c wr a a _ j I _ _ e=>a (cT Addr.block e);have q:∀(b o:Nat)(wr:Bool),w.heap.size<=b->Ok ⟨b,o,none⟩ wr:=λb o wr h=>hB _ _ χ;refine K N M Y T S A m i w' R UT ?_ {E with en:=q2,eo:=λ_=>⟨q4,q5⟩} mQ ⟨ω,ω,ω,ω⟩ hk.size hk;have U:Sat Ok w' ([oR s.k.A 2 [i6 ((k:Int)+1)] true,oR T 0 [ptr s.k.A,i6 k,i6 cl,.chan (some Y)] false,dO T (.pointer none) (.slice none 0 0) false false,oR N 0 [ptr s.k.A] false,oR M 0 [.func (.func ff) #[] #[ptr bl,ptr bo,ptr bi]] false,oR S 0 [ptr T] false]++(bR s.k.A [i6 s.l.now,A]::eR m::((pM s).tail.tail++C))):=by
  have a:=sat_iff.1 q1;rw[sat_iff];refine⟨λr f=>?_,YS.2 ⟨?_,a.2,λr f D a=>?_⟩⟩
  .rcases dJ.1 f with f|f
   .simp only[ak,bH,or_false]at f;rcases f with rfl|rfl|rfl|rfl|rfl|rfl
    .refine qB (λj d=>?_) (λj d=>?_)
     .have:j=0:=uj.1 d;subst this;exact⟨d1,d2⟩
     .have:j=0:=uj.1 d;subst this;grind
    .refine nq (λj d=>?_) (λj d=>q _ _ _ ω);match j,d with
     |0,_=>exact u.t0
     |1,_=>exact u.t1
     |2,_=>exact u.t2
     |3,_=>exact u.t3
    .refine qB (λj d=>?_) (λj d=>⟨q _ _ _ ω,q _ _ _ ω⟩);match j,d with
     |0,_=>exact⟨u.t4,u.z4⟩
     |1,_=>exact⟨u.t5,u.z5⟩
     |2,_=>exact⟨u.t6,u.z6⟩
     |3,_=>exact⟨u.t7,u.z7⟩
    .exact nq (λj d=>by have:j=0:=uj.1 d
                        subst this;exact OO) (λj d=>q _ _ _ ω)
    .exact nq (λj d=>by have:j=0:=uj.1 d
                        subst this;exact TA) (λj d=>q _ _ _ ω)
    .exact nq (λj d=>by have:j=0:=uj.1 d
                        subst this;exact TB) (λj d=>q _ _ _ ω)
   grind
  .simp only[iG,ak,bH,or_false,forall_eq_or_imp,forall_eq,false_implies,implies_true,and_true,List.Pairwise.nil];refine⟨⟨p _ _ _ _ _ _ _ _ ω,p _ _ _ _ _ _ _ _ ω,p _ _ _ _ _ _ _ _ ω,p _ _ _ _ _ _ _ _ ω,p _ _ _ _ _ _ _ _ ω⟩,⟨?_,t _ _ rfl rfl,t _ _ rfl rfl,t _ _ rfl rfl⟩,⟨p _ _ _ _ _ _ _ _ ω,p _ _ _ _ _ _ _ _ ω,p _ _ _ _ _ _ _ _ ω⟩,⟨t _ _ rfl rfl,t _ _ rfl rfl⟩,t _ _ rfl rfl⟩;intro _ j I d x e;have e1:0+j.2=4+I.2:=cT Addr.off e;have:j.2<4:=d.2;omega
  .simp only[ak,bH,or_false]at f;rcases f with rfl|rfl|rfl|rfl|rfl|rfl
   .grind
   .exact l _ _ _ _ ω ω D ω
   .exact l _ _ _ _ ω ω D ω
   .exact l _ _ _ _ ω ω D ω
   .exact l _ _ _ _ ω ω D ω
   .exact l _ _ _ _ ω ω D ω
 exact U.perm (fA _ (pM {s with en:=A,eb:=m}) C)
def P7(F:aB prog J (DX Ok) Ψ)(m:HB B Ok){D:aC}(b:D.kind=.normal)(e:D.fn=164){cf:aC}{cs:cO}{C:aW}{a:Int}:∀(ch:List iN)(x:iN)(q:Nat)(n:ay),Has C (oR q 0 [i6 x.k,i6 x.l,i6 x.n,n] false)->Yu C n ch->
 ∀o w l,o.defers=[]->B<=l->w.heap.size=l->St Ok l 54 [(0,.iface 168 (ptr q)),(1,.iface 171 (i6 a)),(2,.bool true)] C 0 o w->(∀w',Sat Ok w' C->w.heap.size<=w'.heap.size->Ψ (G (cf.finish (.bool ((x::ch).any λy=>y.k==a))) cs) w')->Ψ (G (D.at o (pc prog 164 6 [] [])) (cf::cs)) w
 |ch,x,q,n,t,i,o,w,l,d,r,c,k,K=>by
  replace k:=k.get t;by_cases t:x.k=a
  .have c:(x.k==a)=true:=by simpa using t
   rw[Ao,c,ue]at K;refine ZI F m b e d k 54 [0,0,0,1] 114559 [] 6 (.bool true) 44 6 [] [] [(a==x.k,true)] [] [] λf j g h=>K f j.sat.tail ω
  .have c:(x.k==a)=false:=by simpa using t
   rw[Ao,c,uh]at K;match ch,i with
   |[],i=>
    have s:n=.nilIface:=i;subst s;refine ZI F m b e d k 96 [0,0,0,1,0,0,3,1] 2047871 [] 6 (.bool false) 73 28 [] [] [(a==x.k,false)] [] [] λf j g h=>K f j.sat.tail ω
   |y::ch,i=>
    obtain⟨p,z,rfl,v,u⟩:=i;refine TP F m b d k 96 [0,0,0,1,0,0,3,1] 1523583 [] [(0,.iface 168 (ptr p)),(29,.bool (a==x.k)),(28,.iface 171 (i6 a)),(27,.iface 168 (ptr q)),(18,.bool false),(17,.iface 171 (i6 a)),(16,.iface 168 (ptr q)),(1,.iface 171 (i6 a)),(2,.bool true)] 73 20 [] [] [(a==x.k,false)] [] [] λi f j c g h d=>?_;have d:=j.dB [(0,.iface 168 (ptr p)),(1,.iface 171 (i6 a)),(2,.bool true)] ρ;rw[show pc prog 164 73 (Bo 20) []=pc prog 164 6 [] [] by kernel_rfl];exact P7 F m b e ch y p z v u i f l c r ω ⟨d.env,d.sat.tail,d.sz⟩ λw' a b=>K w' a ω
def IM(F:aB prog J (DX Ok) Ψ)(f:HB B Ok){ch:List iN}{e:ay}{a:Int}(c:Yu C e ch)(b:ch≠[])(d:Sat Ok w C)(g:B<=w.heap.size)(K:∀w',Sat Ok w' C->w.heap.size<=w'.heap.size->Ψ (G (cf.finish (.bool (ch.any λy=>y.k==a))) cs) w'):
 Ψ (G (Frame.enter prog 163 #[e,.iface 171 (i6 a)] .normal) (cf::cs)) w:=by
 match ch,c with
 |[],_=>exact absurd rfl b
 |x::ch,c=>
  obtain⟨q,m,rfl,l,k⟩:=c;refine cJ func163 d 22 λD b b b c h b e d=>Rb F f c b e 28 [] 85 [] [(20,.bool true),(19,.iface 171 (i6 a)),(18,.iface 168 (ptr q))] 28 2 [] λb b e b d d d=>ah F c b e 21 164 #[.iface 168 (ptr q),.iface 171 (i6 a),.bool true] λb d=>cJ func164 e.sat 54 λb b p b b e g j i=>Rb F f b g j 6 [] 1 [] [(0,.iface 168 (ptr q)),(1,.iface 171 (i6 a)),(2,.bool true)] 6 1 [] λn i o g j j j=>P7 F f b e ch x q m l k n i p g ω ω o λb e b=>d _ _ _ e λb b e b d=>UF F f c h b e 2 [] 1 [] 4 (.bool (List.any (x::ch) λy=>y.k==a)) 31 2 [] λa c b b=>K a c.sat ω
def zT(F:aB prog J (DX Ok) Ψ)(d:HB B Ok){b:Bk}{e:ay}(k:Yu C e b.ch)(c:b.ch≠[])(s:Sat Ok w C)(t:B<=w.heap.size)(K:∀w',Sat Ok w' C->w.heap.size<=w'.heap.size->Ψ (G (cf.finish (.bool (cE b 2||cE b 5))) cs) w'):
 Ψ (G (Frame.enter prog 158 #[e] .normal) (cf::cs)) w:=by
 obtain⟨q,r⟩:∃q,e=.iface 168 (ptr q):=by
  cases g:b.ch with
  |nil=>exact absurd g c
  |cons y ch=>rw[g]at k;let⟨q,_,h,_⟩:=k;exact⟨q,h⟩
 subst r;refine cJ func158 s 11 λD e e e a i e s r=>Rb F d a e s 8 [] 1 [] [(4,.iface 171 (i6 2)),(3,.iface 168 (ptr q)),(0,.iface 168 (ptr q))] 8 1 [] λe e r e s s s=>ah F a e r 5 163 #[.iface 168 (ptr q),.iface 171 (i6 2)] λe e=>IM F d k c r.sat ω λr t s=>e _ _ _ t λs t j f e=>?_;change St Ok t 11 ((5,.bool (cE b 2))::_) C 0 s r at j;cases h:cE b 2 with
 |true=>
  rw[h]at j K;refine UF F d a i f j 7 [] 127 [] 2 (.bool true) 16 1 [] λo l m n=>K o l.sat ω
 |false=>
  rw[h]at j K;refine Rb F d a f j 3 [] 21 [] [(8,.iface 171 (i6 5)),(6,.bool false),(7,.iface 168 (ptr q))] 12 1 [] λe o l e m n f=>ah F a e l 9 163 #[.iface 168 (ptr q),.iface 171 (i6 5)] λe e=>IM F d k c l.sat ω λf h c=>e _ _ _ h λh l p c e=>?_;change St Ok l 11 ((9,.bool (cE b 5))::_) C 0 h f at p;rw[uh]at K;refine UF F d a i c p 3 [] 1 [] 2 (.bool (cE b 5)) 16 1 [] λa c b b=>K a c.sat ω
def CU{Z:LS->Prop}{L:LS}(a:j<V.nl)(c:(V.ly j).k=1)(h:Fin V Z m (some (t,j,none)) L):∃a,m=a+1/\Fin V Z a (some (t,j+1,none)) (L.Yj t j 1):=by
 cases m with
 |zero=>exact h.elim
 |succ m=>
  let⟨_,_,_,a,b⟩:=h;have e:(j=V.nl)=False:=θ
  simp only[LS.step,e,if_false,c,if_true]at b;exact⟨m,rfl,b⟩
structure Sx(V:Ev0)(Z:LS->Prop)(m0 t j:Nat)(b:Bk)(L:LS):Prop where
 sk:qm V t L
 bk:G5 b
 an:1<=(L.tk t).a j/\(L.tk t).a j<=(V.ly j).a
 out:(b.k≠2\/cE b 2=true\/cE b 5=true)->Fin V Z m0 (some (t,j,some b)) L
 up:¬(b.k≠2\/cE b 2=true\/cE b 5=true)->(L.tk t).a j=(V.ly j).a->Fin V Z m0 (some (t,j,some ⟨2,0,⟨7,j,0⟩::b.ch⟩)) (L.say t j 4 0)
 on:¬(b.k≠2\/cE b 2=true\/cE b 5=true)->(L.tk t).a j≠(V.ly j).a->(L.tk t).x=false->0<aI (V.ly j) ((L.tk t).a j)->Fin V Z m0 none (((L.say t j 3 (aI (V.ly j) ((L.tk t).a j))).Yj t j ((L.tk t).a j+1)).wait t j (aI (V.ly j) ((L.tk t).a j)) true)
 ZN:¬(b.k≠2\/cE b 2=true\/cE b 5=true)->(L.tk t).a j≠(V.ly j).a->(L.tk t).x=false->¬0<aI (V.ly j) ((L.tk t).a j)->Fin V Z m0 (some (t,j+1,none)) ((L.say t j 3 (aI (V.ly j) ((L.tk t).a j))).Yj t j ((L.tk t).a j+1))
 dr:¬(b.k≠2\/cE b 2=true\/cE b 5=true)->(L.tk t).a j≠(V.ly j).a->(L.tk t).x=true->Fin V Z m0 (some (t,j,some (c9 5 j 0))) (((L.say t j 3 (aI (V.ly j) ((L.tk t).a j))).Yj t j ((L.tk t).a j+1)).say t j 16 0)
def CX{Z:LS->Prop}{L:LS}{b:Bk}(d:(V.ly j).k=1)(c:(L.tk t).p<=j)(h:Fin V Z m (some (t,j+1,some b)) L):∃c,m=c+1/\Sx V Z c t j b L:=by
 cases m with
 |zero=>exact h.elim
 |succ m=>
  let⟨f,_,g,c,a⟩:=h;have e:(j+1=(L.tk t).p)=False:=θ
  have i:=(c b rfl).2 ω;rw[eM]at i;refine⟨m,rfl,f,(c b rfl).1,i d,λb=>?_,λb c=>?_,λb c f g=>?_,λb c f g=>?_,λb c f=>?_⟩
  .simp only[LS.step,e,if_false,eM,d,if_true,b]at a;exact a
  .simp only[LS.step,e,if_false,eM,d,if_true,b,c]at a;exact a
  .simp only[LS.step,e,if_false,eM,d,if_true,b,c,gt_iff_lt,g,f,sP]at a;exact a
  .simp only[LS.step,e,if_false,eM,d,if_true,b,c,gt_iff_lt,g,f,sP]at a;exact a
  .simp only[LS.step,e,if_false,eM,d,if_true,b,c,f]at a;exact a
def kL{Z:LS->Prop}{a:Nat}{b:Option Bk}{L:LS}{l q n:Int}(h:Fin V Z m (some (t,j,b)) (L.say a l q n)):L.el<1000000:=by
 cases m with
 |zero=>exact h.elim
 |succ m=>have a:L.el+1<1000000:=h.1.el
          omega
def lI{c d:Int}(e:1<=c)(b:0<=d):∀(m:Nat)(p:Int),0<=p->min (dN c d (m+1) p) d=min (min (dN c d m p) d*c) d/\0<=dN c d m p
 |0,p,a=>by
  refine⟨?_,a⟩;show min (if p<=d then p*c else p) d=min (min p d*c) d;by_cases h:p<=d
  .grind
  .rw[af h,Au ω];have f:d<=d*c:=by have:=WB e b;omega
   omega
 |m+1,p,a=>by
  have i:dN c d (m+2) p=if p<=d then dN c d (m+1) (p*c)else p:=rfl;have g:dN c d (m+1) p=if p<=d then dN c d m (p*c)else p:=rfl;rw[i,g];by_cases h:p<=d
  .rw[sJ h,sJ h];exact lI e b m (p*c) (YE a ω)
  .rw[af h,af h];refine⟨?_,a⟩;rw[Au ω];have f:d<=d*c:=by have:=WB e b;omega
   omega
def jx(y:ju)(n:Int):aI y n=min (dN y.c y.d (n-1).toNat y.b) y.d:=by
 unfold aI;grind
def xO(y:ju):aI y 1=min y.b y.d:=by rw[jx];rfl
def vH(c:0<=y.b)(b:1<=y.c)(a:0<=y.d){n:Int}(d:1<=n):aI y (n+1)=min (aI y n*y.c) y.d:=by
 rw[jx,jx,show(n+1-1).toNat=(n-1).toNat+1 by omega];exact(lI b a _ _ c).1
def zE(c:0<=y.b)(b:1<=y.c)(a:0<=y.d)(n:Int):0<=aI y n/\aI y n<=y.d:=by
 rw[jx];have:=(lI b a (n-1).toNat y.b c).2;omega
def PS.Uo{s:PS}{L:LS}(h:s.l=L):∃a:PS,s={a with l:=L}:=⟨s,by cases s;simp_all⟩
section
variable{Z:LS->Prop}
def Cn.Yj{p:γ}{s:PS}{w:aj}{R:aW}(C:Cn E I t p s w R)(j:Nat)(n:Int):Cn E I t p {s with l:=s.l.Yj t j n} w R:=by
 have a:∀i,((s.l.Yj t j n).tk i).c=(s.l.tk i).c/\((s.l.Yj t j n).tk i).f=(s.l.tk i).f/\((s.l.Yj t j n).tk i).p=(s.l.tk i).p/\((s.l.Yj t j n).tk i).o=(s.l.tk i).o/\((s.l.Yj t j n).tk i).x=(s.l.tk i).x/\((s.l.Yj t j n).tk i).e=(s.l.tk i).e:=λi=>by
  by_cases e:i=t
  .subst e;simp[LS.Yj,upd]
  .simp[LS.Yj,upd,e]
 have d:j7 {s with l:=s.l.Yj t j n}=j7 s:=funext λi=>by
  unfold j7;simp_all
 have b:gS {s with l:=s.l.Yj t j n}=gS s:=by
  show gA s++(wS s++(_::((List.range s.l.tl).flatMap (j7 {s with l:=s.l.Yj t j n})++s.cx)))=_;rw[d];rfl
 refine⟨by show Sat _ _ (pM s++(E.me I t::(R++(gS {s with l:=s.l.Yj t j n}++E.O p))));rw[b];exact C.sat,{C.pv with},{C.qi with},C.fl,C.eH,C.bd,C.cp.gq ⟨rfl,rfl,rfl,rfl,rfl,rfl,rfl,rfl,rfl,λi b=>⟨(s.l.tk i).x,by show upd _ _ _ i=_;simp[upd,b]⟩,⟨(a t).1,(a t).2.1,(a t).2.2.1⟩,λ_ _=>τ,τ,λ_=>rfl⟩,C.ln,?_⟩;exact⟨C.ti.nc,C.ti.wt,C.ti.cm,λi b=>by rw[(a i).1,(a i).2.2.1];exact C.ti.cl i b,λi e d=>by rw[(a i).2.1,(a i).2.2.1];exact C.ti.wk i e d,λi b=>⟨(C.ti.ch i b).1,λc d=>by rw[(a c).2.1];exact(C.ti.ch i b).2 c d⟩,λi b=>by rw[(a i).2.2.2.1];exact C.ti.can i b,C.ti.zz⟩
def Cn.N3{p:γ}{s:PS}(b:t<s.l.tl)(h:Sat (E.Ok p) w (pM s++(j7 s t++(E.me I t::(R++(tX s t++E.O p)))))):Sat (E.Ok p) w (pM s++(E.me I t::(R++E.P p s))):=by
 refine h.perm (eN _ ?_);have a:=((jw s b).append_right (E.O p)).append_left (E.me I t::R);rw[dU]at a;refine List.Perm.trans ?_ a.symm;exact fA (j7 s t) (E.me I t::R) (tX s t++E.O p)
def vq{s:PS}(h:s.T t=T):∃d b ev g o a bv A c ch,j7 s t=[dO T d b (s.l.tk t).x ev,fR ⟨g,o,none⟩ 1 bv a true,wF T A t c ch]:=⟨_,_,_,_,_,_,_,_,_,_,by unfold j7;rw[h]⟩
def Pd(W:jF E I Z t){p:γ}{s:PS}(C:Cn E I t p s w R)(hk:qm I.V t s.l)(N:j<I.V.nl)(h1:(I.V.ly j).k=1){a n:Int}(hp:0<=a/\a<=10000)(y:(s.l.tk t).x=false->0<a->Fin I.V Z m none (((s.l.say t j 3 a).Yj t j n).wait t j a true))(hf0:(s.l.tk t).x=false->¬0<a->Fin I.V Z m (some (t,j+1,none)) ((s.l.say t j 3 a).Yj t j n))(r:(s.l.tk t).x=true->Fin I.V Z m (some (t,j,some (c9 5 j 0))) (((s.l.say t j 3 a).Yj t j n).say t j 16 0))(M:m<=E.pS p){c:aC}(K:∀q l d w',q<=m->q<=E.pS l->Cn E I t l d w' R->Fin I.V Z q (some (t,j+1,none)) d.l->(d.l.tk t).a=(((s.l.say t j 3 a).Yj t j n).tk t).a->(d.l.tk t).q=(s.l.tk t).q->E.Ψ l (G (c.finish (.bool true)) cs) w')(K':∀q l d w',q<=m->q<=E.pS l->Cn E I t l d w' R->d.l.el<1000000->Fin I.V Z q (some (t,j,some (c9 5 j 0))) (d.l.say t j 16 0)->(d.l.tk t).a=(((s.l.say t j 3 a).Yj t j n).tk t).a->(d.l.tk t).q=(s.l.tk t).q->E.Ψ l (G (c.finish (.bool false)) cs) w'):
 E.Ψ p (G (Frame.enter prog 157 #[ptr (I.lb j),ptr E.T,i6 a] .normal) (c::cs)) w:=by
 have F:=W.f p;have P:=W.hB p;have c:=C.bd;have c:=C.sat;refine cJ func157 c 24 λD c c c b B c G w=>Rb F P b c G 11 [] 1 [] [(11,i6 a),(10,ptr E.T),(9,ptr (I.lb j)),(1,ptr E.T),(2,i6 a)] 11 1 [] λc c w c T G G=>ah F b c w 12 149 #[ptr (I.lb j),ptr E.T,i6 3,i6 a] λc c=>iU W {C with sat:=w.sat,bd:=by omega} hk.el (C.eH.lay j N) λs2 w2 C2 C w=>c _ _ _ C2.sat λa2 B2 J O c=>?_;have c:=C2.bd;obtain⟨s2,rfl⟩:=PS.Uo C;have C3:=C2.Yj j n;obtain⟨f,X⟩:∃f:PS,f={s2 with l:=(s.l.say t j 3 a).Yj t j n}:=⟨_,rfl⟩;have e:f.l=(s.l.say t j 3 a).Yj t j n:=by rw[X]
 change Cn E I t p {s2 with l:=(s.l.say t j 3 a).Yj t j n} w2 R at C3;rw[<-X]at C3;have c:(f.l.tk t).x=(s.l.tk t).x:=by rw[e];simp[LS.Yj,LS.say,upd]
 let⟨cv,X,ev,g,o,G,bv,A,C,ch,w⟩:=vq C3.cp.hT.1;have hm:=C3.mine;rw[w,c]at hm;have back:∀w',Sat (E.Ok p) w' (pM f++([dO E.T cv X (s.l.tk t).x ev,fR ⟨g,o,none⟩ 1 bv G true,wF E.T A t C ch]++(E.me I t::(R++(tX f t++E.O p)))))->w2.heap.size<=w'.heap.size->Cn E I t p f w' R:=λw' h c=>{C3 with sat:=Cn.N3 C3.tn ξ,bd:=by omega}
 have H:(f.l.tk t).a=(((s.l.say t j 3 a).Yj t j n).tk t).a:=by rw[e]
 have u:(f.l.tk t).q=(s.l.tk t).q:=by rw[e];simp[LS.Yj,LS.say,upd]
 replace J:St (E.Ok p) B2 24 _ _ 0 a2 w2:=⟨J.env,hm,J.sz⟩
 by_cases V:(s.l.tk t).x=true
 .rw[V]at J back;have r:=r V;rw[<-e]at r;refine UF F P b B O J 25 [7,0,2,1] 7 [] 6 (.bool false) 24 3 [] λL Q S U=>K' m p f L (az _) M (back L Q.sat ω) (kL r) r H u
 .replace V:(s.l.tk t).x=false:=ξ
  rw[V]at J back;by_cases h0:a=0
  .subst h0;refine UF F P b B O J 35 [7,0,2,1] 8189 [] 6 (.bool true) 34 2 [] λL Q S U=>K m p f L (az _) M (back L Q.sat ω) ξ H u
  .have g:0<a:=ω
   refine TP F P b O J 29 [7,0,2,1] 81 [] [(19,i6 a),(17,.bool false),(18,ptr E.T)] 28 2 [] [] [(a==0,false)] [] [] λc L Q h S U c=>?_;have c:=back L Q.sat ω;have y:=y V g;rw[<-e]at y;refine ah F b h Q 20 162 #[ptr E.T,i6 a] λg g=>lG W c (by rw[e];exact hk.al) (by rw[e];exact hk.now) N ⟨hp.1,ω⟩ λi x w A o n h E C e e e=>g _ _ _ n λe e n e g=>GM F b e 21 153 #[ptr x] ρ ρ δ n λg e=>?_;have s:JV t f (f.cB t j a i x w A true) j a i x ⟨0,0,[]⟩ true:=⟨rfl,rfl,rfl,rfl,(E5 ..).symm,τ,λj N=>af (iS N)⟩;refine W.wait p f _ _ o i x j a ⟨0,0,[]⟩ true g _ R m c.cp c.ti ω (λ_=>N) s (.inl rfl) c.cp.JN n.sat h E C (by have:=c.lnw (ly:=j) (d:=a) (b:=⟨0,0,[]⟩) (cb:=true) (λ_=>ω);rw[E5]at this;exact this) (λk hk f a=>by have:=c.row hk f a;grind) (λj N a=>by have:=rG c.sat c.Ej N a;grind) c.fl c.eH ω y M λl d a q z a Y C' f1 f2 f3 f4 f5 f6=>e.ret _ _ _ _ _ C'.sat λa a S6 DE a=>?_;have a:=C'.bd;replace F:=W.f l;replace P:=W.hB l;have T:(z=1/\Fin I.V Z q (some (t,j+1,none)) d.l)\/(z=3/\Fin I.V Z q (some (t,j,some (c9 5 j 0))) (d.l.say t j 16 0)):=by
    rcases f1.2 with ⟨_,z,_⟩|⟨k,a,QJ,Nj⟩
    .omega
    .rw[f2]at QJ;have:k=j:=ω
     subst this;rcases Nj with z|z|z|z|z|z
     .simp_all
     .simp_all
     all_goals omega
   rcases T with ⟨rfl,v⟩|⟨rfl,v⟩
   .refine UF F P b B DE S6 4 [] 5 [] 6 (.bool true) 34 2 [] λa f c e=>K q l d a ω Y {C' with sat:=f.sat,bd:=by omega} v (f4.trans H) (f6.trans u)
   .refine UF F P b B DE S6 4 [] 5 [] 6 (.bool false) 34 2 [] λa f c e=>K' q l d a ω Y {C' with sat:=f.sat,bd:=by omega} (kL v) v (f4.trans H) (f6.trans u)
end
section
variable{Z:LS->Prop}
def Cn.drop{p:γ}{s:PS}{X:aW}(C:Cn E I t p s w (X++R))(h:yF I R):Cn E I t p s w R:=
 ⟨C.sat.sub (nN (.cons_cons _ (D7 (D8 X R) _)) _),C.pv,C.qi,bO.2 λr a=>bO.1 C.fl r (by
  simp_all),h,C.bd,C.cp,C.ln,C.ti⟩
def wv(W:jF E I Z t){p:γ}{s:PS}(C:Cn E I t p s w R)(d:j<I.V.nl)(b:s.l.el<1000000){c:aC}(K:∀a w' q,Cn E I t p a w' (oR q 0 [i6 5,i6 j,i6 0,.nilIface] false::R)->a.l=s.l.say t j 16 0->w.heap.size<=w'.heap.size->E.Ψ p (G (c.finish (.tuple #[i6 0,.iface 168 (ptr q)])) cs) w'):
 E.Ψ p (G (Frame.enter prog 160 #[ptr (I.lb j),ptr E.T] .normal) (c::cs)) w:=by
 have F:=W.f p;have h:=W.hB p;have a:=C.bd;have a:=C.sat;have c:=C.eH.lay j d;refine cJ func160 a 13 λD a a a a g d f e=>Rb F h a d f 9 [] 1 [] [(7,ptr E.T),(6,ptr (I.lb j)),(0,ptr (I.lb j))] 9 1 [] λd d e d f f f=>ah F a d e 8 149 #[ptr (I.lb j),ptr E.T,i6 16,i6 0] λd d=>iU W {C with sat:=e.sat,bd:=by omega} b c λe b b l f=>d _ _ _ (b.sat.get ((c.pre _).cons.app (pM e))) λc c i f d=>?_;have d:=b.bd;let⟨Q,d,_⟩:=xT I (j+1);rw[d]at i;refine aq (λM=>bR (c) [i6 5,i6 j,i6 0,.nilIface]::(M)) 1 F h a f i 43 [0,0,1,1] 1 [] [(5,.iface 168 (ptr c)),(4,i6 0)] 20 1 [] λd h f d k k k=>cC F f a g d [] (.tuple #[i6 0,.iface 168 (ptr c)]) ?_;exact K e h c ⟨((Sat.BC (A:=[oR c 0 [i6 5,i6 j,i6 0,.nilIface] false]) f.sat.fix).perm (gY (A:=pM e))),b.pv,b.qi,b.fl.cons rfl,b.eH.cons,ω,b.cp,b.ln,b.ti⟩ l ω
def Fy(x y:Int):(if y<x then y else x)=min x y:=ω
def Ii(W:jF E I Z t)(V:j<I.V.nl)(hk:(I.V.ly j).k=1)(IH:dV E I Z t (j+1))(x:yF I R){c:aC}(hn:O0 D 156)(g gq:Nat->Int):
 ∀(m:Nat)(n:Int)(p:γ)(s:PS)(w:aj)(a0:Act)(B1:Nat),Cn E I t p s w R->Fin I.V Z m (some (t,j+1,none)) s.l->m<=E.pS p->(s.l.tk t).a j=n->(1<=n/\n<=(I.V.ly j).a)->(∀i,i<j->(s.l.tk t).a i=g i)->(∀i,i<j->(s.l.tk t).q i=gq i)->a0.defers=[]->w.heap.size=B1->
   (s.l.tk t).p<=j->St (E.Ok p) B1 80 [(7,i6 n),(6,i6 (aI (I.V.ly j) n)),(0,ptr (I.lb j)),(1,ptr E.T)] (pM s++(E.me I t::(R++E.P p s))) 0 a0 w->
   (∀U l d w' X r b,U<m->U<=E.pS l->Cn E I t l d w' (X++R)->Fin I.V Z U (some (t,j,some b)) d.l->Ov X r b->(∀i,i<j->(d.l.tk t).a i=g i)->(∀i,i<j->(d.l.tk t).q i=gq i)->E.Ψ l (G (ends c r) cs) w')->
   E.Ψ p (G (D.at a0 (pc prog 156 16 [] [8])) (c::cs)) w:=by
 intro m;induction m using Nat.strongRecOn with
 |_ m Vm=>
 intro n p s w a0 B1 C hf Ts ha CH hg hgq tN w ZG S0 K;have F:=W.f p;have o:=W.hB p;have w:=C.bd;have a:=hn.k;have J:=hn.f;let⟨Q,w,IZ⟩:=xT I (j+1);have f:=x.lay j V;rw[w]at f;unfold dV at IH;generalize iq I.V (j+1)=gf at*;have hV:=W.V.rt j V hk;replace S0:=S0.get ((f.pre _).cons.app (pM s));refine Rb F o a tN S0 10 [0,0,0,1] 1 [] [(27,ptr E.T),(26,.iface Q (ptr (I.lb (j+1)))),(7,i6 n),(6,i6 (aI (I.V.ly j) n)),(0,ptr (I.lb j)),(1,ptr E.T)] 26 1 [8] λw w1 S1 w zS Dx o9=>GM F a w 28 gf #[ptr (I.lb (j+1)),ptr E.T] (by rcases IZ with ⟨rfl,rfl⟩|⟨rfl,rfl⟩|⟨rfl,rfl⟩|⟨rfl,rfl⟩|⟨rfl,rfl⟩|⟨rfl,rfl⟩|⟨rfl,rfl⟩<;>kernel_rfl) ρ δ S1 λcf S=>IH m p s w1 R cf (c::cs) {C with sat:=S1.sat.tail,bd:=by omega} hf Ts λU l d w' X r b m m O m hr Jc DG=>?_;obtain⟨m1,rfl,A⟩:=CX hk (O.pp W C ZG) m;have m:=O.bd;replace F:=W.f l;replace o:=W.hB l;have OP:(d.l.tk t).a j=n:=(Jc j ω).trans ha;have v:∀i,i<j->(d.l.tk t).a i=g i:=λi k=>(Jc i ω).trans (hg i k);have u:∀i,i<j->(d.l.tk t).q i=gq i:=λi k=>(DG i ω).trans (hgq i k);rcases hr with ⟨Y,rfl⟩|⟨Y,e,rfl,he⟩|⟨Y,rfl⟩
 .refine S.ret _ _ _ _ _ O.sat λa2 B2 S2 H tM=>Rb F o a H S2 24 [] 127 [] [(5,.nilIface),(4,i6 b.n)] 51 3 [8] λa3 w3 S3 P YF yO mH=>cC F S3 a J P [] (.tuple #[i6 b.n,.nilIface]) ?_;exact K m1 l d w3 X (.inl (.tuple #[i6 b.n,.nilIface])) b ω ω {O with sat:=S3.sat,bd:=by omega} (A.out (.inl ω)) (.inl ⟨Y,rfl⟩) v u
 .have B:b.ch≠[]:=by
   rcases A.bk.2.2 with ⟨z,_⟩|⟨_,_,z⟩|⟨z,_⟩
   .omega
   .exact z
   .omega
  obtain⟨q,rfl⟩:∃q,e=.iface 168 (ptr q):=by
   cases mQ:b.ch with
   |nil=>grind
   |cons y ch=>rw[mQ]at he;let⟨q,_,h,_⟩:=he;exact⟨q,h⟩
  refine S.ret _ _ _ _ _ O.sat λa2 B2 S2 H tM=>Rb F o a H S2 13 [] 5 [] [(34,.iface 168 (ptr q)),(33,.bool false),(9,.iface 168 (ptr q)),(8,i6 0),(7,i6 n),(6,i6 (aI (I.V.ly j) n)),(0,ptr (I.lb j)),(1,ptr E.T)] 40 1 [8] λa3 w3 S3 P YF yO mH=>ah F a P S3 35 158 #[.iface 168 (ptr q)] λe e=>?_;have g:Yu (pM d++(E.me I t::((X++R)++E.P l d))) (.iface 168 (ptr q)) b.ch:=he.up λr hr=>(((hr.pre R).pre _).cons).app (pM d);refine zT F o g B S3.sat ω λg h g=>e _ _ _ h λe e T R e=>?_;by_cases g:cE b 2=true\/cE b 5=true
  .have e:(cE b 2||cE b 5)=true:=χ
   rw[e]at T;refine Rb F o a R T 10 [] 7 [] [(5,.iface 168 (ptr q)),(4,i6 0)] 51 3 [8] λa5 w5 P p Y5 Dw qO=>cC F P a J p [] (.tuple #[i6 0,.iface 168 (ptr q)]) ?_;exact K m1 l d w5 X (.inl (.tuple #[i6 0,.iface 168 (ptr q)])) b ω ω {O with sat:=P.sat,bd:=by omega} (A.out (.inr g)) (.inr (.inl ⟨Y,_,rfl,he⟩)) v u
  .have e:(cE b 2||cE b 5)=false:=χ
   rw[e]at T;have w:¬(b.k≠2\/cE b 2=true\/cE b 5=true):=λz=>z.elim (λy=>y Y) g;replace T:=(T.get ((((x.Ig j V hk).app X).pre _).cons.app (pM d))).get (((((f.app X).pre _).cons).app (pM d)).cons);by_cases hna:n=(I.V.ly j).a
   .refine TP F o a R T 21 [1,0,0,1] 25 [] [(48,ptr E.T),(47,ptr (I.lb j)),(9,.iface 168 (ptr q)),(0,ptr (I.lb j))] 62 6 [8] [] [(n==(I.V.ly j).a,true)] [] [] λa5 w5 P p Y5 Dw qO=>ah F a p P 49 149 #[ptr (I.lb j),ptr E.T,i6 4,i6 0] λcf5 g=>iU W {O with sat:=P.sat.tail.tail,bd:=by omega} A.sk.el (f.app X) λs w6 e e6 h=>g _ _ _ (e.sat.get ((((f.app X).pre _).cons).app (pM s))) λa6 y S6 m YG=>?_;have z:=e.bd;refine aq (λM=>bR (y) [i6 7,i6 j,i6 0,.iface 168 (ptr q)]::(M)) 1 F o a m S6 27 [0,0,1,1] 1 [] [(5,.iface 168 (ptr y)),(4,i6 0)] 76 6 [8] λa7 w7 N h M YQ DJ=>cC F N a J h [] (.tuple #[i6 0,.iface 168 (ptr y)]) ?_;have XC:=A.up w (OP.trans hna);rw[<-e6]at XC;exact K m1 l s w7 (oR y 0 [i6 7,i6 j,i6 0,.iface 168 (ptr q)] false::X) _ _ ω ω ⟨(Sat.BC (A:=[oR y 0 [i6 7,i6 j,i6 0,.iface 168 (ptr q)] false]) N.sat.fix).perm (gY (A:=pM s)),e.pv,e.qi,e.fl.cons rfl,e.eH.cons,ω,e.cp,e.ln,e.ti⟩ XC (.inr (.inl ⟨rfl,_,rfl,y,.iface 168 (ptr q),rfl,⟨rfl,0,rfl⟩,he.up λr hr=>hr.cons⟩)) (λi k=>by rw[e6];exact v i k) (λi k=>by rw[e6];exact u i k)
   .refine TP F o a R T 22 [1,0,0,1] 17 [] [(59,i6 (aI (I.V.ly j) n)),(58,ptr E.T),(57,ptr (I.lb j)),(35,.bool false),(34,.iface 168 (ptr q)),(7,i6 n),(6,i6 (aI (I.V.ly j) n)),(0,ptr (I.lb j)),(1,ptr E.T)] 63 4 [8] [] [(n==(I.V.ly j).a,false)] [] [] λa5 w5 P p Y5 Dw qO=>GM F a p 60 157 #[ptr (I.lb j),ptr E.T,i6 (aI (I.V.ly j) n)] ρ ρ δ P λcf5 g=>?_;have p:=zE hV.2.1.1 hV.2.2.1.1 hV.2.2.2.1 n;have f1:=A.on w ω;have f0:=A.ZN w ω;have fx:=A.dr w ω;rw[OP]at f1 f0 fx;refine Pd W {O with sat:=P.sat.tail.tail,bd:=by omega} A.sk V hk ⟨ω,ω⟩ f1 f0 fx ω (λm6 w s w6 hm6 R e L p P=>g.ret _ _ _ _ _ ((e.drop x).sat.get ((((x.Ig j V hk).pre _).cons).app (pM s))) λa6 y S6 m YG=>?_) λm6 w s w6 hm6 R e aa6 L p P=>g.ret _ _ _ _ _ e.sat λa6 y S6 m YG=>?_
    rotate_left
    .have z:=e.bd;replace F:=W.f w;replace o:=W.hB w;refine Rb F o a m S6 9 [] 7 [] [(65,ptr E.T),(64,ptr (I.lb j))] 73 12 [8] λa7 w7 N h M YQ DJ=>ah F a h N 66 160 #[ptr (I.lb j),ptr E.T] λg VA=>wv W {e with sat:=N.sat,bd:=by omega} V aa6 λs8 g g C8 e8 V=>VA _ _ _ C8.sat λV V V Nn FN=>?_;have abl:=C8.bd;refine Rb F o a Nn V 5 [] 1 [] [(5,.iface 168 (ptr g)),(4,i6 0)] 79 12 [8] λa9 w9 S9 QH Tl He X4=>cC F S9 a J QH [] (.tuple #[i6 0,.iface 168 (ptr g)]) ?_;rw[<-e8]at L;have B:∀i,i<j->i≠j:=λi k=>ω
     exact K m6 w s8 w9 (oR g 0 [i6 5,i6 j,i6 0,.nilIface] false::X) (.inl (.tuple #[i6 0,.iface 168 (ptr g)])) (c9 5 j 0) ω R {C8 with sat:=S9.sat,bd:=by omega} L (.inr (.inl ⟨rfl,_,rfl,g,.nilIface,rfl,⟨rfl,0,rfl⟩,rfl⟩)) (λi k=>by rw[e8];show(s.l.tk t).a i=_;rw[p];simp only[LS.Yj,LS.say,upd,if_true,B i k,if_false];exact v i k) (λi k=>by rw[e8];show(s.l.tk t).q i=_;rw[P];exact u i k)
    have t:=e.drop x;have z:=e.bd;replace F:=W.f w;replace o:=W.hB w;refine Rb F o a m S6 15 [0,0,2,2] 5 [10] [(7,i6 (IntKind.wrap .i64 (n+1))),(6,i6 (if(I.V.ly j).d<IntKind.wrap .i64 (aI (I.V.ly j) n*(I.V.ly j).c)then(I.V.ly j).d else IntKind.wrap .i64 (aI (I.V.ly j) n*(I.V.ly j).c))),(35,.bool false),(34,.iface 168 (ptr q)),(0,ptr (I.lb j)),(1,ptr E.T)] 79 8 [8,10] λa7 w7 N h M YQ DJ=>?_;have g:IntKind.wrap .i64 (n+1)=n+1:=aA ω ω;have a:0<=aI (I.V.ly j) n*(I.V.ly j).c/\aI (I.V.ly j) n*(I.V.ly j).c<=10000*9:=⟨YE ω ω,YT ω ω ω ω⟩;have a:IntKind.wrap .i64 (aI (I.V.ly j) n*(I.V.ly j).c)=aI (I.V.ly j) n*(I.V.ly j).c:=aA ω ω;rw[g,a,Fy,<-vH hV.2.1.1 hV.2.2.1.1 hV.2.2.2.1 CH.1]at N;rw[show pc prog 156 79 (Bo 8) [8,10]=pc prog 156 16 [] [8] by kernel_rfl];have V:=N.dB [(7,i6 (n+1)),(6,i6 (aI (I.V.ly j) (n+1))),(0,ptr (I.lb j)),(1,ptr E.T)] ρ;refine Vm m6 ω (n+1) w s w7 a7 y {t with sat:=N.sat.tail,bd:=by omega} L R ?_ ⟨ω,ω⟩ (λi k=>?_) (λi k=>by rw[P];exact u i k) h M (e.pp W C ZG) ⟨V.env,V.sat.tail,V.sz⟩ λU l d w' X r b a=>K U l d w' X r b ω
    .rw[p];simp[LS.Yj,upd]
    .rw[p];have B:i≠j:=ω
     simp only[LS.Yj,upd,if_true,B,if_false];exact v i k
 .obtain⟨a2,t2,rfl,H,a⟩:=S.NO;show E.Ψ l (G ((D.at a2 t2).raise (je (.iface 166 (i6 b.n)))) (c::cs)) w';rw[raise_at hn.m];refine F.lJ H (by rw[J];rfl) ?_;exact K m1 l d w' X (.inr (.iface 166 (i6 b.n))) b ω ω O (A.out (.inl ω)) (.inr (.inr ⟨Y,rfl⟩)) v u
def Ij(W:jF E I Z t)(d:j<I.V.nl)(a:(I.V.ly j).k=1)(q:dV E I Z t (j+1)):dV E I Z t j:=by
 intro m p s w R c cs C l c K;rw[show iq I.V j=156 by unfold iq;grind];have F:=W.f p;have k:=W.hB p;have c:=C.bd;have f:=C.sat.get (((C.eH.Ig j d a).pre _).cons.app (pM s));obtain⟨n,rfl,g⟩:=CU d a l;refine cJ func156 f 80 λD c u m f c c o h=>Rb F k f c o 16 [0,0,1,1,0,0,3,1] 1 [8] [(7,i6 1),(6,i6 (if(I.V.ly j).d<(I.V.ly j).b then(I.V.ly j).d else(I.V.ly j).b)),(0,ptr (I.lb j)),(1,ptr E.T)] 16 1 [8] λo k e h c f f=>?_;rw[Fy,<-xO]at e;have f:=(W.V.rt j d a).1;have f:=AL l;have l:=Cn.Yj (w:=k) {C with sat:=e.sat.tail,bd:=by omega} j 1;refine Ii W d a q C.eH m (λi=>(s.l.tk t).a i) (λi=>(s.l.tk t).q i) n 1 p {s with l:=s.l.Yj t j 1} k o u l g ω ?_ ⟨ω,ω⟩ (λi a=>?_) (λi a=>by simp[LS.Yj,upd]) h c (by simp only[LS.Yj,upd,if_true];exact f) ⟨e.env,l.sat,e.sz⟩ λd c a w' X r b f=>K d c a w' X r b ω
 .simp[LS.Yj,upd]
 .have a:i≠j:=ω
  simp[LS.Yj,upd,a]
end
def Sat.R0(h:Sat Ok w M)(f:HB w.heap.size Ok)(b:gd)(e:TypeId):Sat Ok (w.alloc (.cells b e)) (fR ⟨w.heap.size,0,none⟩ 1 (λj=>[(b[j]?).getD undef]) b.size true::M):=by
 have l:=sat_iff.1 (h.new b e f).tail;refine sat_iff.2 ⟨λr c=>?_,iG.2 ⟨λr c b j g k d e=>?_,l.2⟩⟩
 .rcases ak.1 c with rfl|c
  .refine rI (λj k i b=>?_) (λa wr b=>f a wr ω);simp_all
  simp_all
 .have a:=au (((sat_iff.1 h).1 r c).val g d);simp only[add_add]at e;grind
def Sat.inst(h:Sat Ok w (r::M))(p:Nat):Sat Ok w (cG M p r):=by
 refine h.map (λi=>if i=p then 0 else i+1) (λi b a=>?_) (λi j b a _ e=>?_)
 .rw[dX]at a;by_cases z:i=p
  .simp only[z,if_true]at a ⊢;cases c:nth M p with
   |none=>simp_all
   |some q=>rw[c]at a;simp at a;exact⟨r,rfl,.inl a.symm⟩
  .simp only[z,if_false]at a ⊢;exact⟨b,a,.inl rfl⟩
 grind
def EI(i:Qc prog T e 1 S=true)(w:aj)(Q:TypeId){b off:Nat}{x u:ay}(s:w.cell? ⟨nb,0,none⟩=some x)(r:x.oneCell'=true)(t:w.cell? ⟨b,off+n,none⟩=some u)(y:w.frozen? ⟨b,off+n,none⟩=false)(A:n<c):
 (Builtin.append_ #[T,T] Q #[.slice (some ⟨b,off,none⟩) n c,.slice (some ⟨nb,0,none⟩) 1 1]).run prog w=.ok (.slice (some ⟨b,off,none⟩) (n+1) c) (w.setCell ⟨b,off+n,none⟩ x)/\
 ∀ev∈(Builtin.append_ #[T,T] Q #[.slice (some ⟨b,off,none⟩) n c,.slice (some ⟨nb,0,none⟩) 1 1]).events prog w #[],(∃H,ev.loc=.cell H/\ev.write=false/\H.block=nb)\/∃H,ev.loc=.cell H/\H.block=b:=by
 let⟨inf,z,o,m,_,f,_,_,u⟩:=kv i;have q:∀(j:Nat)(v:ay),[x][j]? =some v->w.cell? ((⟨nb,0,none⟩:Addr).add j)=some v:=λj v k=>by
  rcases j with _|j
  .simp at k;subst k;exact s
  simp_all
 have i:n+1<=c:=A;have p:=run_append_room_cells (P:=prog) w T Q e inf o m b off n c ⟨nb,0,none⟩ 1 1 [x] (by rw[f];rfl) q ξ i (λj k=>ξ) (λj k=>ξ);rw[f,lm]at p;refine⟨p,λev d=>?_⟩;have g:=run_firstCells_some (P:=prog) w inf.size 1 ⟨nb,0,none⟩ 1 1 [x] (by rw[f];rfl) q;simp[Builtin.append_,run_underlying o,sizeOf,typeInfo,m,Builtin.lenOf,i,ey,f]at d;rw[f]at g;simp only[g,xg,storeCells,YV,ey,jI]at d;rw[run_store prog w _ x _ r,events_store prog w _ _ x _ r,t]at d;simp[y]at d;rcases d with d|rfl
 .rcases events_firstCells_in (P:=prog) (·=nb) 1 1 _ w _ (λa l c e=>by
   grind) ev d with h|⟨H,a,a,a⟩
  .simp at h
  simp_all
 simp
def Wo(O:Qc prog T e 1 S=true)(V:S<=8)(F:aB prog J (DX Ok) Ψ)(hB:HB B Ok)(hk:b.kind=.normal){E:Env}{t:eC}(s x d p p2:Nat){base:eP}{o0 o len:Nat}{y:ay}(ho:kI t=true)(UZ:oD (aQ t) s x d T=true)(hd:d<N)(hs:look E s=some (.slice base len cap))(X:look E x=some (.slice (some ⟨nb,0,none⟩) 1 1))(hb:base=some ⟨g,o0+o,none⟩\/base=none/\o=0/\cap=0)(P:nth M p=some (fR ⟨g,o0,none⟩ 1 v n true))(hnn:o+cap<=n/\(0<cap->n=o+cap))(h1y:y.oneCell'=true)(OI:nth M p2=some (bR nb [y]))(M5:∀L,base=some L->g<w.heap.size/\∀(H:Addr)(wr:Bool),H.block=g->Ok H wr)(n:len<=cap)(hq:len<1000000)(n:B<=B')(n:B<=nb)(zX:St Ok B' N E M c a w)(K:∀V B n W A a' w',(B=o0\/B=0)->(n=o\/n=0)->Sat Ok w' (cG M p (fR ⟨V,B,none⟩ 1 W (n+A) true))->(∀j,j<len->(W (n+j)).getD 0 undef=(v (o+j)).getD 0 undef)->(W (n+len)).getD 0 undef=y->(base=some ⟨V,B+n,none⟩\/B'<=V/\n=0)->w.heap.size<=w'.heap.size->len+1<=A->aR ((d,.slice (some ⟨V,B+n,none⟩) (len+1) A)::E) N a'->a'.defers=a.defers->Ψ (G (b.at a' (jB t)) cs) w'):Ψ (G (b.at a t) cs) w:=by
 let⟨ops,i,r,I,b,Q,hn⟩:=dH ho;let⟨g1,g2,g3⟩:=mh UZ;have h:∀q v,look E q=some v->a.eval (.tmp q)=v:=λq v hq=>by rw[zX.env.eval (by simp[kn,hq])];simp[ev,hq]
 have C:=zX.sat;have d:=zX.sz;have ZX:HB w.heap.size Ok:=λa wr z=>hB a wr ω;have m:w.cell? ⟨nb,0,none⟩=some y:=C.val p2 _ OI (0,0) ⟨aD,aD⟩;rw[b];by_cases hc:len<cap
 .rcases hb with R|⟨_,_,z⟩
  .obtain rfl:=hnn.2 ω;let⟨b,z3⟩:=M5 _ R;subst R;have l:(fR ⟨g,o0,none⟩ 1 v (o+cap) true).has (o+len,0):=⟨χ,aD⟩;have ea:(fR ⟨g,o0,none⟩ 1 v (o+cap) true).ad (o+len,0)=⟨g,o0+o+len,none⟩:=by simp[ey,Nat.add_assoc]
   have Z:=C.val p _ P _ l;have U:=((C.ok p _ P _ l).2 rfl).2;rw[ea]at Z U;refine F.OA Q (by simp[Region.wanted,g1]) χ λd' b i=>?_;let⟨b,d⟩:=EI O (w.at d') (aQ t).type (n:=len) (c:=cap) m h1y Z U hc;refine uponK_append (.tmp s) (.tmp x) T g3 (h s _ hs) (h x _ X) b (i _ _ ⟨WG (g:=some g) (λe b=>?_) ⟨rfl,rfl,rfl,ψ,λk _ hk=>?_⟩ (λD e=>?_) (λH wr e=>z3 H wr χ),F.at' _ (w.setCell ⟨g,o0+o+len,none⟩ y) d' ?_⟩)
   .have hm:=mem_listed b;rw[events_append_op (.tmp s) (.tmp x) T g3 (h s _ hs) (h x _ X)]at hm;rcases d e hm with ⟨H,d,e2,b⟩|⟨H,d,b⟩
    .exact .inl ⟨H,d,rfl,by rw[e2];exact hB H false ω,by rw[b];show nb<(w.heap.modify _ _).size;simpa using au m⟩
    .exact .inl ⟨H,d,rfl,z3 H _ b,by rw[b];show g<(w.heap.modify _ _).size;grind⟩
   .have:g≠k:=λz=>hk (by rw[z]);simp[World.setCell,sU,this]
   .cases e;have:=Z;unfold World.cell? at this;cases hh:w.heap[g]? with
    |none=>grind
    |some o=>cases o with
     |cells c t f=>exact⟨c,t,f,hh⟩
     |_=>grind
   .rw[<-hn,g2];have h3:=C.set P rfl l rfl y;rw[ea]at h3;have h4:=h3.re p (kG _ P) rfl (λj=>[if j=o+len then y else(v j).getD 0 undef]) (λj l f U=>?_)
    .rw[jM]at h4;exact K g o0 o _ cap _ _ (.inl rfl) (.inl rfl) h4 (λj l=>χ) ψ (.inl rfl) ψ hc (zX.env.put hd) (put_defers _ _ _)
    .have b:f<1:=U;obtain rfl:f=0:=ω
     simp only[aH.set,ez];simp
  .omega
 .have b:cap=len:=ω
  have TW:∀L,base=some L->∀(j:Nat)(u:ay),((List.range len).map λj=>(v (o+j)).getD 0 undef)[j]? =some u->w.cell? (L.add j)=some u:=λL LM j u l=>by
   have b:j<len:=χ
   have:=C.val p _ P (o+j,0) ⟨χ,aD⟩;obtain rfl:L=⟨g,o0+o,none⟩:=by
    grind
   simp only[aH.get,lm,ey,jI,<-Nat.add_assoc]at this;rw[ey,this];grind
  refine aB.Om O ω F Q (by simp[Region.wanted,g1]) χ (.tmp s) (.tmp x) g3 (olds:=(List.range len).map λj=>(v (o+j)).getD 0 undef) (news:=[y]) (h s _ hs) (h x _ X) ψ TW (λz=>ξ) rfl (λj u l=>?_) χ ω ω (λD LM=>χ) ⟨au m,λa b=>hB a false χ⟩ λA rs a hc a Y=>?_
  .rcases j with _|j
   .simp at l;subst l;exact m
   grind
  .rw[<-hn,g2];subst Y;have h2:=C.R0 ZX (((List.range len).map (λj=>(v (o+j)).getD 0 undef)++[y]).toArray++rs) e;have e2:(((List.range len).map (λj=>(v (o+j)).getD 0 undef)++[y]).toArray++rs).size=A:=θ
   rw[e2,<-bK A]at h2;refine K w.heap.size 0 0 _ A _ _ (.inr rfl) (.inr rfl) (h2.inst p) (λj l=>?_) ?_ (.inr ⟨ω,rfl⟩) ψ ω (zX.env.put hd) (put_defers _ _ _)
   .grind
   .rw[bK,ve ψ];simp
def Ma(o:Oper)(x y d Q:Nat):Bool:=o.guard.isNone&&(match o.dst with|some d'=>d'==d|none=>false)&&(match o.op with
 |.slice t (.tmp x') (some (.tmp y')) none none=>t==Q&&x'==x&&y'==y
 |_=>false)
def HY{y:Nat}(h:Ma o x y d Q=true):o.guard=none/\o.dst=some d/\o.op=.slice Q (.tmp x) (some (.tmp y)) none none:=by
 unfold Ma at h;simp only[bZ]at h;let⟨⟨_,_⟩,a⟩:=h;have a:o.guard=none:=by
  simp_all
 grind
def vr(a:Qc prog Q e n S=true)(w:aj)(d:l<=q)(b:q<=cap):(Instr.sliceAt Q (.slice (some ca) q cap) (some (.int .i64 (l:Int))) none none).run prog w=.ok (.slice (some (if cap=l then ca else ca.add (l*n))) (q-l) (cap-l)) w/\
 (Instr.sliceAt Q (.slice (some ca) q cap) (some (.int .i64 (l:Int))) none none).events prog w #[]=#[]:=by
 let⟨inf,z,c,b,_,e,_,_,f⟩:=kv a;have a:(l:Int)<=(q:Int):=ω
 constructor
 .simp[Instr.sliceAt,run_underlying c,Instr.slice,Instr.sliceBounds,Instr.sliceBound,asIntOf,sizeOf,typeInfo,b,e,d];grind
 .simp[Instr.sliceAt,run_underlying c,Instr.slice,Instr.sliceBounds,Instr.sliceBound,asIntOf,sizeOf,typeInfo,b,d]
def bkS(u:Qc prog Q e n S=true)(F:aB prog J (DX Ok) Ψ)(hB:HB B Ok)(hk:b.kind=.normal){f k:Nat}{j:iy}{g:aN}(q:Nat)(A:List Hint)(C:iK)(I:Env){E:Env}(x y d:Nat){ln:Nat}(ht:mP (pc prog f k j g)=true)(s:((aL (pc prog f k j g))[q]?).map (λo=>Ma o x y d Q)=some true){e:Int}(R:e=(l:Int))(h:Ay prog [] [] (aL (pc prog f k j g)) q E M c c [x,y] (I.map Prod.fst) (iD prog B N E M c A C (aL (pc prog f k j g)) q)=some ⟨[some (.slice (some ca) ln cap),some (i6 e)],I.map (λp=>some p.2),M,c,[],[],[],true⟩)(hq:K5 Prod.fst (iD prog B N E M c A C (aL (pc prog f k j g)) q)=K5 Prod.snd (iD prog B N E M c A C (aL (pc prog f k j g)) q))(halt:tT prog (aL (pc prog f k j g)) [] [] true (iD prog B N E M c A C (aL (pc prog f k j g)) q)=tT prog (aL (pc prog f k j g)) [] [] false (iD prog B N E M c A C (aL (pc prog f k j g)) q))(D:(x==y)=false)(e:(I.map Prod.fst).contains d=false)(P:.inRegion (aL (pc prog f k j g)) (bP (q+1) ((aL (pc prog f k j g)).size-(q+1)))::behind (pc prog f k j g)=pc prog f (k+1) j (g++[q+1]))(z:l<=ln)(W:ln<=cap)(zK:St Ok B N E M c a w)(K:∀X w',St Ok B N ((d,.slice (some (if cap=l then ca else ca.add (l*n))) (ln-l) (cap-l))::I) M c X w'->X.defers=a.defers->Ψ (G (b.at X (pc prog f (k+1) j (g++[q+1]))) cs) w'):Ψ (G (b.at a (pc prog f k j g)) cs) w:=by
 subst R;cases t:(aL (pc prog f k j g))[q]? with
 |none=>rw[t]at s;cases s
 |some o=>
  rw[t]at s;let⟨g1,g2,Z⟩:=HY (Option.some.inj s);refine X5 (Post:=λv w'=>v=.slice (some (if cap=l then ca else ca.add (l*n))) (ln-l) (cap-l)/\Sat Ok w' M/\w'.heap.size=B+c) [] [] F aK hB hk q A C c [(x,.slice (some ca) ln cap),(y,i6 l)] I M c [] [] [] ht t h hq (λH a=>?_) halt eU eU eU zK (λv a m=>?_) (λa1 O U L KK=>?_) (λv a a2 w3 m Y V T a=>?_)
  .simp_all
  .exact⟨m.2.1.dB nofun,ω⟩
  .have b:a1.eval (.tmp x)=.slice (some ca) ln cap:=by rw[L.env.eval (by simp[kn,look])];simp[ev,look]
   have a:a1.eval (.tmp y)=.int .i64 (l:Int):=by rw[L.env.eval (by simp[kn,look,D])];simp[ev,look,D]
   refine F.AZ t (by simp[Region.wanted,g1]) ξ (λH=>?_) λH c c=>?_
   .unfold execOp;simp only[Z,fI,YU,b,a,YV,(vr u (O.at H) (ca:=ca) z W).1,(vr u (O.at H) (ca:=ca) z W).2,xg];rfl
   .unfold execOp;simp only[Z,fI,YU,b,a,Am,(vr u (O.at H) (ca:=ca) z W).1,Hv];exact c _ (KK _ _ ⟨rfl,L.sat,L.sz⟩)
  .obtain⟨rfl,z2,a⟩:=m;rw[P];rw[g2]at Y;exact K a2 w3 ⟨Y,z2.keep T,ω⟩ V
def oB(F:aB prog J (DX Ok) Ψ)(j:HB B Ok){s:PS}{st q:Int}{c b a d:ay}(i:Sat Ok w (pM s++(oR lb 8 [c,b,i6 pd,a,d] true::C)))(p:Has C (tQ lb wi num s.k.J))(l:Has C (wF T s.k.A t (s.l.tk t).c Y))(o:Vc Ok s.ea s.l.el s.ec)(a:B<=w.heap.size)(d:s.l.el<1000000)(a:0<=pd/\pd<1000000)(K:∀f a c w',Sat Ok w' (pM (s.dI f a c (s.l.say t num q 0))++(oR lb 8 [i6 st,i6 s.l.now,i6 (pd+1),i6 0,.slice none 0 0] true::C))->Vc Ok (some ⟨f,0,none⟩) (s.l.el+1) a->w.heap.size<=w'.heap.size->Ψ (G (cf.finish (.tuple #[])) cs) w'):
 Ψ (G (Frame.enter prog 174 #[ptr lb,i6 st,ptr T,i6 q] .normal) (cf::cs)) w:=by
 have e:IntKind.wrap .i64 (pd+1)=pd+1:=aA ω ω;replace i:=i.get (l.cons.app (pM s));refine cJ func174 i 36 λD b b b b h g n m=>aq (λM=>bh 8 (0,4) (.slice none 0 0) (bh 8 (0,3) (i6 0) (bh 8 (0,2) (i6 (IntKind.wrap .i64 (pd+1))) (bh 8 (0,1) (i6 s.l.now) (bh 8 (0,0) (i6 st) (M)))))) 0 F j b g n 58 [0,0,0,1,1,0,0,1,8,0,0,3,8,0,2,3] 1 [] [(34,i6 q),(33,ptr T),(32,ptr lb)] 42 1 [] λg m k g n n n=>?_;rw[e]at k;have n:Sat Ok m (wF T s.k.A t (s.l.tk t).c Y::(pM s++(oR lb 8 [i6 st,i6 s.l.now,i6 (pd+1),i6 0,.slice none 0 0] true::C))):=k.sat.cast ρ;refine ah F b g k 35 149 #[ptr lb,ptr T,i6 q,i6 0] λe e=>Er F j n.tail (p.cons) (l.cons) o ω d λf a c d l d g=>e _ _ _ l λe e l e g=>Rb F j b e l 1 [] 1 [] [] 44 1 [] λe j g e l l l=>cC F g b h e [] (.tuple #[]) ?_;exact K f a c j g.sat d ω
abbrev O6(lb:Nat)(x0 x1 x2 x3:ay)(H:Addr)(c:Nat)(L:iy)(y:ju):List aH:=[oR lb 8 [x0,x1,x2,x3,.slice (some H) L.length c] false,BN H L,oR lb 3 [i6 y.a,i6 y.b,i6 y.c,i6 y.d,i6 y.e] false]
def Ax{f e d b:ay}(h:Fr (Wr (O6 lb f e d b H c L y)) w w'):Fr (λ_=>False) w w':=h.Cc λa ⟨i,r,j,g,a,_⟩=>by
 rw[dF]at g;grind
def v9(F:aB prog J (DX Ok) Ψ)(p:HB B Ok){D:aC}(b:D.kind=.normal)(l:D.fn=170){cf:aC}{cs:cO}{lb c B1:Nat}{I E C A:ay}{H:Addr}{L:iy}{y:ju}{M:aj}(P:L.length<=30)(k:B<=B1):
 ∀(m i:Nat)(h:Act)(w:aj),i+m=L.length->h.defers=[]->w.heap.size=B1->Fr (λ_=>False) M w->St Ok B1 32 [(11,i6 i),(10,i6 L.length),(9,.slice (some H) L.length c),(3,i6 (dY (L.take i))),(0,ptr lb)] (O6 lb I E C A H c L y) 0 h w->
   (∀x w',x.defers=[]->w'.heap.size=B1->Fr (λ_=>False) M w'->St Ok B1 32 [(11,i6 L.length),(10,i6 L.length),(9,.slice (some H) L.length c),(3,i6 (dY L)),(0,ptr lb)] (O6 lb I E C A H c L y) 0 x w'->Ψ (G (D.at x (pc prog 170 20 [] [])) (cf::cs)) w')->Ψ (G (D.at h (pc prog 170 20 [] [])) (cf::cs)) w
 |0,i,h,w,t,a,j,o,n,K=>by
  rw[jI]at t;subst t;rw[List.take_length]at n;exact K h w a j o n
 |m+1,i,h,w,t,a,j,o,n,K=>by
  have O:IntKind.wrap .i64 ((i:Int)+1)=((i+1:Nat):Int):=by rw[aA ω ω];rfl
  have g:=uS (L:=L) (i:=i) ω;have u:=Yy (L.take i);rw[uq]at u;cases N:L.getD i false with
  |true=>
   rw[N,sJ rfl]at g;have j:IntKind.wrap .i64 ((dY (L.take i):Int)+1)=((dY (L.take (i+1)):Nat):Int):=by rw[g,aA ω ω];rfl
   refine TP F p b a n 31 [1,i,0,101] 106 [] [(11,i6 (IntKind.wrap .i64 ((↑i:Int)+1))),(3,i6 (IntKind.wrap .i64 ((↑(dY (List.take i L)):Int)+1))),(10,i6 (↑(List.length L):Int)),(9,.slice (some H) (List.length L) c),(0,ptr lb)] 51 7 [] [] [(List.getD L i false,true),(decide ((↑i:Int)<(↑(List.length L):Int)),true)] [((↑i:Int),List.length L)] [(1,(i,List.length L))] λv q f d r s e=>?_;rw[O,j]at f;replace f:=f.dB [(11,i6 ((i+1:Nat):Int)),(10,i6 L.length),(9,.slice (some H) L.length c),(3,i6 (dY (L.take (i+1)))),(0,ptr lb)] rfl;rw[show pc prog 170 51 (Bo 7) []=pc prog 170 20 [] [] by kernel_rfl];exact v9 F p b l P k m (i+1) v q ω d ω (o.trans (Ax e) (λ_ z=>z.elim)) f K
  |false=>
   rw[N,af δ]at g;replace g:dY (L.take (i+1))=dY (L.take i):=g;refine TP F p b a n 27 [1,i,0,101] 74 [] [(11,i6 (IntKind.wrap .i64 ((↑i:Int)+1))),(10,i6 (↑(List.length L):Int)),(9,.slice (some H) (List.length L) c),(3,i6 (↑(dY (List.take i L)):Int)),(0,ptr lb)] 47 5 [] [] [(List.getD L i false,false),(decide ((↑i:Int)<(↑(List.length L):Int)),true)] [((↑i:Int),List.length L)] [(1,(i,List.length L))] λv q f d r s e=>?_;rw[O,<-g]at f;rw[show pc prog 170 47 (Bo 5) []=pc prog 170 20 [] [] by kernel_rfl];exact v9 F p b l P k m (i+1) v q ω d ω (o.trans (Ax e) (λ_ z=>z.elim)) f K
def JS(F:aB prog J (DX Ok) Ψ)(g:HB B Ok){f e d b:ay}(i:L.length<=30)(a:1<=y.c/\y.c<=100)(h:B<=w.heap.size)(h:Sat Ok w (O6 lb f e d b H c L y))(K:∀w',Fr (λ_=>False) w w'->Ψ (G (cf.finish (.bool (over y L))) cs) w'):
 Ψ (G (Frame.enter prog 170 #[ptr lb] .normal) (cf::cs)) w:=by
 have b:decide ((L.length:Int)<(L.length:Int))=false:=ψ
 have b:=Yy L;have b:0<=y.c*(L.length:Int):=YE ω ω;have b:y.c*(L.length:Int)<=100*30:=YT a.2 ω ω ω;have e:IntKind.wrap .i64 (100*(dY L:Int))=100*(dY L:Int):=aA ω ω;have d:IntKind.wrap .i64 (y.c*(L.length:Int))=y.c*(L.length:Int):=aA ω ω;refine cJ func170 h 32 λD a l a a b f j h=>Rb F g a f j 20 [0,0,4,1] 1 [] [(11,i6 0),(10,i6 (↑(List.length L):Int)),(9,.slice (some H) (List.length L) c),(3,i6 0),(0,ptr lb)] 20 1 [] λj h k c f f f=>v9 F g a b i (B1:=l) ω L.length 0 j h (bK _) c ω (Ax f) k λc c f c c h=>TP F g a f h 12 [2,0,2,1,0,0,4,1] 4 [12] [(2,.bool (decide (IntKind.wrap .i64 (100*(↑(dY L):Int))≥IntKind.wrap .i64 (y.c*(↑(List.length L):Int)))))] 32 2 [12] [] [(decide ((↑(List.length L):Int)<(↑(List.length L):Int)),false)] [] [] λf h i f g g g=>cC F i a b f [] (.bool (decide (IntKind.wrap .i64 (100*(↑(dY L):Int))≥IntKind.wrap .i64 (y.c*(↑(List.length L):Int))))) ?_;rw[e,d,show decide (100*(dY L:Int)≥y.c*(L.length:Int))=over y L by unfold over;grind];exact K h (c.trans (Ax g) (λ_ z=>z.elim))
def Sat.vw{s:PS}{o:Nat}{k i d b:ay}(h:Sat Ok w (pM s++(oR lb 8 [k,i,d,b,.slice (some ⟨g,o,none⟩) L.length c] true::fR ⟨g,0,none⟩ 1 v (o+c) true::C)))(x:Has C (oR lb 3 [i6 y.a,i6 y.b,i6 y.c,i6 y.d,i6 y.e] false))(s:L.length<=c)(u:∀j,j<L.length->(v (o+j)).getD 0 undef=.bool (L.getD j false)):Sat Ok w (O6 lb k i d b ⟨g,o,none⟩ c L y):=by
 have q:=h.mem (r:=oR lb 8 [k,i,d,b,.slice (some ⟨g,o,none⟩) L.length c] true) ψ;have p:=h.mem (r:=fR ⟨g,0,none⟩ 1 v (o+c) true) ψ;let⟨_,b,m⟩:=x;have t:=h.mem (r:=oR lb 3 [i6 y.a,i6 y.b,i6 y.c,i6 y.d,i6 y.e] false) (by rw[dF]at m;grind);refine sat_iff.2 ⟨λr l=>?_,?_⟩
 .simp only[ak,bH,or_false]at l;rcases l with rfl|rfl|rfl
  .exact⟨q.val,λj a=>⟨(q.ok j a).1,nofun⟩,nofun,nofun⟩
  .have key:∀j:Ix,(BN (⟨g,o,none⟩:Addr) L).has j->(fR ⟨g,0,none⟩ 1 v (o+c) true).has (o+j.1,0)/\(BN (⟨g,o,none⟩:Addr) L).ad j=(fR ⟨g,0,none⟩ 1 v (o+c) true).ad (o+j.1,0)/\(BN (⟨g,o,none⟩:Addr) L).get j=(fR ⟨g,0,none⟩ 1 v (o+c) true).get (o+j.1,0):=λj a=>by
    let⟨j,f⟩:=j;have A:j<L.length:=a.1;have b:f<1:=a.2;obtain rfl:f=0:=ω
    exact⟨⟨χ,aD⟩,by simp[ey],(u j A).symm⟩
   exact⟨λj a=>by rw[(key j a).2.1,(key j a).2.2];exact p.val _ (key j a).1,λj a=>⟨by rw[(key j a).2.1];exact(p.ok _ (key j a).1).1,nofun⟩,nofun,nofun⟩
  .exact t
 .refine WE λr l a a a=>?_;grind
def FL(F:aB prog J (DX Ok) Ψ)(i:HB B Ok){s:PS}{o:Nat}{st:Int}(Z:Sat Ok w (pM s++(oR lb 8 [i6 st,i6 si,i6 pd,i6 pr,.slice (some ⟨g,o,none⟩) L.length c] true::fR ⟨g,0,none⟩ 1 v (o+c) true::C)))(h1:Has C (tQ lb wi num s.k.J))(h2:Has C (wF T s.k.A t (s.l.tk t).c Y))(h3:Has C (oR lb 3 [i6 y.a,i6 y.b,i6 y.c,i6 y.d,i6 y.e] false))(hv:Vc Ok s.ea s.l.el s.ec)(Q:B<=w.heap.size)(E:s.l.el<1000000)(X:0<=pd/\pd<1000000)(B:0<L.length)(hLc:L.length<=c)(B:(L.length:Int)<=y.a+1)(hy:(1<=y.a/\y.a<=20)/\(1<=y.c/\y.c<=100))(B:∀j,j<L.length->(v (o+j)).getD 0 undef=.bool (L.getD j false)){d:iy}(hL':d=if(L.length:Int)>y.a then L.tail else L)(K1:¬(y.b<=d.length/\over y d=true)->∀B Q w',B+Q=o+c->d.length<=Q->(∀j,j<d.length->(v (B+j)).getD 0 undef=.bool (d.getD j false))->Sat Ok w' (pM s++(oR lb 8 [i6 st,i6 si,i6 pd,i6 pr,.slice (some ⟨g,B,none⟩) d.length Q] true::fR ⟨g,0,none⟩ 1 v (B+Q) true::C))->w.heap.size<=w'.heap.size->Ψ (G (cf.finish (.tuple #[])) cs) w')(K2:y.b<=d.length/\over y d=true->∀P e k w',Sat Ok w' (pM (s.dI P e k (s.l.say t num 9 0))++(oR lb 8 [i6 1,i6 s.l.now,i6 (pd+1),i6 0,.slice none 0 0] true::C))->Vc Ok (some ⟨P,0,none⟩) (s.l.el+1) e->w.heap.size<=w'.heap.size->Ψ (G (cf.finish (.tuple #[])) cs) w'):
 Ψ (G (Frame.enter prog 176 #[ptr lb,ptr T] .normal) (cf::cs)) w:=by
 obtain⟨l,B,t⟩:∃l:Nat,(l=if(L.length:Int)>y.a then 1 else 0)/\(l:Int)=(if IntKind.wrap .i64 ((L.length:Int)-y.a)>0 then IntKind.wrap .i64 ((L.length:Int)-y.a)else 0):=by
  rw[aA ω ω];grind
 have w:d=L.drop l:=by
  rw[hL',B];split<;>simp
 have w:l<=1:=χ
 have w:l<L.length:=by
  grind
 have G:d.length=L.length-l:=χ
 replace Z:=Z.get (h3.cons.cons.app (pM s));refine cJ func176 Z 40 λD B B1 B b x B S0 Q=>Rb F i b B S0 1 [] 1 [] [(0,ptr lb),(1,ptr T)] 1 1 [] λB B S1 B Q Q Q=>bkS t152 F (λa wr z=>i a wr ω) b 16 (Hq [8,0,4,1,8,0,4,1,0,0,0,1]) [] [(4,ptr lb),(0,ptr lb),(1,ptr T)] 8 19 20 (ca:=⟨g,o,none⟩) (l:=l) (ln:=L.length) (cap:=c) ρ ρ t.symm ρ ρ ρ rfl ρ ρ (Nat.le_of_lt w) hLc S1 λa a S u=>?_;have t:(if c=l then(⟨g,o,none⟩:Addr)else(⟨g,o,none⟩:Addr).add (l*1))=⟨g,o+l,none⟩:=by rw[af ω,ey,lm]
 rw[t,<-G]at S;rw[B]at u;have t:a.heap.size=B1:=by have:=S.sz;omega
 have m:∀j,j<d.length->(v (o+l+j)).getD 0 undef=.bool (d.getD j false):=λj j=>by
  grind
 have p:o+l+(c-l)=o+c:=ω
 have fin:∀f:World,a.heap.size<=f.heap.size->Sat Ok f (bh 8 (0,4) (.slice (some (Addr.mk g (o+l) none)) (List.length d) (c-l)) (oR lb 3 [i6 y.a,i6 y.b,i6 y.c,i6 y.d,i6 y.e] false::(pM s++(oR lb 8 [i6 st,i6 si,i6 pd,i6 pr,.slice (some ⟨g,o,none⟩) L.length c] true::fR ⟨g,0,none⟩ 1 v (o+c) true::C))))->Sat Ok f (pM s++(oR lb 8 [i6 st,i6 si,i6 pd,i6 pr,.slice (some ⟨g,o+l,none⟩) d.length (c-l)] true::fR ⟨g,0,none⟩ 1 v (o+l+(c-l)) true::C)):=λf A h=>by
  rw[p];have a:Sat Ok f (oR lb 3 [i6 y.a,i6 y.b,i6 y.c,i6 y.d,i6 y.e] false::(pM s++(oR lb 8 [i6 st,i6 si,i6 pd,i6 pr,.slice (some ⟨g,o+l,none⟩) d.length (c-l)] true::fR ⟨g,0,none⟩ 1 v (o+c) true::C))):=h.cast ρ;exact a.tail
 by_cases I:y.b<=d.length
 .have H:decide ((d.length:Int)≥y.b)=true:=χ
  refine aX (λM=>bh 8 (0,4) (.slice (some (Addr.mk g (o+l) none)) (List.length d) (c-l)) (M)) 0 F i b u S 9 [8,0,4,1,8,0,4,1,0,0,1,1] 6 [9] [(34,ptr lb),(33,.bool true),(0,ptr lb),(1,ptr T)] 11 1 [17,9] [] [(decide ((↑(List.length d):Int)≥y.b),true)] [] [] λa3 f O r V A mH=>ah F b r O 35 170 #[ptr lb] λa h=>?_;have j:=fin f ω O.sat;refine JS F i (L:=d) (y:=y) ω hy.2 ω (j.vw h3 ω m) λa a=>?_;have s:=a.size;refine h _ _ _ (j.keep a) λa a R K a=>?_;cases n:over y d with
  |true=>
   rw[n]at R;refine Rb F i b K R 6 [] 7 [] [(38,ptr T),(37,ptr lb)] 18 3 [17,9] λa5 w5 N q U W qO=>ah F b q N 39 174 #[ptr lb,i6 1,ptr T,i6 9] λa a=>oB F i N.sat h1.cons h2.cons hv ω E X λP e k h s h j=>a _ _ _ s λa a s a j=>Rb F i b a s 1 [] 1 [] [] 20 3 [17,9] λa s j a t t t=>cC F j b x a [] (.tuple #[]) ?_;exact K2 ⟨I,n⟩ P e k s (j.sat.sub (nN (.cons_cons _ (.cons _ (.refl _))) _)) h ω
  |false=>
   rw[n]at R;refine Rb F i b K R 4 [] 5 [] [] 16 2 [17,9] λa5 w5 N q U W qO=>cC F N b x q [] (.tuple #[]) ?_;exact K1 (λz=>χ) (o+l) (c-l) w5 p ω m N.sat ω
 .have H:decide ((d.length:Int)≥y.b)=false:=χ
  refine aX (λM=>bh 8 (0,4) (.slice (some (Addr.mk g (o+l) none)) (List.length d) (c-l)) (M)) 0 F i b u S 14 [8,0,4,1,8,0,4,1,0,0,1,1] 84 [9] [] 16 2 [17,9] [] [(decide ((↑(List.length d):Int)≥y.b),false)] [] [] λa3 f O r V A mH=>cC F O b x r [] (.tuple #[]) ?_;exact K1 (λz=>I z.1) (o+l) (c-l) f p ω m (fin f ω O.sat) ω
def FM(F:aB prog J (DX Ok) Ψ)(f:HB B Ok){s:PS}{o:Nat}{st:Int}(M:Sat Ok w (pM s++(oR lb 8 [i6 st,i6 si,i6 pd,i6 pr,.slice (some ⟨g,o,none⟩) L.length c] true::fR ⟨g,0,none⟩ 1 v (o+c) true::C)))(h1:Has C (tQ lb wi num s.k.J))(h2:Has C (wF T s.k.A t (s.l.tk t).c Y))(h3:Has C (oR lb 3 [i6 y.a,i6 y.b,i6 y.c,i6 y.d,i6 y.e] false))(hv:Vc Ok s.ea s.l.el s.ec)(x:B<=w.heap.size)(h:s.l.el<1000000)(z:0<=pd/\pd<1000000)(B:L.length<=c)(x:(L.length:Int)<=y.e)(hy:(1<=y.c/\y.c<=100)/\(1<=y.e/\y.e<=9))(x:∀j,j<L.length->(v (o+j)).getD 0 undef=.bool (L.getD j false))(K1:(L.length:Int)≠y.e->∀w',Sat Ok w' (pM s++(oR lb 8 [i6 st,i6 si,i6 pd,i6 pr,.slice (some ⟨g,o,none⟩) L.length c] true::fR ⟨g,0,none⟩ 1 v (o+c) true::C))->w.heap.size<=w'.heap.size->Ψ (G (cf.finish (.tuple #[])) cs) w')(K2:(L.length:Int)=y.e->∀r b d w',Sat Ok w' (pM (s.dI r b d (s.l.say t num (bif over y L then 9 else 11) 0))++(oR lb 8 [i6 (bif over y L then 1 else 0),i6 s.l.now,i6 (pd+1),i6 0,.slice none 0 0] true::C))->Vc Ok (some ⟨r,0,none⟩) (s.l.el+1) b->w.heap.size<=w'.heap.size->Ψ (G (cf.finish (.tuple #[])) cs) w'):
 Ψ (G (Frame.enter prog 177 #[ptr lb,ptr T] .normal) (cf::cs)) w:=by
 have c:=M;replace M:=M.get (h3.cons.cons.app (pM s));refine cJ func177 M 22 λD c c c a q H S0 c=>?_;by_cases k:(L.length:Int)=y.e
 .refine TP F f a H S0 10 [8,0,4,1,0,0,4,1] 4 [9] [(14,ptr lb),(0,ptr lb),(1,ptr T)] 10 2 [9] [] [(decide ((↑(List.length L):Int)<y.e),false)] [] [] λa1 w1 u p S X o9=>ah F a p u 15 170 #[ptr lb] λc g=>JS F f (L:=L) (y:=y) ω hy.1 ω (u.sat.tail.vw h3 B x) λc c=>?_;have j:=c.size;refine g _ _ _ (u.sat.tail.keep c) λc c N E c=>?_;cases A:over y L with
  |true=>
   rw[A]at N K2;refine Rb F f a E N 5 [] 7 [] [(17,ptr T),(16,ptr lb)] 16 6 [9] λa3 w3 K n R W mH=>ah F a n K 18 174 #[ptr lb,i6 1,ptr T,i6 9] λDl e=>oB F f K.sat h1.cons h2.cons hv ω h z λr b d w4 Z i V=>e _ _ _ Z λa4 B4 S4 m Q=>Rb F f a m S4 1 [] 1 [] [] 18 6 [9] λa5 O I l P U qO=>cC F I a q l [] (.tuple #[]) ?_;exact K2 k r b d O (I.sat.sub (nN (.cons_cons _ (.cons _ (.refl _))) _)) i ω
  |false=>
   rw[A]at N K2;refine Rb F f a E N 5 [] 5 [] [(20,ptr T),(19,ptr lb)] 16 4 [9] λa3 w3 K n R W mH=>ah F a n K 21 174 #[ptr lb,i6 0,ptr T,i6 11] λDl e=>oB F f K.sat h1.cons h2.cons hv ω h z λr b d w4 Z i V=>e _ _ _ Z λa4 B4 S4 m Q=>Rb F f a m S4 1 [] 1 [] [] 18 4 [9] λa5 O I l P U qO=>cC F I a q l [] (.tuple #[]) ?_;exact K2 k r b d O (I.sat.sub (nN (.cons_cons _ (.cons _ (.refl _))) _)) i ω
 .refine TP F f a H S0 6 [8,0,4,1,0,0,4,1] 6 [9] [] 6 3 [9] [] [(decide ((↑(List.length L):Int)<y.e),true)] [] [] λa1 w1 u p S X o9=>cC F u a q p [] (.tuple #[]) ?_;exact K1 k w1 u.sat.tail ω
def sF{x:Int}(a:x≠7):∀(ch:List iN),ch≠[]->(∀y∈ch.dropLast,y.k=7)->(ch.any λy=>y.k==x)=decide ((match ch.getLast? with|some y=>y.k|none=>0)=x)
 |[],h,_=>absurd rfl h
 |[y],_,_=>χ
 |y::z::ch,_,h=>by
  have b:y.k=7:=h y ψ;have b:(y.k==x)=false:=χ
  rw[Ao,b,uh,sF a (z::ch) ψ (λu a=>h u ξ)];rfl
def uB(F:aB prog J (DX Ok) Ψ)(g:HB B Ok){b:Bk}{e:ay}(k:G5 b)(i:(b.k≠2/\e=.nilIface)\/(b.k=2/\Yu C e b.ch))(t:Sat Ok w C)(A:B<=w.heap.size)(K:∀w',Sat Ok w' C->w.heap.size<=w'.heap.size->Ψ (G (cf.finish (.bool (decide (bq b=3\/bq b=5)))) cs) w'):
 Ψ (G (Frame.enter prog 175 #[e] .normal) (cf::cs)) w:=by
 rcases i with ⟨w,rfl⟩|⟨w,i⟩
 .have A:b.ch=[]:=by
   rcases k.2.2 with ⟨_,z⟩|⟨z,_⟩|⟨_,z⟩
   .exact z
   .omega
   .exact z
  have w:bq b=0:=by unfold bq;rw[A];rfl
  rw[w]at K;refine cJ func175 t 11 λD I L x a d f r n=>UF F g a d f r 62 [] 521599 [] 2 (.bool false) 16 1 [] λs l m o=>K s l.sat ω
 .have c:b.ch≠[]:=by
   rcases k.2.2 with ⟨z,_⟩|⟨_,_,z⟩|⟨z,_⟩
   .omega
   .exact z
   .omega
  have H:(b.ch.any λy=>y.k==3)=decide (bq b=3):=sF δ b.ch c k.2.1;have E:(b.ch.any λy=>y.k==5)=decide (bq b=5):=sF δ b.ch c k.2.1;obtain⟨q,v⟩:∃q,e=.iface 168 (ptr q):=by
   cases p:b.ch with
   |nil=>simp_all
   |cons y ch=>rw[p]at i;let⟨q,_,h,_⟩:=i;simp_all
  subst v;refine cJ func175 t 11 λD I L x a d f r n=>Rb F g a f r 8 [] 1 [] [(4,.iface 171 (i6 3)),(3,.iface 168 (ptr q)),(0,.iface 168 (ptr q))] 8 1 [] λe s l e m o f=>ah F a e l 5 163 #[.iface 168 (ptr q),.iface 171 (i6 3)] λe e=>IM F g i c l.sat ω λf k f=>e _ _ _ k λe e j e f=>?_;rw[H]at j;by_cases h:bq b=3
  .rw[show decide (bq b=3)=true by simp_all]at j;rw[show decide (bq b=3\/bq b=5)=true by simp[h]]at K;refine UF F g a d e j 7 [] 127 [] 2 (.bool true) 16 1 [] λm f k l=>K m f.sat ω
  .rw[show decide (bq b=3)=false by simp_all]at j;rw[show decide (bq b=3\/bq b=5)=decide (bq b=5) by simp[h]]at K;refine Rb F g a e j 3 [] 21 [] [(8,.iface 171 (i6 5)),(6,.bool false),(7,.iface 168 (ptr q))] 12 1 [] λe m f e k l h=>ah F a e f 9 163 #[.iface 168 (ptr q),.iface 171 (i6 5)] λe e=>IM F g i c f.sat ω λc f c=>e _ _ _ f λc c u c e=>?_;rw[E]at u;refine UF F g a d c u 3 [] 1 [] 2 (.bool (decide (bq b=5))) 16 1 [] λa c b b=>K a c.sat ω
abbrev mI(lb:Nat)(g:Gt)(f:Fb):List aH:=[oR lb 8 [i6 g.st,i6 g.si,i6 g.pd,i6 g.pr,su f g.la.length] true,fR ⟨f.g,0,none⟩ 1 f.v (f.o+f.c) true]
def BK(Ok:dh)(Ψ:gi)(cf:aC)(cs:cO)(w:aj)(s:PS)(C:aW)(lb j:Nat)(L:LS):Prop:=
 ∀ea ec vv f' w',Sat Ok w' (pM {s with ea:=ea,ec:=ec,vv:=vv,f:=upd s.f j f',l:=L}++(mI lb (L.gt j) f'++C))->Vc Ok ea L.el ec->qv Ok (L.gt j).la f'->w.heap.size<=w'.heap.size->Ψ (G (cf.finish (.tuple #[])) cs) w'
def jC:Fb:=⟨false,0,0,0,λ_=>[]⟩
def Zj:qv Ok [] jC:=⟨λ_=>τ,nofun,nofun,nofun⟩
def r7(L:LS)(j:Nat)(g:Gt):(L.aO j g).gt j=g:=by simp[LS.aO,upd]
def BK.turn{cf:aC}{cs:cO}{w w':aj}{s:PS}{C:aW}{lb j t g' cap':Nat}{vs':eX}{st q:Int}{L:LS}(K:BK Ok Ψ cf cs w s C lb j ((L.aO j ((L.gt j).turn L.now st)).say t j q 0))(a:L.now=s.l.now/\L.el=s.l.el/\L.ev=s.l.ev/\L.us=s.l.us/\L.ou=s.l.ou/\(L.tk t).c=(s.l.tk t).c)(h:Sat Ok w' (pM (s.dI g' cap' vs' (s.l.say t j q 0))++(oR lb 8 [i6 st,i6 s.l.now,i6 ((L.gt j).pd+1),i6 0,.slice none 0 0] true::C)))(b:Vc Ok (some ⟨g',0,none⟩) (s.l.el+1) cap')(b:w.heap.size<=w'.heap.size):Ψ (G (cf.finish (.tuple #[])) cs) w':=by
 let⟨d,_,_,_,_,e⟩:=a;have a:((L.aO j ((L.gt j).turn L.now st)).say t j q 0).gt j=(L.gt j).turn L.now st:=r7 L j _;refine K (some ⟨g',0,none⟩) cap' vs' jC w' ?_ (by show Vc Ok _ (L.el+1) _;simp_all) (by rw[a];exact Zj) b;rw[a];have a:Sat Ok w' (fR ⟨jC.g,0,none⟩ 1 jC.v (jC.o+jC.c) true::(pM (s.dI g' cap' vs' (s.l.say t j q 0))++(oR lb 8 [i6 st,i6 s.l.now,i6 ((L.gt j).pd+1),i6 0,.slice none 0 0] true::C))):=h.qj rfl rfl;have c:=a.perm (fA [fR ⟨jC.g,0,none⟩ 1 jC.v (jC.o+jC.c) true] (pM (s.dI g' cap' vs' (s.l.say t j q 0))++[oR lb 8 [i6 st,i6 s.l.now,i6 ((L.gt j).pd+1),i6 0,.slice none 0 0] true]) C|>.trans ψ|>λx=>(show(fR ⟨jC.g,0,none⟩ 1 jC.v (jC.o+jC.c) true::(pM (s.dI g' cap' vs' (s.l.say t j q 0))++(oR lb 8 [i6 st,i6 s.l.now,i6 ((L.gt j).pd+1),i6 0,.slice none 0 0] true::C))).Perm (pM (s.dI g' cap' vs' (s.l.say t j q 0))++(oR lb 8 [i6 st,i6 s.l.now,i6 ((L.gt j).pd+1),i6 0,.slice none 0 0] true::fR ⟨jC.g,0,none⟩ 1 jC.v (jC.o+jC.c) true::C))from by simpa using x));have a:pM {s with ea:=some ⟨g',0,none⟩,ec:=cap',vv:=vs',f:=upd s.f j jC,l:=(L.aO j ((L.gt j).turn L.now st)).say t j q 0}=pM (s.dI g' cap' vs' (s.l.say t j q 0)):=by
  unfold pM PS.dI LS.say LS.aO;simp_all
 rw[a,d];exact c
def Oa(F:aB prog J (DX Ok) Ψ)(o:HB B Ok)(a:D.kind=.normal)(n:D.fn=173){a2:Act}{B2:Nat}{s:PS}{b:Bk}{f:Fb}(hg:Bc y (s.l.gt j) 1000000000000 0)(Qi:(s.l.gt j).st=0\/(s.l.gt j).st=2)(W:St Ok B2 43 [(9,.bool (decide (bq b=3\/bq b=5))),(0,ptr lb),(1,ptr T),(2,.bool (decide (b.k≠1)))] (pM s++(mI lb (s.l.gt j) f++C)) 0 a2 w)(V:a2.defers=[])(tM:w.heap.size=B2)(h1:Has C (tQ lb wi j s.k.J))(h2:Has C (wF T s.k.A t (s.l.tk t).c Y))(h3:Has C (oR lb 3 [i6 y.a,i6 y.b,i6 y.c,i6 y.d,i6 y.e] false))(hv:Vc Ok s.ea s.l.el s.ec)(u:qv Ok (s.l.gt j).la f)(yQ:B<=w.heap.size)(P:s.l.el<1000000)(hq:(s.l.tk t).q j=(s.l.gt j).pd)(hy:(1<=y.a/\y.a<=20)/\(1<=y.c/\y.c<=100)/\(1<=y.e/\y.e<=9))(K:BK Ok Ψ cf cs w s C lb j (s.l.count y t j b)):
 Ψ (G (D.at a2 (pc prog 173 5 [] [])) (cf::cs)) w:=by
 have B:=hg.pr;have B:=hg.pd;have B:(s.l.gt j).la.length<=20:=by rcases hg.st with ⟨_,z⟩|⟨z,_⟩|⟨_,z⟩<;>omega
 obtain⟨base,U,q⟩:∃base,su f (s.l.gt j).la.length=.slice base (s.l.gt j).la.length f.c/\((base=some ⟨f.g,f.o,none⟩/\f.s=true)\/base=none/\f.o=0/\f.c=0):=by
  cases E:f.s with
  |true=>exact⟨_,by unfold su;simp_all,.inl ⟨rfl,rfl⟩⟩
  |false=>
   let⟨z1,z2,z3⟩:=u.nil E;exact⟨none,by unfold su;simp_all,.inr ⟨rfl,z2,z3⟩⟩
 simp only[mI,U]at W;have G:=W.sat;have B:∀ba,base=some ba->f.g<w.heap.size:=λba z=>by
  rcases q with ⟨_,z1⟩|⟨z1,_⟩
  .have Q:=(u.len z1)
   have:=(G.mem (r:=fR ⟨f.g,0,none⟩ 1 f.v (f.o+f.c) true) ψ).val (0,0) ⟨χ,aD⟩;exact au this
  simp_all
 by_cases hlk:bq b=3\/bq b=5
 .have B:s.l.count y t j b=s.l.aO j {s.l.gt j with pr:=if(s.l.gt j).st=2 then(s.l.gt j).pr-1 else(s.l.gt j).pr}:=by unfold LS.count;simp_all
  rw[B]at K;rw[show decide (bq b=3\/bq b=5)=true by simp_all]at W;rcases Qi with Q|Q
  .rw[af ω]at K;refine TP F o a V W 13 [7,0,0,1] 19 [] [] 18 5 [] [] [((s.l.gt j).st==2,false)] [] [] λa3 w3 R h B G mH=>cC F R a n h [] (.tuple #[]) ?_;refine K s.ea s.ec s.vv f w3 ?_ hv (by rw[r7];exact u) ω;rw[r7];simp only[mI,U];exact R.sat
  .rw[sJ Q]at K;have Dz:IntKind.wrap .i64 ((s.l.gt j).pr-1)=(s.l.gt j).pr-1:=aA ω ω;refine aX (λM=>bh 7 (0,3) (i6 (IntKind.wrap .i64 ((s.l.gt j).pr-1))) (M)) 0 F o a V W 22 [7,0,0,1,7,0,3,1,7,0,3,1] 27 [] [] 27 7 [] [] [((s.l.gt j).st==2,true)] [] [] λa3 w3 R h B G mH=>cC F R a n h [] (.tuple #[]) ?_;rw[Dz]at R;refine K s.ea s.ec s.vv f w3 ?_ hv (by rw[r7];exact u) ω;rw[r7];simp only[mI,U];exact R.sat.cast ρ
 .rw[show decide (bq b=3\/bq b=5)=false by simp_all]at W;rw[pW hq hlk]at K;refine aq (λM=>bR (B2) [.bool (decide (b.k≠1))]::(M)) 1 F o a V W 12 [7,0,4,1] 5 [] [(28,.slice (some ⟨B2,0,none⟩) 1 1),(26,.slice base (List.length (s.l.gt j).la) f.c),(22,ptr lb),(0,ptr lb),(1,ptr T)] 17 2 [] λa3 w3 R h B G mH=>Wo t152 δ F o a 26 28 29 9 0 (g:=f.g) (o0:=0) (o:=f.o) (base:=base) (len:=(s.l.gt j).la.length) (cap:=f.c) (y:=.bool (decide (b.k≠1))) (v:=f.v) ρ ρ δ rfl rfl (q.imp (λz=>ξ) id) rfl ⟨az _,λ_=>rfl⟩ rfl rfl (λba z=>⟨χ,?_⟩) ?_ ω ω ω R λp b4 r O L a4 w4 B _ h4 z1 z2 z3 B z5 KU I=>?_
  .rcases q with ⟨_,c⟩|⟨c,_⟩
   .exact u.ok c
   .rw[c]at z;cases z
  .rcases q with ⟨_,c⟩|⟨c,v,X⟩
   .exact(u.len c).2
   .cases E:f.s with
    |true=>have:=(u.len E).2;omega
    |false=>rw[(u.nil E).1];simp
  obtain rfl:b4=0:=ω
  rw[bK]at z3 KU;rw[show jB (pc prog 173 17 (Bo 2) [])=pc prog 173 18 [false] [] by kernel_rfl];obtain⟨g,hLx⟩:∃g,g=(s.l.gt j).la++[decide (b.k≠1)]:=⟨_,rfl⟩;have hll:(s.l.gt j).la.length+1=g.length:=ξ
  have Uu:∀i,i<g.length->(O (r+i)).getD 0 undef=.bool (g.getD i false):=λi B=>by
   by_cases e:i=(s.l.gt j).la.length
   .grind
   .rw[z1 i ω,u.val i ω,hLx];grind
  have U1:∀(H:Addr)(wr:Bool),H.block=p->Ok H wr:=by
   rcases z3 with z|z
   .rcases q with ⟨e,c⟩|⟨c,_⟩
    .rw[e]at z;cases z;exact u.ok c
    .rw[c]at z;cases z
   .exact λH wr e=>o H wr ω
  have S4:St Ok w4.heap.size 43 _ _ 0 a4 w4:=⟨KU,h4.tail (M:=pM s++(oR lb 8 [i6 (s.l.gt j).st,i6 (s.l.gt j).si,i6 (s.l.gt j).pd,i6 (s.l.gt j).pr,.slice base (s.l.gt j).la.length f.c] true::fR ⟨p,0,none⟩ 1 O (r+L) true::C)),rfl⟩;replace S4:=S4.dB [(29,.slice (some ⟨p,r,none⟩) ((s.l.gt j).la.length+1) L),(22,ptr lb),(0,ptr lb),(1,ptr T)] rfl;rw[hll]at S4 z5;replace I:=I.trans h;generalize Bj:w4.heap.size=e at S4;unfold LS.pU at K;simp only[r7]at K;have fbo:∀(l:iy)(Z c':Nat),0<l.length->l.length<=c'->(∀i,i<l.length->(O (Z+i)).getD 0 undef=.bool (l.getD i false))->qv Ok l ⟨true,p,Z,c',O⟩:=λl Z c' c v X=>⟨nofun,λ_=>⟨c,v⟩,λ_=>U1,X⟩
  rcases Qi with Q|Q
  .have u:(s.l.gt j).keep y (decide (b.k≠1))=if(g.length:Int)>y.a then g.tail else g:=by
    unfold Gt.keep;grind
   have hle:((s.l.gt j).la.length:Int)<=y.a:=by rcases hg.st with ⟨_,z⟩|⟨z,_⟩|⟨z,_⟩<;>omega
   refine aX (λM=>bh 7 (0,4) (.slice (some (Addr.mk p r none)) (List.length g) L) (M)) 0 F o a I S4 16 [7,0,4,1,7,0,0,1] 6 [] [(38,ptr T),(37,ptr lb)] 34 6 [] [] [((s.l.gt j).st==0,true)] [] [] λa5 w5 S5 B Y5 Dw qO=>ah F a B S5 39 176 #[ptr lb,ptr T] λcf5 e=>?_;have h6:Sat Ok w5 (pM s++(oR lb 8 [i6 (s.l.gt j).st,i6 (s.l.gt j).si,i6 (s.l.gt j).pd,i6 (s.l.gt j).pr,.slice (some ⟨p,r,none⟩) g.length L] true::fR ⟨p,0,none⟩ 1 O (r+L) true::C)):=S5.sat.cast ρ;have ZR:0<((s.l.gt j).keep y (decide (b.k≠1))).length:=by
    grind
   refine FL F o h6 h1 h2 h3 hv ω P ω ω z5 ω ⟨hy.1,hy.2.1⟩ Uu u (λV Z c' w6 c v X y4 y5=>e _ _ _ y4 λa6 B6 U h l=>?_) (λd g' k x w6 c v X=>e _ _ _ c λa6 B6 U h l=>?_)
   .rw[af (λz=>χ),af (λz=>ω)]at K;refine Rb F o a h U 1 [] 1 [] [] 36 6 [] λa7 N m f i q G=>cC F m a n f [] (.tuple #[]) ?_;refine K s.ea s.ec s.vv ⟨true,p,Z,c',O⟩ N ?_ hv (by rw[r7];exact fbo _ Z c' ZR v X) ω;rw[r7];simp only[mI,su,if_true];exact m.sat
   .rw[sJ ⟨.inl ⟨Q,d.1⟩,d.2⟩]at K;refine Rb F o a h U 1 [] 1 [] [] 36 6 [] λa7 N m f i q G=>cC F m a n f [] (.tuple #[]) ?_;have S:=BK.turn (Ok:=Ok) (Ψ:=Ψ) (cf:=cf) (cs:=cs) (w:=w) (s:=s) (C:=C) (lb:=lb) (j:=j) (t:=t) (L:=s.l.aO j {s.l.gt j with la:=(s.l.gt j).keep y (decide (b.k≠1))}) (g':=g') (cap':=k) (vs':=x) (w':=N) (st:=1) (q:=9) (by simp only[r7];exact K) τ;simp only[r7]at S;exact S (m.sat.sub (nN (.cons_cons _ (.refl _)) _)) v ω
  .have u:(s.l.gt j).keep y (decide (b.k≠1))=g:=by
    unfold Gt.keep;grind
   have hle:((s.l.gt j).la.length:Int)<y.e:=by rcases hg.st with ⟨z,_⟩|⟨z,_⟩|⟨_,z⟩<;>omega
   rw[u]at K;refine aX (λM=>bh 7 (0,4) (.slice (some (Addr.mk p r none)) (List.length g) L) (M)) 0 F o a I S4 16 [7,0,4,1,7,0,0,1] 4 [] [(41,ptr T),(40,ptr lb)] 34 4 [] [] [((s.l.gt j).st==0,false)] [] [] λa5 w5 S5 B Y5 Dw qO=>ah F a B S5 42 177 #[ptr lb,ptr T] λcf5 e=>?_;have h6:Sat Ok w5 (pM s++(oR lb 8 [i6 (s.l.gt j).st,i6 (s.l.gt j).si,i6 (s.l.gt j).pd,i6 (s.l.gt j).pr,.slice (some ⟨p,r,none⟩) g.length L] true::fR ⟨p,0,none⟩ 1 O (r+L) true::C)):=S5.sat.cast ρ;refine FM F o h6 h1 h2 h3 hv ω P ω z5 ω hy.2 Uu (λV w6 y4 y5=>e _ _ _ y4 λa6 B6 U h l=>?_) (λd g' k x w6 c v X=>e _ _ _ c λa6 B6 U h l=>?_)
   .rw[af (λz=>ω),af (λz=>V z.2)]at K;refine Rb F o a h U 1 [] 1 [] [] 36 4 [] λa7 N m f i q G=>cC F m a n f [] (.tuple #[]) ?_;refine K s.ea s.ec s.vv ⟨true,p,r,L,O⟩ N ?_ hv (by rw[r7];grind) ω;rw[r7];simp only[mI,su,if_true];exact m.sat
   .refine Rb F o a h U 1 [] 1 [] [] 36 4 [] λa7 N m f i q G=>cC F m a n f [] (.tuple #[]) ?_;cases A:over y g with
    |true=>
     rw[A,sJ ⟨.inr ⟨Q,d⟩,rfl⟩]at K;rw[A]at m;have S:=BK.turn (Ok:=Ok) (Ψ:=Ψ) (cf:=cf) (cs:=cs) (w:=w) (s:=s) (C:=C) (lb:=lb) (j:=j) (t:=t) (L:=s.l.aO j {s.l.gt j with la:=g}) (g':=g') (cap':=k) (vs':=x) (w':=N) (st:=1) (q:=9) (by simp only[r7];exact K) τ;simp only[r7]at S;exact S m.sat v ω
    |false=>
     rw[A,af (λz=>by cases z.2),sJ ⟨Q,d⟩]at K;rw[A]at m;have S:=BK.turn (Ok:=Ok) (Ψ:=Ψ) (cf:=cf) (cs:=cs) (w:=w) (s:=s) (C:=C) (lb:=lb) (j:=j) (t:=t) (L:=s.l.aO j {s.l.gt j with la:=g}) (g':=g') (cap':=k) (vs':=x) (w':=N) (st:=0) (q:=11) (by simp only[r7];exact K) τ;simp only[r7]at S;exact S m.sat v ω
def GO(F:aB prog J (DX Ok) Ψ)(A:HB B Ok){s:PS}{e:ay}{b:Bk}{f:Fb}(hg:Bc y (s.l.gt j) 1000000000000 0)(N:(s.l.gt j).st=0\/(s.l.gt j).st=2)(W:Sat Ok w (pM s++(mI lb (s.l.gt j) f++C)))(h1:Has C (tQ lb wi j s.k.J))(h2:Has C (wF T s.k.A t (s.l.tk t).c Y))(h3:Has C (oR lb 3 [i6 y.a,i6 y.b,i6 y.c,i6 y.d,i6 y.e] false))(hv:Vc Ok s.ea s.l.el s.ec)(hf:qv Ok (s.l.gt j).la f)(yQ:B<=w.heap.size)(x:s.l.el<1000000)(hq:(s.l.tk t).q j=(s.l.gt j).pd)(Z:(1<=y.a/\y.a<=20)/\(1<=y.c/\y.c<=100)/\(1<=y.e/\y.e<=9))(Q:G5 b)(B:(b.k≠2/\e=.nilIface)\/(b.k=2/\Yu C e b.ch))(K:BK Ok Ψ cf cs w s C lb j (s.l.count y t j b)):
 Ψ (G (Frame.enter prog 173 #[ptr lb,ptr T,.bool (decide (b.k≠1)),e] .normal) (cf::cs)) w:=by
 have d:(b.k≠2/\e=.nilIface)\/(b.k=2/\Yu (pM s++(mI lb (s.l.gt j) f++C)) e b.ch):=B.imp id λz=>⟨z.1,z.2.up λr r=>(r.app _).app _⟩
 generalize hM:pM s++(mI lb (s.l.gt j) f++C)=M at*;have fin:∀{D:aC},D.kind=.normal->D.fn=173->∀m l p,St Ok p 43 [(9,.bool (decide (bq b=3\/bq b=5))),(0,ptr lb),(1,ptr T),(2,.bool (decide (b.k≠1)))] M 0 m l->m.defers=[]->l.heap.size=p->w.heap.size<=l.heap.size->Ψ (G (D.at m (pc prog 173 5 [] [])) (cf::cs)) l:=λa k m l p u g c v=>by
  rw[<-hM]at u;exact Oa F A a k hg N u g c h1 h2 h3 hv hf ω x hq Z λx w s t w' r j f B=>K x w s t w' r j f ω
 rcases d with ⟨O,rfl⟩|⟨O,d⟩
 .refine cJ func173 W 43 λD a0 B1 hn a k o V I=>Rb F A a o V 4 [] 1 [] [(8,.nilIface),(0,ptr lb),(1,ptr T),(2,.bool (decide (b.k≠1)))] 4 1 [] λa1 X E n H L S=>ah F a n E 9 175 #[.nilIface] λU i=>uB F A Q (.inl ⟨O,rfl⟩) E.sat ω λl R v=>i _ _ _ R λm p u g c=>fin a k m l p (u.dB _ rfl) g c ω
 .obtain⟨q,rfl⟩:∃q,e=.iface 168 (ptr q):=by
   cases P:b.ch with
   |nil=>
    rcases Q.2.2 with ⟨z,_⟩|⟨_,_,z⟩|⟨z,_⟩
    .omega
    .simp_all
    .omega
   |cons y ch=>rw[P]at d;let⟨q,_,h,_⟩:=d;simp_all
  refine cJ func173 W 43 λD a0 B1 hn a k o V I=>Rb F A a o V 4 [] 1 [] [(8,.iface 168 (ptr q)),(0,ptr lb),(1,ptr T),(2,.bool (decide (b.k≠1)))] 4 1 [] λa1 X E n H L S=>ah F a n E 9 175 #[.iface 168 (ptr q)] λU i=>uB F A Q (.inr ⟨O,d⟩) E.sat ω λl R v=>i _ _ _ R λm p u g c=>fin a k m l p (u.dB _ rfl) g c ω
def Sat.Ug{P:aW}{a:aH}(h:Sat Ok w (P++(r::a::C))):Sat Ok w (P++(r::fR ⟨jC.g,0,none⟩ 1 jC.v (jC.o+jC.c) true::C)):=by
 have a:Sat Ok w (fR ⟨jC.g,0,none⟩ 1 jC.v (jC.o+jC.c) true::((P++[r])++C)):=Sat.qj (h.sub ψ) rfl rfl;have b:=Sat.back (A:=P++[r]) a;simp_all
def MP(F:aB prog J (DX Ok) Ψ)(l:HB B Ok){s:PS}{f:Fb}(a:Bc y (s.l.gt j) 1000000000000 0)(p:Sat Ok w (pM s++(mI lb (s.l.gt j) f++C)))(L:Has C (tQ lb wi j s.k.J))(K:Has C (wF T s.k.A t (s.l.tk t).c Y))(I:Has C (oR lb 3 [i6 y.a,i6 y.b,i6 y.c,i6 y.d,i6 y.e] false))(x:Vc Ok s.ea s.l.el s.ec)(H:qv Ok (s.l.gt j).la f)(b:B<=w.heap.size)(i:s.l.el<1000000)(b:0<=s.l.now/\s.l.now<1000000000000)(b:1<=y.e/\y.e<=9)(E:((s.l.gt j).st=1/\s.l.now-(s.l.gt j).si<y.d)\/((s.l.gt j).st=2/\(s.l.gt j).pr=y.e)->∀w',Sat Ok w' (pM s++(mI lb (s.l.gt j) f++C))->w.heap.size<=w'.heap.size->Ψ (G (cf.finish (.bool false)) cs) w')(K2:¬(((s.l.gt j).st=1/\s.l.now-(s.l.gt j).si<y.d)\/((s.l.gt j).st=2/\(s.l.gt j).pr=y.e))->∀g c h b w',Sat Ok w' (pM {s with ea:=g,ec:=c,vv:=h,f:=upd s.f j b,l:=(s.l.aM t j).cz j}++(mI lb (((s.l.aM t j).cz j).gt j) b++C))->Vc Ok g ((s.l.aM t j).cz j).el c->qv Ok (((s.l.aM t j).cz j).gt j).la b->w.heap.size<=w'.heap.size->Ψ (G (cf.finish (.bool true)) cs) w'):
 Ψ (G (Frame.enter prog 171 #[ptr lb,ptr T] .normal) (cf::cs)) w:=by
 have b:=a.si;have b:=a.pd;have b:=a.pr;have b:IntKind.wrap .i64 (s.l.now-(s.l.gt j).si)=s.l.now-(s.l.gt j).si:=aA ω ω;have v:IntKind.wrap .i64 ((s.l.gt j).pr+1)=(s.l.gt j).pr+1:=aA ω ω;have e:(s.l.gt j).st=0\/(s.l.gt j).st=1\/(s.l.gt j).st=2:=by rcases a.st with ⟨z,_⟩|⟨z,_⟩|⟨z,_⟩<;>omega
 have a:=p;obtain⟨A,k⟩:∃A,A=su f (s.l.gt j).la.length:=⟨_,rfl⟩;simp only[mI,<-k]at p E;replace p:=(p.get ((K.cons.cons).app (pM s))).get ((I.cons.cons.app (pM s)).cons);refine cJ func171 p 51 λD a a a a c b r g=>?_;rcases e with u|u|u
 .have m:s.l.aM t j=s.l:=by unfold LS.aM;simp_all
  have q:s.l.cz j=s.l:=by unfold LS.cz;simp_all
  rw[m,q]at K2;refine ZI F l a c b r 39 [9,0,0,1,9,0,0,1] 1090519040 [17] 4 (.bool true) 39 8 [17] [1,13] [((s.l.gt j).st==2,false),((s.l.gt j).st==1,false)] [] [] λe d g h=>K2 (λz=>ω) s.ea s.ec s.vv f e ?_ x H ω;simp only[mI,<-k];exact d.sat.tail.tail
 .by_cases n:s.l.now-(s.l.gt j).si<y.d
  .refine ZI F l a c b r 31 [9,0,0,1,1,0,0,1,2,0,0,1,9,0,1,1,0,0,3,1,9,0,0,1] 413837994 [17] 4 (.bool false) 31 6 [17] [1,1,12] [((s.l.gt j).st==1,true),(decide (IntKind.wrap .i64 (s.l.now-(s.l.gt j).si)≥y.d),false),((s.l.gt j).st==1,true)] [] [] λe d g h=>E (.inl ⟨u,n⟩) e d.sat.tail.tail ω
  .have m:s.l.aM t j=(s.l.aO j ((s.l.gt j).turn s.l.now 2)).say t j 10 0:=by unfold LS.aM;simp_all
   have n:((s.l.aM t j).gt j)=(s.l.gt j).turn s.l.now 2:=by rw[m];exact r7 ..
   have o:((s.l.aM t j).gt j).st=2:=by rw[n];rfl
   have q:(s.l.aM t j).cz j=(s.l.aM t j).aO j {(s.l.aM t j).gt j with pr:=((s.l.aM t j).gt j).pr+1}:=by unfold LS.cz;simp_all
   rw[q,r7,n,m]at K2;refine TP F l a b r 14 [9,0,0,1,1,0,0,1,2,0,0,1,9,0,1,1,0,0,3,1] 111848106 [17] [(25,ptr T),(24,ptr lb),(0,ptr lb)] 14 3 [17] [1,12] [(decide (IntKind.wrap .i64 (s.l.now-(s.l.gt j).si)≥y.d),true),((s.l.gt j).st==1,true)] [] [] λn e d n g h o=>ah F a n d 26 174 #[ptr lb,i6 2,ptr T,i6 10] λn o=>oB F l d.sat.tail.tail L.cons K.cons x ω i ω λG i n w K w B=>o _ _ _ (K.get (I.cons.cons.app (pM _))) λo o I o B=>oH (λM=>bh 8 (0,3) (i6 1) (M)) 0 F l a c o I 44 [8,0,0,1,8,0,3,1,0,0,4,1,8,0,3,1,8,0,3,1] 77 [8] 4 (.bool true) 59 21 [17,8] [] [(0==y.e,false)] [] [] λB I o o=>K2 (λz=>ω) (some ⟨G,0,none⟩) i n jC B ?_ w Zj ω;have o:Sat Ok B (oR lb 3 [i6 y.a,i6 y.b,i6 y.c,i6 y.d,i6 y.e] false::(pM (s.dI G i n (s.l.say t j 10 0))++(oR lb 8 [i6 2,i6 s.l.now,i6 ((s.l.gt j).pd+1),i6 1,.slice none 0 0] true::fR ⟨f.g,0,none⟩ 1 f.v (f.o+f.c) true::C))):=I.sat.cast ρ;exact Sat.Ug o.tail
 .have m:s.l.aM t j=s.l:=by unfold LS.aM;simp_all
  have q:s.l.cz j=s.l.aO j {s.l.gt j with pr:=(s.l.gt j).pr+1}:=by unfold LS.cz;simp_all
  rw[m,q,r7]at K2;by_cases i:(s.l.gt j).pr=y.e
  .refine ZI F l a c b r 43 [9,0,0,1,9,0,0,1,9,0,3,1,0,0,4,1] 6996099072 [17,8] 4 (.bool false) 43 28 [17,8] [1,1,13] [((s.l.gt j).pr==y.e,true),((s.l.gt j).st==2,true),((s.l.gt j).st==1,false)] [] [] λe d g h=>E (.inr ⟨u,i⟩) e d.sat.tail.tail ω
  .refine oH (λM=>bh 9 (0,3) (i6 (IntKind.wrap .i64 ((s.l.gt j).pr+1))) (M)) 0 F l a c b r 55 [9,0,0,1,9,0,0,1,9,0,3,1,0,0,4,1,9,0,3,1,9,0,3,1] 4848615424 [17,8] 4 (.bool true) 55 20 [17,8] [1,1,13] [((s.l.gt j).pr==y.e,false),((s.l.gt j).st==2,true),((s.l.gt j).st==1,false)] [] [] λe d g h=>?_;rw[v]at d;refine K2 (λz=>ω) s.ea s.ec s.vv f e ?_ x H ω;simp only[mI,<-k];have o:Sat Ok e (oR lb 3 [i6 y.a,i6 y.b,i6 y.c,i6 y.d,i6 y.e] false::wF T s.k.A t (s.l.tk t).c Y::(pM s++(oR lb 8 [i6 (s.l.gt j).st,i6 (s.l.gt j).si,i6 (s.l.gt j).pd,i6 ((s.l.gt j).pr+1),A] true::fR ⟨f.g,0,none⟩ 1 f.v (f.o+f.c) true::C))):=d.sat.cast ρ;exact o.tail.tail
structure LG(t j:Nat)(L L':LS):Prop where
 al:L'.al=L.al
 ag:L'.ag=L.ag
 wl:L'.wl=L.wl
 wt:L'.wt=L.wt
 now:L'.now=L.now
 tl:L'.tl=L.tl
 us:L'.us=L.us
 ou:L'.ou=L.ou
 tk:∀i,i≠t->L'.tk i=L.tk i
 tc:∃q,L'.tk t={L.tk t with q:=q}
 ta:(L'.tk t).a=(L.tk t).a
 tq:∀i,i≠j->(L'.tk t).q i=(L.tk t).q i
 gt:∀i,i≠j->L'.gt i=L.gt i
def LG.Z6{L a:LS}(h:LG t j L a)(i:Nat):∃q,a.tk i={L.tk i with q:=q}:=by
 by_cases e:i=t
 .subst e;exact h.tc
 .exact⟨_,h.tk i e⟩
def LG.bY{L:LS}:LG t j L L:=⟨rfl,rfl,rfl,rfl,rfl,rfl,rfl,rfl,λ_ _=>rfl,⟨_,rfl⟩,rfl,λ_ _=>rfl,λ_ _=>rfl⟩
def LG.trans{t j:Nat}{L c b:LS}(h:LG t j L c)(a:LG t j c b):LG t j L b:=⟨a.al.trans h.al,a.ag.trans h.ag,a.wl.trans h.wl,a.wt.trans h.wt,a.now.trans h.now,a.tl.trans h.tl,a.us.trans h.us,a.ou.trans h.ou,λi b=>(a.tk i b).trans (h.tk i b),(by let⟨q,c⟩:=h.tc;let⟨_,c⟩:=a.tc;simp_all),a.ta.trans h.ta,λi b=>(a.tq i b).trans (h.tq i b),λi b=>(a.gt i b).trans (h.gt i b)⟩
def LG.say{t j:Nat}{L:LS}(a b c:Int):LG t j L (L.say t a b c):=⟨rfl,rfl,rfl,rfl,rfl,rfl,rfl,rfl,λ_ _=>rfl,⟨_,rfl⟩,rfl,λ_ _=>rfl,λ_ _=>rfl⟩
def LG.aO{t j:Nat}{L:LS}(g:Gt):LG t j L (L.aO j g):=⟨rfl,rfl,rfl,rfl,rfl,rfl,rfl,rfl,λ_ _=>rfl,⟨_,rfl⟩,rfl,λ_ _=>rfl,λi a=>by simp[LS.aO,upd,a]⟩
def LG.mark{t j:Nat}{L:LS}:LG t j L (L.mark t j):=⟨rfl,rfl,rfl,rfl,rfl,rfl,rfl,rfl,λi a=>by simp[LS.mark,upd,a],⟨_,sJ rfl⟩,by simp[LS.mark,upd],λi a=>by simp[LS.mark,upd,a],λ_ _=>rfl⟩
def LG.W0{L:LS}:LG t j L ((L.aM t j).cz j):=by
 have a:LG t j L (L.aM t j):=by
  unfold LS.aM;split
  .exact(LG.aO _).trans (LG.say ..)
  .exact LG.bY
 refine a.trans ?_;unfold LS.cz;split
 .exact LG.aO _
 .exact LG.bY
def LG.count{t j:Nat}{L:LS}(y:ju)(b:Bk):LG t j L (L.count y t j b):=by
 unfold LS.count;split
 .exact LG.bY
 .split
  .exact LG.aO _
  .dsimp only;split
   .exact(LG.aO _).trans (LG.say ..)
   .split
    .exact(LG.aO _).trans (LG.say ..)
    .exact LG.aO _
def QI.cg{s a:PS}(Q:QI s)(g:a.k=s.k)(b:a.q=s.q)(c:a.wb=s.wb/\a.cv=s.cv/\a.cx=s.cx/\a.T=s.T/\a.wk=s.wk)(f:a.l.al=s.l.al/\a.l.ag=s.l.ag/\a.l.wl=s.l.wl/\a.l.tl=s.l.tl):QI a:=by
 let⟨k,j,c3,i,h⟩:=c;let⟨c,a,e,d⟩:=f;refine⟨by rw[b,c,a];exact Q.lt,by rw[b,c,a];exact Q.all,by rw[b,a];exact Q.pN,by rw[b,a,e];exact Q.ws,?_⟩;rw[b,a];unfold Mz;rw[g,k,j,c3,i,h,d];exact Q.cv
def TI.cg{s a:PS}(Q:TI s)(e:a.k=s.k)(g:a.wb=s.wb/\a.cx=s.cx/\a.wk=s.wk/\a.bl=s.bl/\a.cm=s.cm)(h:a.l.wl=s.l.wl/\a.l.wt=s.l.wt/\a.l.tl=s.l.tl)(d:∀j,(a.l.tk j).c=(s.l.tk j).c/\(a.l.tk j).f=(s.l.tk j).f/\(a.l.tk j).p=(s.l.tk j).p/\(a.l.tk j).o=(s.l.tk j).o):TI a:=by
 let⟨m,k,c3,l,i⟩:=g;let⟨b,a,f⟩:=h;refine⟨by rw[e,f];exact Q.nc,by rw[b,a,f];exact Q.wt,by rw[b,a,k,i,e];exact Q.cm,λj h=>?_,λj n n=>?_,λj h=>?_,λj h=>?_,by rw[b,a];exact Q.zz⟩
 .rw[e,(d j).1,(d j).2.2.1];exact Q.cl j ω
 .rw[(d j).2.1,(d j).2.2.1,e,b,a,m,k,c3,i];exact Q.wk j ξ ω
 .rw[l,e,b,a,f];refine⟨(Q.ch j ω).1,λc g=>?_⟩;rw[(d c).2.1];exact(Q.ch j ω).2 c g
 .rw[(d j).2.2.2,b,a,e];exact Q.can j ω
section
variable{Z:LS->Prop}
def pQ(A G R O:aW)(a:aH):(A++(a::(R++(G++O)))).Perm (A++(G++(a::(R++O)))):=by
 refine eN A ?_;have h:=fA (a::R) G O;simp_all
def Cn.open{p:γ}{s:PS}(C:Cn E I t p s w R)(b:j<I.V.nl):Sat (E.Ok p) w (pM s++(gR (I.V.ly j) (I.lb j) (s.l.gt j) (s.f j) (s.lq j)++(E.me I t::(R++(gX s j++E.O p))))):=by
 have b:=C.hk;have a:=Yo s (k:=j) ξ;rw[b]at a;refine(C.sat.perm ?_).perm (pQ ..);refine eN _ (List.Perm.cons _ (eN _ ?_));rw[<-dU];exact a.append_right _
def Cn.shut{p:γ}{s:PS}(C:Cn E I t p s w R)(f:j<I.V.nl){ea:eP}{ec:Nat}{vv:eX}{f':Fb}{L':LS}(b:LG t j s.l L')(h:Sat (E.Ok p) w' (pM {s with ea:=ea,ec:=ec,vv:=vv,f:=upd s.f j f',l:=L'}++(gR (I.V.ly j) (I.lb j) (L'.gt j) f' (s.lq j)++(E.me I t::(R++(gX s j++E.O p))))))(f:Vc (E.Ok p) ea L'.el ec)(f:(I.V.ly j).k=4->qv (E.Ok p) (L'.gt j).la f')(f:(I.V.ly j).k=5->f'=s.f j)(u:w.heap.size<=w'.heap.size):Cn E I t p {s with ea:=ea,ec:=ec,vv:=vv,f:=upd s.f j f',l:=L'} w' R:=by
 have f:=C.hk;obtain⟨c,a⟩:∃c:PS,c={s with ea:=ea,ec:=ec,vv:=vv,f:=upd s.f j f',l:=L'}:=⟨_,rfl⟩;have g:c.k=I:=ξ
 have n:c.f j=f':=by rw[a];simp[upd]
 have m:gX c j=gX s j:=K3 (by rw[a]) (λi l=>by rw[a];exact b.gt i l) (λi l=>by rw[a];simp[upd,l]) (by rw[a];exact⟨⟨b.wl,λi _=>by unfold wR;simp only[b.wt];rfl⟩,b.tl,λi _=>by
  let⟨q,o⟩:=b.Z6 i;unfold j7;simp_all⟩) (by rw[a])
 have f:c.l=L':=by rw[a]
 have r:=Yo c (k:=j) ξ;rw[g,n,f,m,show c.lq=s.lq by rw[a]]at r;have o:∀i,fF c i=fF s i:=λi=>by rw[a];unfold fF;simp only[b.ag]
 have g:bA c=bA s:=by unfold bA;simp_all
 rw[<-a]at h ⊢;have m:∀i,(c.l.tk i).c=(s.l.tk i).c/\(c.l.tk i).f=(s.l.tk i).f/\(c.l.tk i).p=(s.l.tk i).p/\(c.l.tk i).o=(s.l.tk i).o:=λi=>by
  let⟨q,o⟩:=b.Z6 i;simp_all
 refine⟨(h.perm (pQ ..).symm).perm ?_,⟨ξ,by rw[g,a];exact C.pv.en,by rw[a];exact C.pv.eo,λk d g=>?_,λk d g=>?_,by rw[a];exact C.pv.cx,λk d=>?_⟩,?_,C.fl,C.eH,aT C.bd u,C.cp.gq (by rw[a];exact⟨rfl,rfl,rfl,b.al,b.ag,b.wl,b.wt,b.now,b.tl,λi l=>⟨(s.l.tk i).x,b.tk i l⟩,ξ,λi _=>⟨by rw[b.ou],rfl⟩,τ,λ_=>rfl⟩),λk d g=>by rw[a];simp only[b.wl,b.wt];exact C.ln k d g,?_⟩
 .refine eN _ (List.Perm.cons _ (eN _ ?_));rw[<-dU];exact(r.append_right _).symm
 .by_cases e:k=j
  .simp_all
  .have:=C.pv.fb k ξ ξ;rw[f,b.gt k e];rw[show c.f k=s.f k by rw[a];simp[upd,e]];exact this
 .have:=C.pv.rm k ξ ξ;rw[show c.lq=s.lq by rw[a],show c.wb=s.wb by rw[a]];by_cases e:k=j
  .simp_all
  .rw[show c.f k=s.f k by rw[a];simp[upd,e]];exact this
 .have:=C.pv.bg k (by rw[f,b.tl]at d;exact d);simp_all
 .exact C.qi.cg (by rw[a]) (by rw[a]) ξ (by rw[f];exact⟨b.al,b.ag,b.wl,b.tl⟩)
 .exact C.ti.cg (by rw[a]) ξ (by rw[f];exact⟨b.wl,b.wt,b.tl⟩) m
end
def Gk{Z:LS->Prop}{L:LS}(a:j<V.nl)(b:(V.ly j).k=3)(h:Fin V Z m (some (t,j,none)) L):∃a,m=a+1/\qm V t L/\
 ((L.gt j).sm=true/\(L.gt j).nx-L.now>((V.ly j).b-1)*(V.ly j).a->Fin V Z a (some (t,j,some (c9 3 j 0))) (L.say t j 7 0))/\
 (¬((L.gt j).sm=true/\(L.gt j).nx-L.now>((V.ly j).b-1)*(V.ly j).a)->Fin V Z a (some (t,j+1,none)) ((L.aO j {L.gt j with sm:=true,nx:=(if(L.gt j).sm=false\/(L.gt j).nx<L.now then L.now else(L.gt j).nx)+(V.ly j).a}).say t j 6 0)):=by
 cases m with
 |zero=>exact h.elim
 |succ m=>
  let⟨a,_,_,d,c⟩:=h;have e:(j=V.nl)=False:=θ
  refine⟨m,rfl,a,λa=>?_,λa=>?_⟩
  .simp only[LS.step,e,if_false,b,af (show¬(3:Int)=1 by decide),if_true,LS.jg,LS.nV]at c;simp_all
  .simp only[LS.step,e,if_false,b,af (show¬(3:Int)=1 by decide),if_true,LS.jg,LS.nV]at c;grind
def CV{Z:LS->Prop}{L:LS}{b:Bk}(c:(V.ly j).k=3)(a:(L.tk t).p<=j)(h:Fin V Z m (some (t,j+1,some b)) L):∃a,m=a+1/\qm V t L/\G5 b/\Fin V Z a (some (t,j,some b)) L:=by
 cases m with
 |zero=>exact h.elim
 |succ m=>
  let⟨_,_,_,a,d⟩:=h;have e:(j+1=(L.tk t).p)=False:=θ
  simp only[LS.step,e,if_false,eM,c,af (show¬(3:Int)=1 by decide),af (show¬(3:Int)=4 by decide),af (show¬((3:Int)=2/\b.k=3) by omega)]at d;simp_all
section
variable{Z:LS->Prop}
def rL(W:jF E I Z t){p:γ}{s:PS}(C:Cn E I t p s w R)(b:j<I.V.nl)(f:qm I.V t s.l){c:aC}(K:∀a w' q,Cn E I t p a w' (oR q 0 [i6 3,i6 j,i6 0,.nilIface] false::R)->a.l=s.l.say t j 7 0->w.heap.size<=w'.heap.size->E.Ψ p (G (c.finish (.tuple #[i6 0,.iface 168 (ptr q)])) cs) w'):
 E.Ψ p (G (Frame.enter prog 168 #[ptr (I.lb j),ptr E.T] .normal) (c::cs)) w:=by
 have F:=W.f p;have h:=W.hB p;have a:=C.bd;have a:=C.sat;have c:=C.eH.lay j b;refine cJ func168 a 13 λD a a a a g b e d=>Rb F h a b e 9 [] 1 [] [(7,ptr E.T),(6,ptr (I.lb j)),(0,ptr (I.lb j))] 9 1 [] λb b e b d d d=>ah F a b e 8 149 #[ptr (I.lb j),ptr E.T,i6 7,i6 0] λb d=>iU W {C with sat:=e.sat,bd:=by omega} f.el c λe b b l f=>d _ _ _ (b.sat.get ((c.pre _).cons.app (pM e))) λc c i f d=>?_;have d:=b.bd;let⟨Q,d,_⟩:=xT I (j+1);rw[d]at i;refine aq (λM=>bR (c) [i6 3,i6 j,i6 0,.nilIface]::(M)) 1 F h a f i 43 [0,0,1,1] 1 [] [(5,.iface 168 (ptr c)),(4,i6 0)] 20 1 [] λd h f d k k k=>cC F f a g d [] (.tuple #[i6 0,.iface 168 (ptr c)]) ?_;exact K e h c ⟨((Sat.BC (A:=[oR c 0 [i6 3,i6 j,i6 0,.nilIface] false]) f.sat.fix).perm (gY (A:=pM e))),b.pv,b.qi,b.fl.cons rfl,b.eH.cons,ω,b.cp,b.ln,b.ti⟩ l ω
def Mq(W:jF E I Z t)(l:j<I.V.nl)(hk:(I.V.ly j).k=3)(IH:dV E I Z t (j+1)):dV E I Z t j:=by
 intro m p s w R c cs C hf m K;rw[show iq I.V j=167 by unfold iq;grind];have F:=W.f p;have P:=W.hB p;have m:=C.bd;obtain⟨m0,rfl,hs,Hh,Vv⟩:=Gk l hk hf;have hg:=hs.gt j l ω;have m:=W.V.ra j l hk;have m:=hs.now;have m:=hg.nx;have m:0<=((I.V.ly j).b-1)*(I.V.ly j).a:=YE ω ω;have m:((I.V.ly j).b-1)*(I.V.ly j).a<=19*1000:=YT ω ω ω ω;have Dz:IntKind.wrap .i64 ((s.l.gt j).nx-s.l.now)=(s.l.gt j).nx-s.l.now:=aA ω ω;have Qf:IntKind.wrap .i64 ((I.V.ly j).b-1)=(I.V.ly j).b-1:=aA ω ω;have Vw:IntKind.wrap .i64 (((I.V.ly j).b-1)*(I.V.ly j).a)=((I.V.ly j).b-1)*(I.V.ly j).a:=aA ω ω;have m:gR (I.V.ly j) (I.lb j) (s.l.gt j) (s.f j) (s.lq j)=[oR (I.lb j) 5 [i6 (s.l.gt j).nx] true]:=by unfold gR;simp_all
 have hS:=C.open l;rw[m]at hS;have Tx:=C.hk;have hA:s.k.A=I.A:=by rw[Tx]
 have ZG:=AL hf;have Xm:Has (E.me I t::(R++(gX s j++E.O p))) (wF E.T s.k.A t E.c E.ch):=by rw[hA];exact kT
 have u:=C.eH.lay j l;replace hS:=(hS.get ((Xm.cons).app (pM s))).get (((((C.eH.Mi j l hk).pre _).cons.cons).app (pM s)).cons);have back:∀k:World,Sat (E.Ok p) k (pM s++([oR (I.lb j) 5 [i6 (s.l.gt j).nx] true]++(E.me I t::(R++(gX s j++E.O p)))))->w.heap.size<=k.heap.size->Cn E I t p s k R:=λk h w=>by
  have:=C.shut (ea:=s.ea) (ec:=s.ec) (vv:=s.vv) (f':=s.f j) (L':=s.l) l LG.bY (w':=k) (by rw[m,fU];exact h) C.pv.jr (λz=>ω) (λ_=>rfl) w;rw[fU]at this;exact this
 refine cJ func167 hS 60 λD m m hn a n tN S0 m=>?_;by_cases hc:(s.l.gt j).sm=true/\(s.l.gt j).nx-s.l.now>((I.V.ly j).b-1)*(I.V.ly j).a
 .have m:decide (IntKind.wrap .i64 ((s.l.gt j).nx-s.l.now)>IntKind.wrap .i64 (IntKind.wrap .i64 ((I.V.ly j).b-1)*(I.V.ly j).a))=true:=ξ
  refine TP F P a tN S0 17 [9,0,0,1,1,0,0,1,2,0,0,1,0,0,1,1,0,0,0,1] 6 [17] [(27,ptr E.T),(26,ptr (I.lb j))] 17 3 [17] [] [(decide (IntKind.wrap .i64 ((s.l.gt j).nx-s.l.now)>IntKind.wrap .i64 (IntKind.wrap .i64 ((I.V.ly j).b-1)*(I.V.ly j).a)),true)] [] [] λa1 k T L zS Dx o9=>ah F a L T 28 168 #[ptr (I.lb j),ptr E.T] λyS g=>rL W (back k T.sat.tail.tail ω) l hs λs2 w2 q U o yP=>g _ _ _ U.sat λa2 B2 S2 J tM=>?_;have Nx:=U.bd;refine Rb F P a J S2 5 [] 1 [] [(5,.iface 168 (ptr q)),(4,i6 0)] 23 3 [17] λa3 w3 S3 H YF yO mH=>cC F S3 a n H [] (.tuple #[i6 0,.iface 168 (ptr q)]) ?_;have YR:=Hh hc;rw[<-o]at YR;exact K m0 p s2 w3 [oR q 0 [i6 3,i6 j,i6 0,.nilIface] false] (.inl (.tuple #[i6 0,.iface 168 (ptr q)])) (c9 3 j 0) ω ω {U with sat:=S3.sat,bd:=by omega} YR (.inr (.inl ⟨rfl,_,rfl,q,.nilIface,rfl,⟨rfl,0,rfl⟩,rfl⟩)) (λi hi=>by rw[o];rfl) (λi hi=>by rw[o];rfl)
 .have m:decide (IntKind.wrap .i64 ((s.l.gt j).nx-s.l.now)>IntKind.wrap .i64 (IntKind.wrap .i64 ((I.V.ly j).b-1)*(I.V.ly j).a))=false:=by
   rw[Dz,Qf,Vw];cases v:(s.l.gt j).sm with
   |true=>simp_all
   |false=>have:=hg.sm v;simp;omega
  refine aX (λM=>bh 9 (0,0) (i6 (IntKind.wrap .i64 ((if s.l.now>(s.l.gt j).nx then s.l.now else(s.l.gt j).nx)+(I.V.ly j).a))) (M)) 0 F P a tN S0 24 [9,0,0,1,1,0,0,1,2,0,0,1,0,0,1,1,0,0,0,1,9,0,0,1,1,0,0,1,2,0,0,1,0,0,0,1,9,0,0,1] 4 [17,13] [(49,ptr E.T),(48,ptr (I.lb j)),(0,ptr (I.lb j)),(1,ptr E.T)] 24 2 [17,13] [] [(decide (IntKind.wrap .i64 ((s.l.gt j).nx-s.l.now)>IntKind.wrap .i64 (IntKind.wrap .i64 ((I.V.ly j).b-1)*(I.V.ly j).a)),false)] [] [] λa1 k T L zS Dx o9=>?_;have U4:IntKind.wrap .i64 ((if s.l.now>(s.l.gt j).nx then s.l.now else(s.l.gt j).nx)+(I.V.ly j).a)=(if(s.l.gt j).sm=false\/(s.l.gt j).nx<s.l.now then s.l.now else(s.l.gt j).nx)+(I.V.ly j).a:=by
   have e1:(if s.l.now>(s.l.gt j).nx then s.l.now else(s.l.gt j).nx)=(if(s.l.gt j).sm=false\/(s.l.gt j).nx<s.l.now then s.l.now else(s.l.gt j).nx):=by
    cases v:(s.l.gt j).sm with
    |true=>simp
    |false=>have:=hg.sm v;omega
   rw[<-e1,aA]
  rw[U4]at T;obtain⟨S,FU⟩:∃S:Gt,S={s.l.gt j with sm:=true,nx:=(if(s.l.gt j).sm=false\/(s.l.gt j).nx<s.l.now then s.l.now else(s.l.gt j).nx)+(I.V.ly j).a}:=⟨_,rfl⟩;have d:=Vv hc;rw[<-FU]at d;have m:(if(s.l.gt j).sm=false\/(s.l.gt j).nx<s.l.now then s.l.now else(s.l.gt j).nx)+(I.V.ly j).a=S.nx:=by rw[FU]
  rw[m]at T;have m:Sat (E.Ok p) k (oR (I.lb j) 3 [i6 (I.V.ly j).a,i6 (I.V.ly j).b] false::wF E.T s.k.A t E.c E.ch::(pM s++([oR (I.lb j) 5 [i6 S.nx] true]++(E.me I t::(R++(gX s j++E.O p)))))):=T.sat.cast ρ;have w:=C.shut (ea:=s.ea) (ec:=s.ec) (vv:=s.vv) (f':=s.f j) (L':=s.l.aO j S) l (LG.aO S) (w':=k) (by rw[r7];unfold gR;rw[sJ hk];exact m.tail.tail) C.pv.jr (λz=>ω) (λ_=>rfl) ω;refine ah F a L T 50 149 #[ptr (I.lb j),ptr E.T,i6 6,i6 0] λyS g=>iU W w hs.el u λs2 w2 U o yP=>g _ _ _ (U.sat.get ((u.pre _).cons.app (pM s2))) λa2 B2 S2 J tM=>?_;have Nx:=U.bd;replace o:s2.l=(s.l.aO j S).say t j 6 0:=o;rw[<-o]at d;let⟨Q,g,IZ⟩:=xT I (j+1);rw[g]at S2;unfold dV at IH;generalize iq I.V (j+1)=gf at*;refine Rb F P a J S2 9 [0,0,0,1] 1 [] [(56,ptr E.T),(55,.iface Q (ptr (I.lb (j+1))))] 34 2 [17,13] λa3 w3 S3 H YF yO mH=>GM F a H 57 gf #[ptr (I.lb (j+1)),ptr E.T] (by rcases IZ with ⟨rfl,rfl⟩|⟨rfl,rfl⟩|⟨rfl,rfl⟩|⟨rfl,rfl⟩|⟨rfl,rfl⟩|⟨rfl,rfl⟩|⟨rfl,rfl⟩<;>kernel_rfl) ρ δ S3 λcf N=>IH m0 p s2 w3 R cf (c::cs) {U with sat:=S3.sat.tail,bd:=by omega} d ω λg Y s' w' X r b g g V g hr Jc DG=>?_;obtain⟨m1,rfl,k,Hj,A⟩:=CV hk (V.pp W C ZG) g;have g:=V.bd;replace F:=W.f Y;replace P:=W.hB Y;have O:∀i,i<j->(s'.l.tk t).a i=(s.l.tk t).a i:=λi hi=>(Jc i ω).trans (by rw[o];rfl);have x:∀i,i<j->(s'.l.tk t).q i=(s.l.tk t).q i:=λi hi=>(DG i ω).trans (by rw[o];rfl);rcases hr with ⟨hb,rfl⟩|⟨hb,e,rfl,he⟩|⟨hb,rfl⟩
  .refine N.ret _ _ _ _ _ V.sat λa4 B4 S4 f Bj=>Rb F P a f S4 5 [] 1 [] [(5,.nilIface),(4,i6 b.n)] 40 2 [17,13] λa5 w5 S5 B Y5 Dw qO=>cC F S5 a n B [] (.tuple #[i6 b.n,.nilIface]) ?_;exact K m1 Y s' w5 X (.inl (.tuple #[i6 b.n,.nilIface])) b ω ω {V with sat:=S5.sat,bd:=by omega} A (.inl ⟨hb,rfl⟩) O x
  .obtain⟨q,rfl⟩:∃q,e=.iface 168 (ptr q):=by
    cases mQ:b.ch with
    |nil=>
     rcases Hj.2.2 with ⟨z,_⟩|⟨_,_,z⟩|⟨z,_⟩
     .omega
     .grind
     .omega
    |cons y ch=>rw[mQ]at he;let⟨q,_,h,_⟩:=he;grind
   refine N.ret _ _ _ _ _ V.sat λa4 B4 S4 f Bj=>Rb F P a f S4 5 [] 1 [] [(5,.iface 168 (ptr q)),(4,i6 0)] 40 2 [17,13] λa5 w5 S5 B Y5 Dw qO=>cC F S5 a n B [] (.tuple #[i6 0,.iface 168 (ptr q)]) ?_;exact K m1 Y s' w5 X (.inl (.tuple #[i6 0,.iface 168 (ptr q)])) b ω ω {V with sat:=S5.sat,bd:=by omega} A (.inr (.inl ⟨hb,_,rfl,he⟩)) O x
  .obtain⟨a4,t4,rfl,f,a⟩:=N.NO;show E.Ψ Y (G ((D.at a4 t4).raise (je (.iface 166 (i6 b.n)))) (c::cs)) w';rw[raise_at hn.m];refine F.lJ f (by rw[n];rfl) ?_;exact K m1 Y s' w' X (.inr (.iface 166 (i6 b.n))) b ω ω V A (.inr (.inr ⟨hb,rfl⟩)) O x
end
def Xe(F:aB P J (DX Ok) Ψ){d:eC}(f:iE d=true)(k:a.defers=[])(fn:Func)(j:P.funcs[g]? =some fn)(i:fn.results=#[]){e:Act}{c:eC}{v:ay}(h:Ψ (G {b.at e c with mode:=.panicking (je v)} cs) w):Ψ (G ((baseD g).at a d) ({b.at e c with mode:=.panicking (je v)}::cs)) w:=
 vi F f (F.ctl (λw=>by
  have b:=resultsC_none (P:=P) i a.tmps;simp[G,stepG,unwind,doReturn,Frame.at,baseD,k,j,(b w).1,(b w).2,GStep.after,seen_none]) h)
def Jj{Z:LS->Prop}{L:LS}(a:j<V.nl)(c:(V.ly j).k=4)(a:1<=(V.ly j).e)(h:Fin V Z m (some (t,j,none)) L):∃a,m=a+1/\qm V t L/\
 (((L.gt j).st=1/\L.now-(L.gt j).si<(V.ly j).d)\/((L.gt j).st=2/\(L.gt j).pr=(V.ly j).e)->Fin V Z a (some (t,j,some (c9 3 j 0))) (L.say t j 7 0))/\
 (¬(((L.gt j).st=1/\L.now-(L.gt j).si<(V.ly j).d)\/((L.gt j).st=2/\(L.gt j).pr=(V.ly j).e))->Fin V Z a (some (t,j+1,none)) ((((L.aM t j).cz j).mark t j).say t j 8 0)):=by
 cases m with
 |zero=>exact h.elim
 |succ m=>
  let⟨a,_,_,d,b⟩:=h;have e:(j=V.nl)=False:=θ
  simp only[LS.step,e,if_false,c,af (show¬(4:Int)=1 by decide),af (show¬(4:Int)=3 by decide),if_true,LS.pass,LS.nV]at b;refine⟨m,rfl,a,λa=>?_,λa=>?_⟩
  .rcases a with a|a
   .simp_all
   .have c:L.aM t j=L:=by unfold LS.aM;simp_all
    simp_all
  .rw[af (λz=>a (.inl z))]at b;rw[af (λz=>?_)]at b
   .exact b
   .by_cases a:(L.gt j).st=1
    .have c:(L.aM t j).gt j=(L.gt j).turn L.now 2:=by unfold LS.aM;rw[sJ a];exact r7 ..
     rw[c]at z;have:(0:Int)=(V.ly j).e:=z.2;omega
    .have c:L.aM t j=L:=by unfold LS.aM;simp_all
     simp_all
def T5{Z:LS->Prop}{L:LS}{b:Bk}(c:(V.ly j).k=4)(a:(L.tk t).p<=j)(h:Fin V Z m (some (t,j+1,some b)) L):∃a,m=a+1/\qm V t L/\G5 b/\Fin V Z a (some (t,j,some b)) (L.count (V.ly j) t j b):=by
 cases m with
 |zero=>exact h.elim
 |succ m=>
  let⟨_,_,_,a,d⟩:=h;have e:(j+1=(L.tk t).p)=False:=θ
  simp only[LS.step,e,if_false,eM,c,af (show¬(4:Int)=1 by decide),if_true]at d;simp_all
def AV(X A G C:aW):(X++(A++(G++C))).Perm (A++(G++(X++C))):=by
 have h:=fA X (A++G) C;simp_all
abbrev mE(b2 b3 b5 b6 b7 lb T:Nat)(pq:Int)(e:ay)(fl:Bool):List aH:=[bR b7 [.bool fl],oR b6 0 [i6 pq] false,bR b5 [e],oR b3 0 [ptr T] false,oR b2 0 [ptr lb] false]
def Gw(F:aB prog J (DX Ok) Ψ)(H:HB B Ok){a0:Act}{B0 o m l k:Nat}{s:PS}{e:ay}{b:Bk}{f:Fb}(hg:Bc y (s.l.gt j) 1000000000000 0)(Qs:(s.l.gt j).st=1->(s.l.tk t).q j≠(s.l.gt j).pd)(h1:Has C (tQ lb wi j s.k.J))(h2:Has C (wF T s.k.A t (s.l.tk t).c Y))(h3:Has C (oR lb 3 [i6 y.a,i6 y.b,i6 y.c,i6 y.d,i6 y.e] false))(hv:Vc Ok s.ea s.l.el s.ec)(hf:qv Ok (s.l.gt j).la f)(yQ:B<=w.heap.size)(g:s.l.el<1000000)(hy:(1<=y.a/\y.a<=20)/\(1<=y.c/\y.c<=100)/\(1<=y.e/\y.e<=9))(hb:G5 b)(he:(b.k≠2/\e=.nilIface)\/(b.k=2/\(∃q,e=.iface 168 (ptr q))/\Yu C e b.ch))(S:St Ok B0 16 [(0,ptr o),(1,ptr l),(2,ptr m),(3,ptr k),(4,ptr b5)] (mE o m b5 l k lb T ((s.l.tk t).q j) e (decide (b.k≠1))++(pM s++(mI lb (s.l.gt j) f++C))) 0 a0 w)(D:a0.defers=[])(B:w.heap.size=B0)(K:∀i h p d a' w' n bs B,iE (pc prog 172 n bs B)=true->a'.defers=[]->Sat Ok w' (mE o m b5 l k lb T ((s.l.tk t).q j) e (decide (b.k≠1))++(pM {s with ea:=i,ec:=h,vv:=p,f:=upd s.f j d,l:=s.l.count y t j b}++(mI lb ((s.l.count y t j b).gt j) d++C)))->Vc Ok i (s.l.count y t j b).el h->qv Ok ((s.l.count y t j b).gt j).la d->w.heap.size<=w'.heap.size->Ψ (G ((baseD 172).at a' (pc prog 172 n bs B)) (cf::cs)) w'):
 Ψ (G ((baseD 172).at a0 (pc prog 172 0 [] [])) (cf::cs)) w:=by
 obtain⟨n,P⟩:∃n,n=su f (s.l.gt j).la.length:=⟨_,rfl⟩;have Q:(b.k≠2/\e=.nilIface)\/(b.k=2/\Yu (mE o m b5 l k lb T ((s.l.tk t).q j) e (decide (b.k≠1))++C) e b.ch):=he.imp id λz=>⟨z.1,z.2.2.up λr e=>e.app _⟩
 simp only[mI,<-P]at S;by_cases hq:(s.l.tk t).q j=(s.l.gt j).pd
 .have O:(s.l.gt j).st=0\/(s.l.gt j).st=2:=by
   rcases hg.st with ⟨z,_⟩|⟨z,_⟩|⟨z,_⟩
   .exact .inl z
   .omega
   omega
  have Na:((s.l.gt j).pd==(s.l.tk t).q j)=true:=by simp[hq]
  rcases he with ⟨e,rfl⟩|⟨e,⟨q,rfl⟩,he⟩
  .refine ZH F H D S 10 [4,0,0,1,12,0,2,1,1,0,0,1,4,0,0,1,3,0,0,1,0,0,0,1,2,0,0,1] 6 [5] [(14,.nilIface),(13,.bool (decide (b.k≠1))),(12,ptr T),(11,ptr lb)] 10 3 [5] [] [((s.l.gt j).pd==(s.l.tk t).q j,true)] [] [] λa1 W I a M N R=>RM F a 15 173 #[ptr lb,ptr T,.bool (decide (b.k≠1)),.nilIface] ρ ρ δ I λyS c=>GO F H (C:=mE o m b5 l k lb T ((s.l.tk t).q j) .nilIface (decide (b.k≠1))++C) (f:=f) hg O ((I.sat.cast ξ).perm (AV ..)) (h1.app _) (h2.app _) (h3.app _) hv hf ω g hq hy hb Q ?_;intro i h p d V h4 u v FO;obtain⟨L,E⟩:∃L,L=mE o m b5 l k lb T ((s.l.tk t).q j) .nilIface (decide (b.k≠1))++(pM {s with ea:=i,ec:=h,vv:=p,f:=upd s.f j d,l:=s.l.count y t j b}++(mI lb ((s.l.count y t j b).gt j) d++C)):=⟨_,rfl⟩;have h5:Sat Ok V L:=by rw[E];exact h4.perm (AV ..).symm
   refine c _ _ _ h5 λa2 B2 S2 A Z=>ZH F H A S2 1 [] 1 [] [] 12 3 [5] [] [] [] [] λa3 U S3 x X yO mH=>K i h p d a3 U _ _ _ ρ x (by have:=S3.sat;simp_all) u v ω
  .refine ZH F H D S 10 [4,0,0,1,12,0,2,1,1,0,0,1,4,0,0,1,3,0,0,1,0,0,0,1,2,0,0,1] 6 [5] [(14,.iface 168 (ptr q)),(13,.bool (decide (b.k≠1))),(12,ptr T),(11,ptr lb)] 10 3 [5] [] [((s.l.gt j).pd==(s.l.tk t).q j,true)] [] [] λa1 W I a M N R=>RM F a 15 173 #[ptr lb,ptr T,.bool (decide (b.k≠1)),.iface 168 (ptr q)] ρ ρ δ I λyS c=>GO F H (C:=mE o m b5 l k lb T ((s.l.tk t).q j) (.iface 168 (ptr q)) (decide (b.k≠1))++C) (f:=f) hg O ((I.sat.cast ξ).perm (AV ..)) (h1.app _) (h2.app _) (h3.app _) hv hf ω g hq hy hb Q ?_;intro i h p d V h4 u v FO;obtain⟨L,E⟩:∃L,L=mE o m b5 l k lb T ((s.l.tk t).q j) (.iface 168 (ptr q)) (decide (b.k≠1))++(pM {s with ea:=i,ec:=h,vv:=p,f:=upd s.f j d,l:=s.l.count y t j b}++(mI lb ((s.l.count y t j b).gt j) d++C)):=⟨_,rfl⟩;have h5:Sat Ok V L:=by rw[E];exact h4.perm (AV ..).symm
   refine c _ _ _ h5 λa2 B2 S2 A Z=>ZH F H A S2 1 [] 1 [] [] 12 3 [5] [] [] [] [] λa3 U S3 x X yO mH=>K i h p d a3 U _ _ _ ρ x (by have:=S3.sat;simp_all) u v ω
 .have c:s.l.count y t j b=s.l:=by unfold LS.count;simp_all
  have Na:((s.l.gt j).pd==(s.l.tk t).q j)=false:=χ
  rw[c]at K;refine ZH F H D S 6 [4,0,0,1,12,0,2,1,1,0,0,1] 4 [5] [] 6 2 [5] [] [((s.l.gt j).pd==(s.l.tk t).q j,false)] [] [] λa1 W I a M N R=>K s.ea s.ec s.vv f a1 W _ _ _ ρ a ?_ hv hf ω;simp only[mI,<-P];exact I.sat
def Jo(x y:Bool)(nn:Int)(e:ay)(b5:Nat):Env:=(bif x then[(41,i6 nn)]else[])++((bif y then[(42,e)]else[])++[(4,i6 nn),(5,ptr b5)])
def GR(F:aB prog J (DX Ok) Ψ)(O:HB B Ok)(N:D.kind=.normal){A:Act}{u:Nat}{nn:Int}{e:ay}{n:aH}{ds:wN}(I:e=.nilIface\/∃q,e=.iface 168 (ptr q))(E:B<=u)(Q:St Ok u 43 [(4,i6 nn),(5,ptr b5)] (r0::n::bR b5 [e]::M) 0 A w)(x:A.defers=ds)(K:∀g w',St Ok u 43 [(4,i6 nn),(5,ptr b5)] (r0::n::bR b5 [e]::M) 0 g w'->g.defers=ds->Ψ (G (D.at g (pc prog 169 49 [false] [4,11,4])) cs) w'):
 Ψ (G (D.at A (pc prog 169 48 [false] [4,11])) cs) w:=by
 have v:mP (pc prog 169 48 [false] [4,11])=true:=ρ
 obtain⟨id,P⟩:∃id,pc prog 169 48 [false] [4,11]=.code (.region id (aL (pc prog 169 48 [false] [4,11])) true)::behind (pc prog 169 48 [false] [4,11]):=by
  unfold mP at v;split at v
  .rename_i id ops k h;exact⟨id,by rw[h];rfl⟩
  .cases v
 rw[P];have l:HB u Ok:=λa wr z=>O a wr ω;have j:D.kind≠.early:=χ
 refine F.K7 aK [[],[],[0],[0,1,2]] (n:=4) ρ ρ (λb a w=>St Ok u 43 (Jo (b 0) (b 1) nn e b5) (r0::n::bR b5 [e]::M) 0 a w/\a.defers=ds) ⟨Q,x⟩ (λi _ H b a w y L t s U C p=>?_) (λb a w y r=>?_)
 .let⟨S,o⟩:=y;match i,H with
  |0,_=>
   rw[t]at S;cases d:b 1 with
   |true=>
    rw[d]at S;exact blk F aK l j 1 169 [] [] [] 0 (Jo true true nn e b5) (r0::n::bR b5 [e]::M) 0 _ [] [] [] ρ ρ eU eU eU S λg w' m c _ _=>p g w' ⟨by simpa [tick,d]using m,c.trans o⟩
   |false=>
    rw[d]at S;exact blk F aK l j 1 169 [] [] [] 0 (Jo true false nn e b5) (r0::n::bR b5 [e]::M) 0 _ [] [] [] ρ ρ eU eU eU S λg w' m c _ _=>p g w' ⟨by simpa [tick,d]using m,c.trans o⟩
  |1,_=>
   rw[t]at S;cases f:b 0 with
   |true=>
    rw[f]at S;exact blk F aK l j 1 169 [(2,(0,0),true)] [] [] 0 (Jo true true nn e b5) (r0::n::bR b5 [e]::M) 0 _ [] [] [] ρ ρ eU eU eU S λg w' m c _ _=>p g w' ⟨by simpa [tick,f]using m,c.trans o⟩
   |false=>
    rw[f]at S;exact blk F aK l j 1 169 [(2,(0,0),true)] [] [] 0 (Jo false true nn e b5) (r0::n::bR b5 [e]::M) 0 _ [] [] [] ρ ρ eU eU eU S λg w' m c _ _=>p g w' ⟨by simpa [tick,f]using m,c.trans o⟩
  |2,_=>
   have f:=s 0 ψ;rw[f]at S;cases d:b 1 with
   |true=>
    rw[d]at S;exact blk F aK l j 1 169 [] [] [] 0 (Jo true true nn e b5) (r0::n::bR b5 [e]::M) 0 _ [] [] [] ρ ρ eU eU eU S λg w' m c _ _=>p g w' ⟨by simpa [tick,d,f]using m,c.trans o⟩
   |false=>
    rw[d]at S;exact blk F aK l j 1 169 [] [] [] 0 (Jo true false nn e b5) (r0::n::bR b5 [e]::M) 0 _ [] [] [] ρ ρ eU eU eU S λg w' m c _ _=>p g w' ⟨by simpa [tick,d,f]using m,c.trans o⟩
  |3,_=>
   have f:=s 0 ψ;have d:=s 1 ψ;rw[f,d]at S;rcases I with rfl|⟨q,rfl⟩
   .exact blk F aK l j 1 169 [(2,(0,0),true)] [] [] 0 (Jo true true nn .nilIface b5) (r0::n::bR b5 [.nilIface]::M) 0 _ [] [] [] ρ ρ eU eU eU S λg w' m c _ _=>p g w' ⟨by simpa [tick,d,f]using m,c.trans o⟩
   .exact blk F aK l j 1 169 [(2,(0,0),true)] [] [] 0 (Jo true true nn (.iface 168 (ptr q)) b5) (r0::n::bR b5 [.iface 168 (ptr q)]::M) 0 _ [] [] [] ρ ρ eU eU eU S λg w' m c _ _=>p g w' ⟨by simpa [tick,d,f]using m,c.trans o⟩
 .let⟨S,o⟩:=y;rw[r 0 ω,r 1 ω]at S;have h:=K a w (S.dB _ rfl) o;rw[show pc prog 169 49 [false] [4,11,4]=.inRegion (aL (pc prog 169 48 [false] [4,11])) []::behind (pc prog 169 48 [false] [4,11]) by kernel_rfl]at h;exact h
def aan:cV P program=some P:=rfl
def MC(c:Prop)[Decidable c](x y:Sem α):cV P (if c then x else y)=if c then cV P x else cV P y:=by split<;>rfl
def aaJ(d:Nat)(t:TypeId)(k c:IntKind)(a b:Int)(h:P.underlying t=some (.int c)):cV P (Op.equalIn (d+1) t (.int k a) (.int k b))=some (a==b):=by
 simp[Op.equalIn,cr,nk _ _ h,gJ]
def aaK(d:Nat)(t:TypeId)(j i:gd){c:Array Field}(p:P.underlying t=some (.struct c))(q:P.stoodInHeld t=false)(g:Field->Bool)(h:∀f∈c.toList,f.name≠ "_" /\∃u v,cV P (part f.type j f.offset)=some u/\cV P (part f.type i f.offset)=some v/\cV P (Op.equalIn d f.type u v)=some (g f)):
 cV P (Op.equalIn (d+1) t (.agg j) (.agg i))=some (c.toList.all g):=by
 simp only[Op.equalIn,cr,nk _ _ p,fJ,aan,q,sP,if_false];rw[<-Array.forIn_toList];generalize c.toList=l at h;induction l with
 |nil=>rfl
 |cons f l o=>
  let⟨n,u,v,m,k,b⟩:=h f (bI ..);have e:=o (λg a=>h g (aP _ a));cases a:g f with
  |true=>
   rw[a]at b;simp only[List.forIn_cons,cr,MC,sJ n,m,k,b,fJ,Bool.not_true,sP,if_false,gJ,List.all_cons,a,Bool.true_and];simpa [cr]using e
  |false=>
   rw[a]at b;simp[List.forIn_cons,cr,MC,n,m,k,b,gJ,a]
def aay(o:Option TypeDesc)(i:Option TypeDesc):Bool:=match o,i with
 |some (.struct fs),some (.int _)=>fs.toList.all (λf=>f.type==3&&f.name != "_")&&fs.toList.map (·.offset)==[0,1,2]
 |_,_=>false
def aaI(x y:Operand)(u:iN):cV prog (do eqGuard .eql 48 x y (.agg #[i6 u.k,i6 u.l,i6 u.n]) (.agg #[i6 3,i6 0,i6 0]);binOp .eql 48 (.agg #[i6 u.k,i6 u.l,i6 u.n]) (.agg #[i6 3,i6 0,i6 0]))=some (.bool (u.k==3&&(u.l==0&&(u.n==0&&true)))):=by
 have h:aay (prog.underlying 48) (prog.underlying 3)=true:=ρ
 have i:prog.eqGuardType prog.depth 48=false:=ρ
 have c:cV prog (isAgg 3)=some false:=ρ
 have l:cV prog (eqGuard .eql 48 x y (.agg #[i6 u.k,i6 u.l,i6 u.n]) (.agg #[i6 3,i6 0,i6 0]))=some ():=by
  simp only[eqGuard,cr,aan,fJ,i,MC,gJ];simp[cr,aan,i,gJ]
 unfold aay at h;split at h
 .rename_i q k j p;simp only[bZ,beq_iff_eq]at h;let⟨n,g⟩:=h;have m:=aaK 9999 48 #[i6 u.k,i6 u.l,i6 u.n] #[i6 3,i6 0,i6 0] j ρ (λf=>[u.k,u.l,u.n].getD f.offset 0==[3,0,0].getD f.offset 0) λf e=>?_
  .rw[cr,l,fJ];show cV prog (Op.equalIn 10000 48 (.agg #[i6 u.k,i6 u.l,i6 u.n]) (.agg #[i6 3,i6 0,i6 0])>>=λa=>pure (Value.bool a))=_;rw[cr,m];have:=List.all_map (f:=λf:Field=>f.offset) (l:=q.toList) (p:=λo=>[u.k,u.l,u.n].getD o 0==[3,0,0].getD o 0);rw[g]at this;exact cT (λb=>some (Value.bool b)) this.symm
  .have:=eZ.1 n f e;simp only[bZ,beq_iff_eq,bne_iff_ne]at this;have d:f.offset∈[0,1,2]:=by rw[<-g];exact List.mem_map_of_mem e
   refine⟨this.2,i6 ([u.k,u.l,u.n].getD f.offset 0),i6 ([3,0,0].getD f.offset 0),?_,?_,?_⟩;all_goals rw[this.1]
   .simp only[part,cr,c,fJ,MC,sP,if_false];rcases(by simpa using d:f.offset=0\/f.offset=1\/f.offset=2)with z|z|z<;>rw[z]<;>rfl
   .simp only[part,cr,c,fJ,MC,sP,if_false];rcases(by simpa using d:f.offset=0\/f.offset=1\/f.offset=2)with z|z|z<;>rw[z]<;>rfl
   .exact aaJ 9998 3 .i64 k _ _ p
 .cases h
def aaL(o:Oper)(x y d t:Nat):Bool:=(match o.dst with|some d'=>d'==d|none=>false)&&(match o.op with
 |.binOp .eql t' (.tmp x') (.tmp y') _=>t'==t&&x'==x&&y'==y
 |_=>false)
def eqS(F:aB prog J (DX Ok) Ψ)(L:b.kind=.normal){E:Env}{t:eC}(x y d:Nat)(u:iN)(m:kI t=true)(O:V0 E t=true)(e:aaL (aQ t) x y d 48=true)(n:d<N)(C:look E x=some (.agg #[i6 u.k,i6 u.l,i6 u.n]))(B:look E y=some (.agg #[i6 3,i6 0,i6 0]))(S:St Ok B' N E M c a w)(K:∀o,aR ((d,.bool (u.k==3&&(u.l==0&&(u.n==0&&true))))::E) N o->o.defers=a.defers->Ψ (G (b.at o (jB t)) cs) w):Ψ (G (b.at a t) cs) w:=by
 let⟨ops,i,r,I,p,l,H⟩:=dH m;have D:=Zh O S.env p;unfold aaL at e;simp only[bZ]at e;let⟨f,k⟩:=e;have f:(aQ t).dst=some d:=by
  split at f
  .rename_i s n;rw[n];simp at f;rw[f]
  .cases f
 have h:∀q v,look E q=some v->a.eval (.tmp q)=v:=λq v j=>by rw[S.env.eval (by simp[kn,j])];simp[ev,j]
 have j:cV prog (execOp a.eval (aQ t))=some (.value (.bool (u.k==3&&(u.l==0&&(u.n==0&&true))))):=by
  split at k
  .rename_i R A z Q m;simp only[bZ,beq_iff_eq]at k;obtain⟨⟨rfl,rfl⟩,rfl⟩:=k;unfold execOp;rw[m];simp only[h A _ C,h z _ B];rw[cr,aaI];rfl
  .cases k
 have g:=fV _ _ j;rw[p];refine F.AZ l D (by rw[L];decide) (λs=>?_) λs T P=>?_
 .unfold Sem.events;rw[g]
 .rw[<-fH (es:=#[]),g];refine P _ ?_;rw[<-H,f];exact K _ (S.env.put n) (put_defers _ _ _)
end Go.Proofs.YtobagnjnbmgidaaGreatDoor
