import Derived.Test.YtobagnjnbmgidaaGreatDoorX34
import Derived.Test.YtobagnjnbmgidaaGreatDoorN6
set_option linter.all false
set_option maxHeartbeats 8000000
set_option maxRecDepth 100000
namespace Go.Proofs.YtobagnjnbmgidaaGreatDoor
open Tryz
section
open Go.Conc Go.RowKit
variable{main:Bool}{Ok:Addr→Bool→Prop}
def bn(b:Bool):Nat:=if b then 1 else 0
def cr(w:World)(c:Nat):Prop:=w.heap[c]? =some (.chan 0 #[] false 0 0 false)
theorem cr.al{w w':World}{o:Obj}{c:Nat}(h:cr w c)(e:w.alloc o=w'):cr w' c:=by
 subst e;unfold cr;rw[Below.heap_alloc _ _ _ (Array.getElem?_eq_some_iff.1 h).1];exact h
theorem cr.st{w w':World}{a:Addr}{v:Value}{c:Nat}(h:cr w c)(e:w.setCell a v=w'):cr w' c:=by
 subst e;unfold cr at h ⊢;simp only[World.setCell,Array.getElem?_modify,h]
 split<;>rfl
structure Da(w:World)(A wc ec:Nat):Prop where
 a0:w.cell? ⟨A,0,none⟩=some (.int .i64 0)
 a1:w.cell? ⟨A,1,none⟩=some (.slice none 0 0)
 a2:w.cell? ⟨A,2,none⟩=some (.int .i64 0)
 a3:w.cell? ⟨A,3,none⟩=some (.chan (some wc))
 a4:w.cell? ⟨A,4,none⟩=some (.chan (some ec))
 a5:w.cell? ⟨A,5,none⟩=some (.int .u64 0)
 a6:w.cell? ⟨A,6,none⟩=some (.int .u32 0)
 z:∀i,w.frozen? ⟨A,i,none⟩=false
theorem wG(w0:World):
 cj prog main (DX Ok) 35 #[] w0 fun v w'=>∃wc ec,v=.pointer (some ⟨w0.heap.size+2,0,none⟩)∧Kp [] w0 w'∧w'.heap.size=w0.heap.size+3∧w0.heap.size≤wc∧wc<w0.heap.size+2∧w0.heap.size≤ec∧ec<w0.heap.size+2∧wc≠ec∧cr w' wc∧cr w' ec∧Da w' (w0.heap.size+2) wc ec:=by
 intro Ψ F c cs hc;generalize sw:w0.heap.size=n0 at hc;have aaj:n0≤w0.heap.size∧w0.heap.size≤n0:=by omega
 clear sw;rw[enter_at _ func35 rfl];simp only[ntmps35,mV,Nat.reduceAdd,Nat.reduceSub];have kp:Kp [] w0 w0:=Kp.refl _;have cU:n0+(bn false+bn false+bn false)≤w0.heap.size∧w0.heap.size≤n0+(bn false+bn false+bn false):=by simp[bn];omega
 refine F.bh ?_;refine F.ak ?_;try walk_nrm
 refine F.es ?_;refine F.zq (γ:=Nat×Nat) (n:=5) mixed [[],[],[0,1],[2],[0,1,2,3]] rfl (by kernel_rfl) (fun b g=>[(1,fZ (b 0) (.chan (some g.1)) (undef)),(2,fZ (b 1) (.chan (some g.2)) (undef)),(3,fZ (b 2) (.agg #[.int .i64 0,.slice none 0 0,.int .i64 0,.chan (some g.1),.chan (some g.2),.int .u64 0,.int .u32 0]) (undef)),(4,fZ (b 3) (.pointer (some ⟨n0+2,0,none⟩)) (undef)),(0,fZ (b 4) (.pointer (some ⟨n0+2,0,none⟩)) (.pointer none))]) (fun b g w=>(Kp [] w0 w)∧(n0+(bn (b 0)+bn (b 1)+bn (b 3))≤w.heap.size∧w.heap.size≤n0+(bn (b 0)+bn (b 1)+bn (b 3)))∧(b 0=true→n0≤g.1∧g.1<n0+2∧g.1<w.heap.size∧cr w g.1)∧(b 1=true→n0≤g.2∧g.2<n0+2∧g.2<w.heap.size∧cr w g.2)∧(b 0=true→b 1=true→g.1≠g.2)∧(b 3=true→Da w (n0+2) g.1 g.2)) ((0,0)) (by simp only[pu,Nat.reduceAdd,Nat.reduceEqDiff,reduceIte]) (⟨kp,cU,fun h=>(by cases h),fun h=>(by cases h),fun h=>(by cases h),fun h=>(by cases h)⟩) (all_cons ?_ (all_cons ?_ (all_cons ?_ (all_cons ?_ (all_cons ?_ (all_nil)))))) ?_
 ·intro b g w hI bp aA cG rest iI cB
  obtain⟨kp,cU,h0,h1,h2,h3⟩:=hI;replace aA:b 0=false:=aA;have yO:=dN (bp 2 0 rfl) aA;have kN:=dN (bp 3 2 rfl) yO;have gW:=dN (bp 4 0 rfl) aA;simp only[yO,kN,gW,aA,pu,Nat.reduceAdd,Nat.reduceEqDiff,reduceIte];have Xn:bn (b 1)≤1:=by simp only[bn];split<;>omega
  have uw:bn (b 3)=0:=by rw[kN];rfl
  have Xl:bn (b 0)=0:=by rw[aA];rfl
  refine F.op rfl rfl (by decide) (fun d K hK=>?_);go_simp;rw[JM];go_simp;rw[alloc_at'];refine hK _ _ ⟨DX.alloc _ _ (fun e he=>?_),?_⟩
  ·have hm:=mem_listed he
   simp[go_sem,JM,LB] at hm
  clear hK K d;try walk_nrm
  generalize bJ:World.alloc w _=w1;generalize cP:(World.heap w).size=n1;have v8:=jV bJ cP;have bE:=cB (n1,g.2) _ ⟨kp.uA bJ,(by have e0:bn (tick b 0 0)=1:=(by simp[tick,bn]);have e1:tick b 0 1=b 1:=(by simp[tick]);have e3:tick b 0 3=b 3:=(by simp[tick]);rw[e0,e1,e3];omega),fun _=>⟨by omega,by omega,by omega,oB bJ cP⟩,fun h=>⟨(h1 (by simpa [tick] using h)).1,(h1 (by simpa [tick] using h)).2.1,by have:=(h1 (by simpa [tick] using h)).2.2.1;omega,(h1 (by simpa [tick] using h)).2.2.2.al bJ⟩,fun _ h=>(fun z=>by have:=(h1 (by simpa [tick] using h)).2.2.1;dsimp only at z;omega),fun h=>absurd (show b 3=true from(by simpa [tick] using h)) (by rw[kN];decide)⟩;simp only[yO,kN,gW,aA,pu,Nat.reduceAdd,Nat.reduceEqDiff,reduceIte] at bE;exact bE
 ·intro b g w hI bp aA cG rest iI cB
  obtain⟨kp,cU,h0,h1,h2,h3⟩:=hI;replace aA:b 1=false:=aA;have yO:=dN (bp 2 1 rfl) aA;have kN:=dN (bp 3 2 rfl) yO;have gW:=dN (bp 4 1 rfl) aA;simp only[yO,kN,gW,aA,pu,Nat.reduceAdd,Nat.reduceEqDiff,reduceIte];have Xn:bn (b 0)≤1:=by simp only[bn];split<;>omega
  have uw:bn (b 3)=0:=by rw[kN];rfl
  have Xl:bn (b 1)=0:=by rw[aA];rfl
  refine F.op rfl rfl (by decide) (fun d K hK=>?_);go_simp;rw[JM];go_simp;rw[alloc_at'];refine hK _ _ ⟨DX.alloc _ _ (fun e he=>?_),?_⟩
  ·have hm:=mem_listed he
   simp[go_sem,JM,LB] at hm
  clear hK K d;try walk_nrm
  generalize bJ:World.alloc w _=w1;generalize cP:(World.heap w).size=n1;have v8:=jV bJ cP;have bE:=cB (g.1,n1) _ ⟨kp.uA bJ,(by have e0:bn (tick b 1 1)=1:=(by simp[tick,bn]);have e1:tick b 1 0=b 0:=(by simp[tick]);have e3:tick b 1 3=b 3:=(by simp[tick]);rw[e0,e1,e3];omega),fun h=>⟨(h0 (by simpa [tick] using h)).1,(h0 (by simpa [tick] using h)).2.1,by have:=(h0 (by simpa [tick] using h)).2.2.1;omega,(h0 (by simpa [tick] using h)).2.2.2.al bJ⟩,fun _=>⟨by omega,by omega,by omega,oB bJ cP⟩,fun h _=>(fun z=>by have:=(h0 (by simpa [tick] using h)).2.2.1;dsimp only at z;omega),fun h=>absurd (show b 3=true from(by simpa [tick] using h)) (by rw[kN];decide)⟩;simp only[yO,kN,gW,aA,pu,Nat.reduceAdd,Nat.reduceEqDiff,reduceIte] at bE;exact bE
 ·intro b g w hI bp aA cG rest iI cB
  obtain⟨kp,cU,h0,h1,h2,h3⟩:=hI;replace aA:b 2=false:=aA;have d0:=cG 0 rfl;have d1:=cG 1 rfl;simp only[d0,d1,aA,pu,Nat.reduceAdd,Nat.reduceEqDiff,reduceIte];refine F.ak ?_;try walk_nrm
  have bE:=cB g _ ⟨kp,cU,h0,h1,h2,h3⟩;simp only[d0,d1,aA,pu,Nat.reduceAdd,Nat.reduceEqDiff,reduceIte] at bE;exact bE
 ·intro b g w hI bp aA cG rest iI cB
  obtain⟨kp,cU,h0,h1,h2,h3⟩:=hI;replace aA:b 3=false:=aA;have d2:=cG 2 rfl;have d0:=bp 2 0 rfl d2;have d1:=bp 2 1 rfl d2;simp only[d2,d0,d1,aA,pu,Nat.reduceAdd,Nat.reduceEqDiff,reduceIte];have e0:bn (b 0)=1:=by rw[d0];rfl
  have e1:bn (b 1)=1:=by rw[d1];rfl
  have e3:bn (b 3)=0:=by rw[aA];rfl
  have J0:w.heap.size=n0+2:=by omega
  clear cU;refine F.op rfl rfl (by decide) (fun d K hK=>?_);go_simp;rw[alloc_at'];refine hK _ _ ⟨DX.alloc _ _ (fun e he=>?_),?_⟩
  ·have hm:=mem_listed he
   simp[go_sem] at hm
  clear hK K d;try walk_nrm
  generalize bJ:World.alloc w _=w1;have v8:=jV bJ J0;have ag:Da w1 (n0+2) g.1 g.2:=⟨aI (i:=0) bJ J0 rfl,aI (i:=1) bJ J0 rfl,aI (i:=2) bJ J0 rfl,aI (i:=3) bJ J0 rfl,aI (i:=4) bJ J0 rfl,aI (i:=5) bJ J0 rfl,aI (i:=6) bJ J0 rfl,fun i=>aV bJ J0 i⟩;have bE:=cB g _ ⟨kp.uA bJ,(by have t0:tick b 3 0=b 0:=(by simp[tick]);have t1:tick b 3 1=b 1:=(by simp[tick]);have t3:bn (tick b 3 3)=1:=(by simp[tick,bn]);rw[t0,t1,t3];omega),fun _=>⟨(h0 d0).1,(h0 d0).2.1,by have:=(h0 d0).2.2.1;omega,(h0 d0).2.2.2.al bJ⟩,fun _=>⟨(h1 d1).1,(h1 d1).2.1,by have:=(h1 d1).2.2.1;omega,(h1 d1).2.2.2.al bJ⟩,fun _ _=>h2 d0 d1,fun _=>ag⟩;simp only[d2,d0,d1,aA,pu,Nat.reduceAdd,Nat.reduceEqDiff,reduceIte] at bE;exact bE
 ·intro b g w hI bp aA cG rest iI cB
  obtain⟨kp,cU,h0,h1,h2,h3⟩:=hI;replace aA:b 4=false:=aA;have d0:=cG 0 rfl;have d1:=cG 1 rfl;have d2:=cG 2 rfl;have d3:=cG 3 rfl;simp only[d0,d1,d2,d3,aA,pu,Nat.reduceAdd,Nat.reduceEqDiff,reduceIte];refine F.ak ?_;try walk_nrm
  have bE:=cB g _ ⟨kp,cU,h0,h1,h2,h3⟩;simp only[d0,d1,d2,d3,aA,pu,Nat.reduceAdd,Nat.reduceEqDiff,reduceIte] at bE;exact bE
 intro b g w hI aB;obtain⟨kp,cU,h0,h1,h2,h3⟩:=hI;simp only[aB 0 (by decide),aB 1 (by decide),aB 2 (by decide),aB 3 (by decide),aB 4 (by decide),pu,Nat.reduceAdd,Nat.reduceEqDiff,reduceIte];have f0:=h0 (aB 0 (by decide));have f1:=h1 (aB 1 (by decide));have f2:=h2 (aB 0 (by decide)) (aB 1 (by decide));have f3:=h3 (aB 3 (by decide));rw[aB 0 (by decide),aB 1 (by decide),aB 3 (by decide)] at cU;simp only[bn,if_true] at cU;refine F.re ?_;refine F.ctl (fun _=>stepG_ret') ?_;refine F.aF rfl rfl func35 (resultsC_tmp (by rfl) _) ?_;exact hc _ _ ⟨g.1,g.2,rfl,kp,by omega,f0.1,f0.2.1,f1.1,f1.2.1,f2,f0.2.2.2,f1.2.2.2,f3⟩
end
section
open Go.Conc Go.RowKit
variable{main:Bool}{Ok:Addr→Bool→Prop}
structure nk(w:World)(T A aX:Nat)(cl kn:Int):Prop where
 t0:w.cell? ⟨T,0,none⟩=some (.pointer (some ⟨A,0,none⟩))
 t1:w.cell? ⟨T,1,none⟩=some (.int .i64 kn)
 t2:w.cell? ⟨T,2,none⟩=some (.int .i64 cl)
 t3:w.cell? ⟨T,3,none⟩=some (.chan (some aX))
 t4:w.cell? ⟨T,4,none⟩=some (.pointer none)
 t5:w.cell? ⟨T,5,none⟩=some (.slice none 0 0)
 t6:w.cell? ⟨T,6,none⟩=some (.bool false)
 t7:w.cell? ⟨T,7,none⟩=some (.bool false)
 z4:w.frozen? ⟨T,4,none⟩=false
 z5:w.frozen? ⟨T,5,none⟩=false
 z6:w.frozen? ⟨T,6,none⟩=false
 z7:w.frozen? ⟨T,7,none⟩=false
theorem nk.kp{L:List Nat}{C:List Addr}{w w':World}{T A aX:Nat}{cl kn:Int}(h:nk w T A aX cl kn)(k:Kp L w w' C)(hL:T∉L)(hC:∀x∈C,x.block≠T):nk w' T A aX cl kn:=
 have c:∀i,(⟨T,i,none⟩:Addr)∉C:=fun i z=>hC _ z rfl
 ⟨k.cellC _ _ hL (c _) h.t0,k.cellC _ _ hL (c _) h.t1,k.cellC _ _ hL (c _) h.t2,k.cellC _ _ hL (c _) h.t3,k.cellC _ _ hL (c _) h.t4,k.cellC _ _ hL (c _) h.t5,k.cellC _ _ hL (c _) h.t6,k.cellC _ _ hL (c _) h.t7,(k.jq _ _ hL (c _) h.t4).trans h.z4,(k.jq _ _ hL (c _) h.t5).trans h.z5,(k.jq _ _ hL (c _) h.t6).trans h.z6,(k.jq _ _ hL (c _) h.t7).trans h.z7⟩
theorem cr.dx{w w':World}{es:Array Event}{c:Nat}(D:DX Ok w w' es)(h:cr w c):cr w' c:=D.obj c _ h (fun _ _ _ z=>by cases z)
theorem cj.keep{R:World→Prop}{f:FuncId}{args:Array Value}{w:World}{Post:Value→World→Prop}(nD:∀w d,R w→R (w.at d))(hR:∀w w' es,DX Ok w w' es→R w→R w')(h:cj prog main (DX Ok) f args w Post)(hw:R w):
 cj prog main (DX Ok) f args w (fun v w'=>Post v w'∧R w'):=fun Ψ F c cs hc=>
 h (fun g w=>R w→Ψ g w) ⟨fun g w d x hr=>F.at' _ _ _ (x (show R w from nD (w.at d) w.drawn hr)),F.idle,F.less,fun g w hs x hr=>F.step g w hs fun d=>by
  obtain⟨g',w',es,h1,h2,h3,h4⟩:=x d;exact⟨g',w',es,h1,h2,h3 (hR _ _ _ h2 (nD _ d hr)),h4⟩⟩ c cs (fun v w' hp hr=>hc v w' ⟨hp,hr⟩) hw
theorem cj.NF{f:FuncId}{args:Array Value}{w:World}{Post:Value→World→Prop}(h:cj prog main (DX Ok) f args w Post){c:Nat}(hw:cr w c):
 cj prog main (DX Ok) f args w (fun v w'=>Post v w'∧cr w' c):=h.keep (fun _ _ x=>x) (fun _ _ _ D x=>x.dx D) hw
end
section
open Go.Conc Go.RowKit
variable{main:Bool}{Ok:Addr→Bool→Prop}
theorem Gr{w:World}{c b i:Nat}{v:Value}(h:cr w c)(hc:w.cell? ⟨b,i,none⟩=some v):c≠b:=fun z=>by
 subst z;unfold cr at h;simp only[World.cell?,h] at hc
 simp at hc
theorem Ic(N A bl bo bi cl k:Nat)(at':Int)(en:Value)(es:List (Int×Value))(w0:World)(hN:N≤w0.heap.size)(lA:A<N)(he:fU N w0 en es)(NY:es.length<900)(ZO:k<900)(dw:w0.cell? ⟨A,1,none⟩=some en)(eG:w0.cell? ⟨A,2,none⟩=some (.int .i64 (k:Int)))(gZ:w0.frozen? ⟨A,1,none⟩=false)(mM:w0.frozen? ⟨A,2,none⟩=false)(o1:Ok ⟨A,1,none⟩ false)(o1w:Ok ⟨A,1,none⟩ true)(o2:Ok ⟨A,2,none⟩ false)(o2w:Ok ⟨A,2,none⟩ true)(qj:∀(a:Addr)(wr:Bool),a.block∈bV en∨w0.heap.size≤a.block→Ok a wr):
 cj prog main (DX Ok) 36 #[.pointer (some ⟨A,0,none⟩),.int .i64 (cl:Int),.int .i64 at',.func (.func 37) #[] #[.pointer (some ⟨bl,0,none⟩),.pointer (some ⟨bo,0,none⟩),.pointer (some ⟨bi,0,none⟩)]] w0 fun v w'=>∃ba bw aX T bt P p8 i,v=.pointer (some ⟨T,0,none⟩)∧Kp (bV en) w0 w' [⟨A,1,none⟩,⟨A,2,none⟩]∧
  (w0.heap.size≤ba∧ba<bw∧bw<aX∧bw<T∧bw<bt∧aX<P∧T<P∧bt<P∧P≤w'.heap.size∧bt≠T∧aX≠T∧aX≠bt)∧
  w'.cell? ⟨ba,0,none⟩=some (.pointer (some ⟨A,0,none⟩))∧w'.cell? ⟨bw,0,none⟩=some (.func (.func 37) #[] #[.pointer (some ⟨bl,0,none⟩),.pointer (some ⟨bo,0,none⟩),.pointer (some ⟨bi,0,none⟩)])∧w'.cell? ⟨bt,0,none⟩=some (.pointer (some ⟨T,0,none⟩))∧nk w' T A aX (cl:Int) (k:Int)∧cr w' aX∧
  w'.cell? ⟨A,1,none⟩=some p8∧w'.frozen? ⟨A,1,none⟩=false∧w'.cell? ⟨A,2,none⟩=some (.int .i64 ((k:Int)+1))∧w'.frozen? ⟨A,2,none⟩=false∧i≤es.length∧lz es at' i∧fU N w' p8 (es.take i++(at',.func (.func 50) #[] #[.pointer (some ⟨ba,0,none⟩),.pointer (some ⟨bt,0,none⟩),.pointer (some ⟨bw,0,none⟩)])::es.drop i)∧∀g∈bV p8,g∈bV en∨P≤g:=by
 intro Ψ F c cs hc;have b8:∀(a:Addr)(wr:Bool),w0.heap.size≤a.block→Ok a wr:=fun a wr h=>qj a wr (.inr h)
 have Wo:∀g,g∈bV en→N≤g∧g<w0.heap.size:=fun g hg=>by
  obtain⟨h1,cur,h2⟩:=he.lt (br.1 hg);exact⟨h1,(Array.getElem?_eq_some_iff.1 h2).1⟩
 have Ce:IntKind.i64.wrap 1=1:=by decide
 have aad:IntKind.i64.wrap ((k:Int)+1)=(k:Int)+1:=by simp only[IntKind.wrap,IntKind.bits,IntKind.signed]<;>(try simp)<;>omega
 rw[enter_at _ func36 rfl];simp only[ntmps36,mV,Nat.reduceAdd,Nat.reduceSub];refine F.bh ?_;refine F.op rfl rfl (by decide) (fun d K hK=>?_);go_simp;rw[alloc_at'];refine hK _ _ ⟨DX.alloc _ _ (fun e he=>?_),?_⟩
 ·have hm:=mem_listed he
  simp[go_sem] at hm
 clear hK K d;try walk_nrm
 generalize bJ:World.alloc w0 _=w1;generalize cP:(World.heap w0).size=n1;have v8:=g9 bJ cP;replace gZ:=ez gZ dw bJ;replace mM:=ez mM eG bJ;replace dw:=bH dw bJ;replace eG:=bH eG bJ;have gi:=aI (i:=0) bJ cP rfl;have Vi:=aV bJ cP 0;try simp only[List.getElem_toArray,List.getElem_cons_zero,List.getElem_cons_succ] at gi
 have kp:Kp [] w0 w0 []:=Kp.refl _;replace kp:=kp.uA bJ;refine F.op rfl rfl (by decide) (fun d K hK=>?_);go_simp;rw[alloc_at'];refine hK _ _ ⟨DX.alloc _ _ (fun e he=>?_),?_⟩
 ·have hm:=mem_listed he
  simp[go_sem] at hm
 clear hK K d;try walk_nrm
 generalize c7:World.alloc w1 _=w2;generalize mq:(World.heap w1).size=n2;have Io:=g9 c7 mq;replace gZ:=ez gZ dw c7;replace mM:=ez mM eG c7;replace Vi:=ez Vi gi c7;replace dw:=bH dw c7;replace eG:=bH eG c7;replace gi:=bH gi c7;have eZ:=aI (i:=0) c7 mq rfl;have zbw:=aV c7 mq 0;try simp only[List.getElem_toArray,List.getElem_cons_zero,List.getElem_cons_succ] at eZ
 replace kp:=kp.uA c7;refine F.ak ?_;try walk_nrm
 refine F.es ?_;have R3:w0.heap.size≤n1∧n1<n2:=by omega
 clear v8 Io cP mq bJ c7 Vi zbw;refine F.zq (γ:=Nat×Nat×Nat) (n:=11) mixed [[],[],[1],[2],[3],[],[],[0,4,5,6],[7],[],[0,1,2,3,4,5,6,7,8,9]] rfl (by kernel_rfl) (fun b g=>[(10,fZ (b 0) (.pointer (some ⟨A,0,none⟩)) (undef)),(11,fZ (b 1) (.pointer (some ⟨A,0,none⟩)) (undef)),(12,fZ (b 2) (.pointer (some ⟨A,0,none⟩)) (undef)),(13,fZ (b 3) (.pointer (some ⟨A,2,none⟩)) (undef)),(14,fZ (b 4) (.int .i64 (k:Int)) (undef)),(15,fZ (b 5) (.int .i64 (cl:Int)) (undef)),(16,fZ (b 6) (.chan (some g.1)) (undef)),(17,fZ (b 7) (.agg #[.pointer (some ⟨A,0,none⟩),.int .i64 (k:Int),.int .i64 (cl:Int),.chan (some g.1),.pointer none,.slice none 0 0,.bool false,.bool false]) (undef)),(18,fZ (b 8) (.pointer (some ⟨g.2.1,0,none⟩)) (undef)),(9,fZ (b 9) (.pointer (some ⟨g.2.2,0,none⟩)) (undef))]) (fun b g w=>(b 10=false→((Kp [] w0 w)∧(w.cell? ⟨n1,0,none⟩=some (.pointer (some ⟨A,0,none⟩)))∧(w.cell? ⟨n2,0,none⟩=some (.func (.func 37) #[] #[.pointer (some ⟨bl,0,none⟩),.pointer (some ⟨bo,0,none⟩),.pointer (some ⟨bi,0,none⟩)]))∧(w.cell? ⟨A,2,none⟩=some (.int .i64 (k:Int)))∧(w.cell? ⟨A,1,none⟩=some en)∧(w.frozen? ⟨A,2,none⟩=false)∧(w.frozen? ⟨A,1,none⟩=false)∧(b 6=true→n2<g.1∧g.1<w.heap.size∧cr w g.1)∧(b 8=true→n2<g.2.1∧g.2.1<w.heap.size∧nk w g.2.1 A g.1 (cl:Int) (k:Int))∧(b 9=true→n2<g.2.2∧g.2.2<w.heap.size∧w.cell? ⟨g.2.2,0,none⟩=some (.pointer none)∧w.frozen? ⟨g.2.2,0,none⟩=false)∧(b 8=true→b 9=true→g.2.1≠g.2.2)))∧(b 10=true→(Kp [] w0 w∧w.cell? ⟨n1,0,none⟩=some (.pointer (some ⟨A,0,none⟩))∧w.cell? ⟨n2,0,none⟩=some (.func (.func 37) #[] #[.pointer (some ⟨bl,0,none⟩),.pointer (some ⟨bo,0,none⟩),.pointer (some ⟨bi,0,none⟩)])∧w.cell? ⟨A,2,none⟩=some (.int .i64 (k:Int))∧w.cell? ⟨A,1,none⟩=some en∧w.frozen? ⟨A,2,none⟩=false∧w.frozen? ⟨A,1,none⟩=false∧(n2<g.1∧g.1<w.heap.size∧cr w g.1)∧(n2<g.2.1∧g.2.1<w.heap.size∧nk w g.2.1 A g.1 (cl:Int) (k:Int))∧n2<g.2.2∧g.2.2<w.heap.size∧w.cell? ⟨g.2.2,0,none⟩=some (.pointer (some ⟨g.2.1,0,none⟩))∧g.2.1≠g.2.2))) ((0,0,0)) (by simp only[pu,Nat.reduceAdd,Nat.reduceEqDiff,reduceIte]) (⟨fun _=>⟨kp,gi,eZ,eG,dw,mM,gZ,fun h=>(by cases h),fun h=>(by cases h),fun h=>(by cases h),fun h=>(by cases h)⟩,fun h=>by cases h⟩) (all_cons ?_ (all_cons ?_ (all_cons ?_ (all_cons ?_ (all_cons ?_ (all_cons ?_ (all_cons ?_ (all_cons ?_ (all_cons ?_ (all_cons ?_ (all_cons ?_ (all_nil)))))))))))) ?_
 ·intro b g w hI bp aA cG rest iI cB
  obtain⟨cD,eY⟩:=hI;replace aA:b 0=false:=aA;have b9:=dN (bp 10 0 rfl) aA;obtain⟨kp,gi,eZ,eG,dw,mM,gZ,h6,h8,h9,aN⟩:=cD b9;clear cD eY;simp only[b9,aA,pu,Nat.reduceAdd,Nat.reduceEqDiff,reduceIte];refine F.ol rfl rfl rfl fun d K h=>?_;go_simp;refine h _ (fun e m=>?_) ?_;simp[go_sem, *] at m;subst m;exact ff (w:=w) (by assumption) (by first|assumption|(apply b8<;>dsimp only<;>omega));clear h K d;try walk_nrm
  have bE:=cB g _ ⟨fun _=>⟨kp,gi,eZ,eG,dw,mM,gZ,h6,h8,h9,aN⟩,fun h=>no b9 h⟩;simp only[b9,aA,pu,Nat.reduceAdd,Nat.reduceEqDiff,reduceIte] at bE;exact bE
 ·intro b g w hI bp aA cG rest iI cB
  obtain⟨cD,eY⟩:=hI;replace aA:b 1=false:=aA;have b9:=dN (bp 10 1 rfl) aA;obtain⟨kp,gi,eZ,eG,dw,mM,gZ,h6,h8,h9,aN⟩:=cD b9;clear cD eY;simp only[b9,aA,pu,Nat.reduceAdd,Nat.reduceEqDiff,reduceIte];refine F.ol rfl rfl rfl fun d K h=>?_;go_simp;refine h _ (fun e m=>?_) ?_;simp[go_sem, *] at m;subst m;exact ff (w:=w) (by assumption) (by first|assumption|(apply b8<;>dsimp only<;>omega));clear h K d;try walk_nrm
  have bE:=cB g _ ⟨fun _=>⟨kp,gi,eZ,eG,dw,mM,gZ,h6,h8,h9,aN⟩,fun h=>no b9 h⟩;simp only[b9,aA,pu,Nat.reduceAdd,Nat.reduceEqDiff,reduceIte] at bE;exact bE
 ·intro b g w hI bp aA cG rest iI cB
  obtain⟨cD,eY⟩:=hI;replace aA:b 2=false:=aA;have d1:=cG 1 rfl;have b9:=dN (bp 10 2 rfl) aA;obtain⟨kp,gi,eZ,eG,dw,mM,gZ,h6,h8,h9,aN⟩:=cD b9;clear cD eY;simp only[d1,b9,aA,pu,Nat.reduceAdd,Nat.reduceEqDiff,reduceIte];refine F.ak ?_;try walk_nrm
  have bE:=cB g _ ⟨fun _=>⟨kp,gi,eZ,eG,dw,mM,gZ,h6,h8,h9,aN⟩,fun h=>no b9 h⟩;simp only[d1,b9,aA,pu,Nat.reduceAdd,Nat.reduceEqDiff,reduceIte] at bE;exact bE
 ·intro b g w hI bp aA cG rest iI cB
  obtain⟨cD,eY⟩:=hI;replace aA:b 3=false:=aA;have d2:=cG 2 rfl;have b9:=dN (bp 10 3 rfl) aA;obtain⟨kp,gi,eZ,eG,dw,mM,gZ,h6,h8,h9,aN⟩:=cD b9;clear cD eY;simp only[d2,b9,aA,pu,Nat.reduceAdd,Nat.reduceEqDiff,reduceIte];refine F.ak ?_;try walk_nrm
  have bE:=cB g _ ⟨fun _=>⟨kp,gi,eZ,eG,dw,mM,gZ,h6,h8,h9,aN⟩,fun h=>no b9 h⟩;simp only[d2,b9,aA,pu,Nat.reduceAdd,Nat.reduceEqDiff,reduceIte] at bE;exact bE
 ·intro b g w hI bp aA cG rest iI cB
  obtain⟨cD,eY⟩:=hI;replace aA:b 4=false:=aA;have d3:=cG 3 rfl;have b9:=dN (bp 10 4 rfl) aA;obtain⟨kp,gi,eZ,eG,dw,mM,gZ,h6,h8,h9,aN⟩:=cD b9;clear cD eY;simp only[d3,b9,aA,pu,Nat.reduceAdd,Nat.reduceEqDiff,reduceIte];refine F.ol rfl rfl rfl fun d K h=>?_;go_simp;refine h _ (fun e m=>?_) ?_;simp[go_sem, *] at m;subst m;exact ff (w:=w) (by assumption) (by first|assumption|(apply b8<;>dsimp only<;>omega));clear h K d;try walk_nrm
  have bE:=cB g _ ⟨fun _=>⟨kp,gi,eZ,eG,dw,mM,gZ,h6,h8,h9,aN⟩,fun h=>no b9 h⟩;simp only[d3,b9,aA,pu,Nat.reduceAdd,Nat.reduceEqDiff,reduceIte] at bE;exact bE
 ·intro b g w hI bp aA cG rest iI cB
  obtain⟨cD,eY⟩:=hI;replace aA:b 5=false:=aA;have b9:=dN (bp 10 5 rfl) aA;obtain⟨kp,gi,eZ,eG,dw,mM,gZ,h6,h8,h9,aN⟩:=cD b9;clear cD eY;simp only[b9,aA,pu,Nat.reduceAdd,Nat.reduceEqDiff,reduceIte];refine F.ak ?_;try walk_nrm
  have bE:=cB g _ ⟨fun _=>⟨kp,gi,eZ,eG,dw,mM,gZ,h6,h8,h9,aN⟩,fun h=>no b9 h⟩;simp only[b9,aA,pu,Nat.reduceAdd,Nat.reduceEqDiff,reduceIte] at bE;exact bE
 ·intro b g w hI bp aA cG rest iI cB
  obtain⟨cD,eY⟩:=hI;replace aA:b 6=false:=aA;have wH:=dN (bp 7 6 rfl) aA;have b9:=dN (bp 10 6 rfl) aA;obtain⟨kp,gi,eZ,eG,dw,mM,gZ,h6,h8,h9,aN⟩:=cD b9;clear cD eY;simp only[wH,b9,aA,pu,Nat.reduceAdd,Nat.reduceEqDiff,reduceIte];refine F.op rfl rfl (by decide) (fun d K hK=>?_);go_simp;rw[BS];go_simp;rw[alloc_at'];refine hK _ _ ⟨DX.alloc _ _ (fun e he=>?_),?_⟩
  ·have hm:=mem_listed he
   simp[go_sem,BS,Ar] at hm
  clear hK K d;try walk_nrm
  generalize cm:World.alloc w _=w3;generalize qu:(World.heap w).size=n3;have Lg:=jV cm qu;have fK:n2<n3:=by have:n2<w.heap.size:=aq eZ;omega
  have QZ:b 8=false:=by
   cases hx:b 8 with
   |false=>rfl
   |true=>have h7:=bp 8 7 rfl hx;have U0:=bp 7 6 rfl h7;rw[show b 6=false from aA] at U0;cases U0
  have bE:=cB (n3,g.2) _ ⟨fun _=>⟨kp.uA cm,bH gi cm,bH eZ cm,bH eG cm,bH dw cm,ez mM eG cm,ez gZ dw cm,fun _=>⟨fK,(show n3<w3.heap.size by omega),oB cm qu⟩,fun h=>absurd (show b 8=true from(by simpa [tick] using h)) (by rw[QZ];decide),fun h=>⟨(h9 (by simpa [tick] using h)).1,Nat.lt_of_lt_of_le (h9 (by simpa [tick] using h)).2.1 (by omega),bH (h9 (by simpa [tick] using h)).2.2.1 cm,ez (h9 (by simpa [tick] using h)).2.2.2 (h9 (by simpa [tick] using h)).2.2.1 cm⟩,fun h=>absurd (show b 8=true from(by simpa [tick] using h)) (by rw[QZ];decide)⟩,fun h=>absurd (show b 10=true from(by simpa [tick] using h)) (by rw[b9];decide)⟩;simp only[wH,b9,aA,pu,Nat.reduceAdd,Nat.reduceEqDiff,reduceIte] at bE;exact bE
 ·intro b g w hI bp aA cG rest iI cB
  obtain⟨cD,eY⟩:=hI;replace aA:b 7=false:=aA;have d0:=cG 0 rfl;have d4:=cG 4 rfl;have d5:=cG 5 rfl;have d6:=cG 6 rfl;have b9:=dN (bp 10 7 rfl) aA;obtain⟨kp,gi,eZ,eG,dw,mM,gZ,h6,h8,h9,aN⟩:=cD b9;clear cD eY;simp only[d0,d4,d5,d6,b9,aA,pu,Nat.reduceAdd,Nat.reduceEqDiff,reduceIte];refine F.ak ?_;try walk_nrm
  have bE:=cB g _ ⟨fun _=>⟨kp,gi,eZ,eG,dw,mM,gZ,h6,h8,h9,aN⟩,fun h=>no b9 h⟩;simp only[d0,d4,d5,d6,b9,aA,pu,Nat.reduceAdd,Nat.reduceEqDiff,reduceIte] at bE;exact bE
 ·intro b g w hI bp aA cG rest iI cB
  obtain⟨cD,eY⟩:=hI;replace aA:b 8=false:=aA;have d7:=cG 7 rfl;have d0:=bp 7 0 rfl d7;have d4:=bp 7 4 rfl d7;have d5:=bp 7 5 rfl d7;have d6:=bp 7 6 rfl d7;have d3:=bp 4 3 rfl d4;have d2:=bp 3 2 rfl d3;have d1:=bp 2 1 rfl d2;have b9:=dN (bp 10 8 rfl) aA;obtain⟨kp,gi,eZ,eG,dw,mM,gZ,h6,h8,h9,aN⟩:=cD b9;clear cD eY;simp only[d7,d0,d4,d5,d6,d3,d2,d1,b9,aA,pu,Nat.reduceAdd,Nat.reduceEqDiff,reduceIte];refine F.op rfl rfl (by decide) (fun d K hK=>?_);go_simp
  skip
  rw[alloc_at'];refine hK _ _ ⟨DX.alloc _ _ (fun e he=>?_),?_⟩
  ·have hm:=mem_listed he
   simp[go_sem,BS,Ar] at hm
  clear hK K d;try walk_nrm
  generalize cm:World.alloc w _=w3;generalize qu:(World.heap w).size=n3;have Lg:=jV cm qu;have fK:n2<n3:=by have:n2<w.heap.size:=aq eZ;omega
  have bE:=cB (g.1,n3,g.2.2) _ ⟨fun _=>⟨kp.uA cm,bH gi cm,bH eZ cm,bH eG cm,bH dw cm,ez mM eG cm,ez gZ dw cm,fun h=>⟨(h6 (by simpa [tick] using h)).1,Nat.lt_of_lt_of_le (h6 (by simpa [tick] using h)).2.1 (by omega),(h6 (by simpa [tick] using h)).2.2.al cm⟩,fun _=>⟨fK,(show n3<w3.heap.size by omega),aI (i:=0) cm qu rfl,aI (i:=1) cm qu rfl,aI (i:=2) cm qu rfl,aI (i:=3) cm qu rfl,aI (i:=4) cm qu rfl,aI (i:=5) cm qu rfl,aI (i:=6) cm qu rfl,aI (i:=7) cm qu rfl,aV cm qu 4,aV cm qu 5,aV cm qu 6,aV cm qu 7⟩,fun h=>⟨(h9 (by simpa [tick] using h)).1,Nat.lt_of_lt_of_le (h9 (by simpa [tick] using h)).2.1 (by omega),bH (h9 (by simpa [tick] using h)).2.2.1 cm,ez (h9 (by simpa [tick] using h)).2.2.2 (h9 (by simpa [tick] using h)).2.2.1 cm⟩,fun _ h=>(fun z=>by have:=(h9 (by simpa [tick] using h)).2.1;dsimp only at z;omega)⟩,fun h=>absurd (show b 10=true from(by simpa [tick] using h)) (by rw[b9];decide)⟩;simp only[d7,d0,d4,d5,d6,d3,d2,d1,b9,aA,pu,Nat.reduceAdd,Nat.reduceEqDiff,reduceIte] at bE;exact bE
 ·intro b g w hI bp aA cG rest iI cB
  obtain⟨cD,eY⟩:=hI;replace aA:b 9=false:=aA;have b9:=dN (bp 10 9 rfl) aA;obtain⟨kp,gi,eZ,eG,dw,mM,gZ,h6,h8,h9,aN⟩:=cD b9;clear cD eY;simp only[b9,aA,pu,Nat.reduceAdd,Nat.reduceEqDiff,reduceIte];refine F.op rfl rfl (by decide) (fun d K hK=>?_);go_simp
  skip
  rw[alloc_at'];refine hK _ _ ⟨DX.alloc _ _ (fun e he=>?_),?_⟩
  ·have hm:=mem_listed he
   simp[go_sem,BS,Ar] at hm
  clear hK K d;try walk_nrm
  generalize cm:World.alloc w _=w3;generalize qu:(World.heap w).size=n3;have Lg:=jV cm qu;have fK:n2<n3:=by have:n2<w.heap.size:=aq eZ;omega
  have bE:=cB (g.1,g.2.1,n3) _ ⟨fun _=>⟨kp.uA cm,bH gi cm,bH eZ cm,bH eG cm,bH dw cm,ez mM eG cm,ez gZ dw cm,fun h=>⟨(h6 (by simpa [tick] using h)).1,Nat.lt_of_lt_of_le (h6 (by simpa [tick] using h)).2.1 (by omega),(h6 (by simpa [tick] using h)).2.2.al cm⟩,fun h=>⟨(h8 (by simpa [tick] using h)).1,Nat.lt_of_lt_of_le (h8 (by simpa [tick] using h)).2.1 (by omega),(h8 (by simpa [tick] using h)).2.2.kp (Kp.alloc (L:=[]) cm) (by simp) (by simp)⟩,fun _=>⟨fK,(show n3<w3.heap.size by omega),aI (i:=0) cm qu rfl,aV cm qu 0⟩,fun h _=>(fun z=>by have:=(h8 (by simpa [tick] using h)).2.1;dsimp only at z;omega)⟩,fun h=>absurd (show b 10=true from(by simpa [tick] using h)) (by rw[b9];decide)⟩;simp only[b9,aA,pu,Nat.reduceAdd,Nat.reduceEqDiff,reduceIte] at bE;exact bE
 ·intro b g w hI bp aA cG rest iI cB
  obtain⟨cD,eY⟩:=hI;replace aA:b 10=false:=aA;have d0:=cG 0 rfl;have d1:=cG 1 rfl;have d2:=cG 2 rfl;have d3:=cG 3 rfl;have d4:=cG 4 rfl;have d5:=cG 5 rfl;have d6:=cG 6 rfl;have d7:=cG 7 rfl;have d8:=cG 8 rfl;have d9:=cG 9 rfl;obtain⟨kp,gi,eZ,eG,dw,mM,gZ,h6,h8,h9,aN⟩:=cD aA;clear cD eY;simp only[d0,d1,d2,d3,d4,d5,d6,d7,d8,d9,aA,pu,Nat.reduceAdd,Nat.reduceEqDiff,reduceIte];obtain⟨q1,q2,q3⟩:=h6 d6;obtain⟨q4,q5,q6⟩:=h8 d8;obtain⟨q7,q8,q9,q10⟩:=h9 d9;have Uq:=aN d8 d9;clear h6 h8 h9 aN;have UI:A<w.heap.size:=aq dw;have hAn:A<n1:=by omega
  refine F.op rfl rfl (by decide) (fun d K hK=>?_);go_simp;rw[setCell_at'];refine hK _ _ ⟨DX.set _ (b8 _ _ (by dsimp only;omega)) (fun e he=>?_),?_⟩
  ·have hm:=mem_listed he
   simp[go_sem,storedEv,eM,q9,q10] at hm;subst hm;exact .inl ⟨_,rfl,rfl,b8 _ _ (by dsimp only;omega),by simp only[fV,size_set];exact q8⟩
  clear hK K d;try walk_nrm
  generalize cm:World.setCell w _ _=w3;have Lg:=jA cm;have ks:=Kp.Jp cm;have bE:=cB g _ ⟨fun h=>by simp[tick] at h,fun _=>⟨kp.rD cm (.inr (.inr (by dsimp only;omega))),aS gi cm (by simp<;>omega),aS eZ cm (by simp<;>omega),aS eG cm (by simp<;>omega),aS dw cm (by simp<;>omega),aK mM cm,aK gZ cm,⟨q1,by omega,q3.st cm⟩,⟨q4,by omega,q6.kp ks (by simp) (by simp<;>omega)⟩,q7,by omega,dP q9 cm,Uq⟩⟩;simp only[d0,d1,d2,d3,d4,d5,d6,d7,d8,d9,aA,pu,Nat.reduceAdd,Nat.reduceEqDiff,reduceIte] at bE;exact bE
 intro b g w hI aB;obtain⟨cD,eY⟩:=hI;simp only[aB 0 (by decide),aB 1 (by decide),aB 2 (by decide),aB 3 (by decide),aB 4 (by decide),aB 5 (by decide),aB 6 (by decide),aB 7 (by decide),aB 8 (by decide),aB 9 (by decide),aB 10 (by decide),pu,Nat.reduceAdd,Nat.reduceEqDiff,reduceIte];obtain⟨VM,SH,SB,SV,u0,Qm,uC,⟨q1,q2,q3⟩,⟨q4,q5,q6⟩,q7,q8,q9,Uq⟩:=eY (aB 10 (by decide));clear cD eY aB kp gi eZ eG dw mM gZ;obtain⟨aX,T,bt⟩:=g;dsimp only at q1 q2 q3 q4 q5 q6 q7 q8 q9 Uq ⊢;have kp:Kp (bV en) w0 w [⟨A,1,none⟩,⟨A,2,none⟩]:=VM.old (by simp) (by simp);have kz:Kp [] w0 w [⟨A,2,none⟩]:=VM.old (by simp) (by simp);have gi:=SH;have eZ:=SB;have eG:=SV;have dw:=u0;have mM:=Qm;have gZ:=uC;have yc:=q9;have UI:A<n1:=by omega
 clear VM SH SB SV u0 Qm uC q9;refine F.cI ?_;refine F.ol rfl rfl rfl fun d K h=>?_;go_simp;refine h _ (fun e m=>?_) ?_;simp[go_sem, *] at m;subst m;exact ff (w:=w) (by assumption) (by first|assumption|(apply b8<;>dsimp only<;>omega));clear h K d;try walk_nrm
 iterate 2 (refine F.ak ?_;try walk_nrm)
 refine F.ol rfl rfl rfl fun d K h=>?_;go_simp;refine h _ (fun e m=>?_) ?_;simp[go_sem, *] at m;subst m;exact ff (w:=w) (by assumption) (by first|assumption|(apply b8<;>dsimp only<;>omega));clear h K d;try walk_nrm
 iterate 3 (refine F.ak ?_;try walk_nrm)
 refine F.op rfl rfl (by decide) (fun d K hK=>?_);go_simp;rw[setCell_at'];refine hK _ _ ⟨DX.set _ (by(first|assumption|(apply b8<;>dsimp only<;>omega))) (fun e he=>?_),?_⟩
 ·have hm:=mem_listed he
  simp[go_sem,storedEv,dh,eM,dm,fB,eB, *] at hm;subst hm;exact .inl ⟨_,rfl,rfl,by(first|assumption|(apply b8<;>dsimp only<;>omega)),by simp only[fV,size_set];first|omega|exact aq (by assumption)⟩
 clear hK K d;try walk_nrm
 generalize fD:World.setCell w _ _=w4;have Qu:=lW fD;replace gZ:=aK gZ fD;replace mM:=aK mM fD;replace gi:=aS gi fD (by simp<;>omega);replace eZ:=aS eZ fD (by simp<;>omega);replace yc:=aS yc fD (by simp<;>omega);replace dw:=aS dw fD (by simp<;>omega);replace eG:=dP eG fD;replace kp:=kp.rD fD (by first|(left;simp;done)|(right;left;simp;done)|(right;right;dsimp only;omega));refine F.re ?_;have ks:=Kp.Jp fD;have q3:=q3.st fD;have q6:=q6.kp ks (by simp) (by simp<;>omega);have hP:w4.heap.size≤w4.heap.size:=Nat.le_refl _;refine F.bh ?_;refine F.ol rfl rfl rfl fun d K h=>?_;go_simp;refine h _ (fun e m=>?_) ?_;simp[go_sem, *] at m;subst m;exact ff (w:=w4) (by assumption) (by first|assumption|(apply b8<;>dsimp only<;>omega));clear h K d;try walk_nrm
 iterate 2 (refine F.ak ?_;try walk_nrm)
 have he4:fU N w4 en es:=Kp.cy (kz.rD fD (.inr (.inl (by simp)))) he fun g hg=>⟨by simp,fun x hx=>by have:=Wo g hg;simp at hx;subst hx;dsimp only;omega⟩
 have hs4:w0.heap.size≤w4.heap.size:=kp.size;refine F.enter rfl rfl (by decide) (fun _=>run_call_body rfl func49 (by rfl) (by rfl)) (fun _=>events_call_body rfl func49 (by rfl) (by rfl) _) ?_;walk_nrm;refine(cj.NF (Ge N A at' (.func 50) #[] #[.pointer (some ⟨n1,0,none⟩),.pointer (some ⟨bt,0,none⟩),.pointer (some ⟨n2,0,none⟩)] en es w4 (by omega) lA NY he4 dw gZ o1 o1w (fun a wr h=>qj a wr (h.imp id fun h=>by omega))) q3) _ F _ _ (fun v w5 hp=>?_);obtain⟨⟨rfl,kq,p8,i,e0,epl,e1,e2,e3,e4⟩,RJ⟩:=hp;have nr:∀x,w0.heap.size≤x→x∉bV en:=fun x hx z=>by have:=Wo x z;omega
 have SU:A∉bV en:=fun z=>by have:=Wo A z;omega
 have gi:=kq.cellC _ _ (nr n1 (by omega)) (by simp<;>omega) gi;have eZ:=kq.cellC _ _ (nr n2 (by omega)) (by simp<;>omega) eZ;have yc:=kq.cellC _ _ (nr bt (by omega)) (by simp<;>omega) yc;have mM:=(kq.jq _ _ SU (by simp<;>omega) eG).trans mM;have eG:=kq.cellC _ _ SU (by simp<;>omega) eG;have q6:=q6.kp kq (nr T (by omega)) (by simp<;>omega);have kp:=kp.lG kq (fun x hx=>.inl hx) (fun x hx=>.inl (by simp at hx;simp[hx]));have n3:=Gr RJ q6.t0;have n4:=Gr RJ yc;rw[Frame.finish_at];try walk_nrm
 refine F.cI ?_;refine F.ol rfl rfl rfl fun d K h=>?_;go_simp;refine h _ (fun e m=>?_) ?_;simp[go_sem, *] at m;subst m;exact ff (w:=w5) (by assumption) (by first|assumption|(apply b8<;>dsimp only<;>omega));clear h K d;try walk_nrm
 refine F.ak ?_;try walk_nrm
 refine F.re ?_;refine F.ctl (fun _=>stepG_ret') ?_;refine F.aF rfl rfl func36 (resultsC_tmp (by rfl) _) ?_;have hk5:=kq.size;exact hc _ _ ⟨n1,n2,aX,T,bt,w4.heap.size,p8,i,rfl,kp,⟨by omega,by omega,by omega,by omega,by omega,by omega,by omega,by omega,hk5,fun z=>Uq z.symm,n3,n4⟩,gi,eZ,yc,q6,RJ,e1,e2,eG,mM,e0,epl,e3,e4⟩
end
end Go.Proofs.YtobagnjnbmgidaaGreatDoor
