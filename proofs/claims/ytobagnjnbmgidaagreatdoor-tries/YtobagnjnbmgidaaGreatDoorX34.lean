import Derived.Test.YtobagnjnbmgidaaGreatDoorX32
import Derived.ChangeSlices
set_option linter.all false
set_option maxHeartbeats 8000000
set_option maxRecDepth 100000
namespace Go.Proofs.YtobagnjnbmgidaaGreatDoor
open Tryz
section
open Go.Conc Go.RowKit
variable{main:Bool}{Ok:Addr→Bool→Prop}
structure Cl where
 st:Int
 ta:Option Addr
 nt:Nat
 tc:Nat
 T:Nat→Nat→Int
def Cl.tU(c:Cl):Bool:=gN c.st c.nt c.T
def gL(g:Nat→Cl):Nat→Nat→Nat
 |0,k=>k
 |m+1,k=>if(g k).tU=false then k else gL g m (k+1)
def jF(w:World)(sa:Option Addr)(m:Nat)(g:Nat→Cl):Prop:=
 ∀i,i<m→∃b o:Nat,sa=some ⟨b,o,none⟩∧w.cell? ⟨b,o+i*2,none⟩=some (.int .i64 (g i).st)∧w.cell? ⟨b,o+i*2+1,none⟩=some (.slice (g i).ta (g i).nt (g i).tc)∧lu w (g i).ta (g i).nt (g i).T
theorem jF.kp{w w':World}{sa:Option Addr}{m:Nat}{g:Nat→Cl}(h:jF w sa m g)(k:Kp [] w w'):jF w' sa m g:=fun i hi=>by
 obtain⟨b,o,e,h1,h2,h3⟩:=h i hi;exact⟨b,o,e,k.cell _ _ (by simp) h1,k.cell _ _ (by simp) h2,h3.kp k⟩
def Qi(Ok:Addr→Bool→Prop)(sa:Option Addr)(m:Nat)(g:Nat→Cl):Prop:=(∀p:Addr,sa=some p→∀a:Addr,a.block=p.block→Ok a false)∧∀i,i<m→0<(g i).nt→∀p:Addr,(g i).ta=some p→∀a:Addr,a.block=p.block→Ok a false
def iK(n:Nat)(L:Nat→Nat→Int)(m:Nat)(g:Nat→Cl):Int×Int:=
 if 6<n then(1,0) else if bO L n 0 0<n then(2,bO L n 0 0) else if 9<m then(3,0) else if gL g m 0<m then(4,gL g m 0) else(0,0)
theorem Tf(N m cap:Nat)(sa:Option Addr)(g:Nat→Cl)(w0:World)(hN:N≤w0.heap.size)(hm:m≤9)(hC:jF w0 sa m g)(nA:Qi Ok sa m g)(b8:∀a wr,N≤a.block→Ok a wr):
 cj prog main (DX Ok) 27 #[.slice sa m cap] w0 fun v w'=>v=.int .i64 (gL g m 0)∧Kp [] w0 w':=by
 intro Ψ F c cs hc;rw[enter_at _ func27 rfl];simp only[ntmps27,mV,Nat.reduceAdd,Nat.reduceSub];refine F.bh ?_;refine F.ak ?_;try walk_nrm
 refine F.es ?_;refine F.bh ?_;iterate 3 (refine F.ak ?_;try walk_nrm)
 refine F.re ?_;refine F.bl ?_;refine F.ctl (fun _=>stepG_loop) ?_;refine GC m (fun k a w=>∃(y:Int)(x3 x4 x8 x9 Fw Fv Fu Ft Fq Fo ML MK MJ:Value),a=⟨#[.slice sa m cap,undef,.int .i64 0,x3,x4,.slice sa m cap,.int .i64 m,.int .i64 y,x8,x9,Fw,Fv,Fu,Ft,Fq,Fo,ML,MK,MJ],[]⟩∧y=k∧Kp [] w0 w∧Hid (gL g m 0=gL g (m-k) k)) ?_ ?_ ⟨0,_,_,_,_,_,_,_,_,_,_,_,_,_,rfl,rfl,Kp.refl _,rfl⟩
 ·intro k a w hk hI vA
  obtain⟨y,x3,x4,x8,x9,Fw,Fv,Fu,Ft,Fq,Fo,ML,MK,MJ,rfl,rfl,kp,hb⟩:=hI;obtain⟨pb,po,rfl,l0,l1,hT⟩:=hC k hk;have jC:∀a:Addr,a.block=pb→Ok a false:=nA.1 _ rfl;have sv:=nA.2 k hk;clear nA hC;have gB:(k:Int)<(m:Int):=by omega
  have sB:(0:Int)≤(k:Int):=by omega
  have xY:IntKind.i64.wrap ((k:Int)+1)=(k:Int)+1:=wr (by omega) (by omega);have l0:=kp.cell _ _ (by simp) l0;have l1:=kp.cell _ _ (by simp) l1;have cU:=kp.size;refine F.bh ?_;refine F.ak ?_;try walk_nrm
  refine F.es ?_;refine F.ct rfl ?_;refine F.sk ?_;refine F.sq ?_;refine F.bl ?_;refine F.bh ?_;iterate 2 (refine F.oq rfl rfl rfl (fun _=>by first|(simp[go_sem];done)|simp[go_sem,Instr.makeInterface,Instr.makeFunc, *]) fun d K hK=>?_;go_simp;refine hK _ ?_;clear hK K d;try walk_nrm)
  refine F.ol rfl rfl rfl fun d K hK=>?_
  go_simp;refine hK _ (fun e hm=>?_) ?_
  ·simp[go_sem, *] at hm
   rcases hm with rfl|rfl<;>exact ff (w:=w) (by assumption) (by first|assumption|exact jC _ rfl|(apply b8<;>dsimp only<;>omega))
  clear hK K d;try walk_nrm
  clear l0 l1;refine F.op rfl rfl (by decide) (fun d K hK=>?_);go_simp;rw[alloc_at'];refine hK _ _ ⟨DX.alloc _ _ (fun e he=>?_),?_⟩
  ·have hm:=mem_listed he
   simp[go_sem] at hm
  clear hK K d;try walk_nrm
  generalize bJ:World.alloc w _=w1;generalize cP:(World.heap w).size=n1;have v8:=jV bJ cP;have jo:=aI (i:=0) bJ cP rfl;have oU:=aV bJ cP 0;have gX:=aI (i:=1) bJ cP rfl;have oT:=aV bJ cP 1;try simp only[List.getElem_toArray,List.getElem_cons_zero,List.getElem_cons_succ] at jo gX
  replace kp:=kp.uA bJ;refine F.ak ?_;try walk_nrm
  refine F.op rfl rfl (by decide) (fun d K hK=>?_);go_simp
  repeat rw[setCell_at']
  refine hK _ _ ⟨DX.Qz _ (by(first|assumption|exact jC _ rfl|(apply b8<;>dsimp only<;>omega))) (by(first|assumption|exact jC _ rfl|(apply b8<;>dsimp only<;>omega))) (fun e he=>?_),?_⟩
  ·have hm:=mem_listed he
   simp[go_sem,storedEv,dh,eM,dm,fB,eB, *] at hm;rcases hm with rfl|rfl<;>exact .inl ⟨_,rfl,rfl,by(first|assumption|exact jC _ rfl|(apply b8<;>dsimp only<;>omega)),by simp only[fV,size_set];first|omega|exact aq (by assumption)⟩
  clear hK K d;try walk_nrm
  generalize c7:World.setCell w1 _ _=w2;have Io:=jA c7;replace oU:=aK oU c7;replace oT:=aK oT c7;replace jo:=dP jo c7;replace gX:=aS gX c7 (by simp<;>omega);replace kp:=kp.rD c7 (by first|(left;simp;done)|(right;left;simp;done)|(right;right;dsimp only;omega));generalize cm:World.setCell w2 _ _=w3;have Lg:=jA cm;replace oU:=aK oU cm;replace oT:=aK oT cm;replace jo:=aS jo cm (by simp<;>omega);replace gX:=dP gX cm;replace kp:=kp.rD cm (by first|(left;simp;done)|(right;left;simp;done)|(right;right;dsimp only;omega));refine F.cI ?_;refine F.ol rfl rfl rfl fun d K hK=>?_
  go_simp;refine hK _ (fun e hm=>?_) ?_
  ·simp[go_sem, *] at hm
   rcases hm with rfl|rfl<;>exact ff (w:=w3) (by assumption) (by first|assumption|exact jC _ rfl|(apply b8<;>dsimp only<;>omega))
  clear hK K d;try walk_nrm
  refine F.enter rfl rfl (by decide) (fun _=>run_call_body rfl func41 (by rfl) (by rfl)) (fun _=>events_call_body rfl func41 (by rfl) (by rfl) _) ?_;walk_nrm;refine xx N (g k).nt (g k).tc (g k).st (g k).ta (g k).T w3 (by omega) (hT.kp kp) sv b8 _ F _ _ (fun v wc hp=>?_);obtain⟨rfl,kq⟩:=hp;replace kp:=kp.lG kq (by simp) (by simp);rw[Frame.finish_at];cases hg:gN (g k).st (g k).nt (g k).T with
  |false=>
   try walk_nrm
   refine F.ak ?_;try walk_nrm
   refine F.re ?_;refine F.ct rfl ?_;refine F.bh ?_;iterate 2 (refine F.ak ?_;try walk_nrm)
   refine F.re ?_;refine F.ctl (fun _=>stepG_ret') ?_;refine F.aF rfl rfl func27 (resultsC_tmp (by rfl) _) ?_;refine hc _ _ ⟨?_,kp⟩;have uQ:m-k=(m-(k+1))+1:=by omega
   have fK:gL g m 0=gL g (m-k) k:=hb;rw[fK,uQ];simp[gL,Cl.tU,hg]
  |true=>
   try walk_nrm
   refine F.ak ?_;try walk_nrm
   refine F.re ?_;refine F.cf rfl ?_;refine F.sk ?_;refine F.ib ?_;refine F.nJ ?_;iterate 2 (refine F.ak ?_;try walk_nrm)
   refine F.re ?_;refine F.ctl (fun _=>stepG_inLoop) ?_;refine vA _ _ ⟨_,_,_,_,_,_,_,_,_,_,_,_,_,_,rfl,by omega,kp,?_⟩
   show gL g m 0=_
   have uQ:m-k=(m-(k+1))+1:=by omega
   have fK:gL g m 0=gL g (m-k) k:=hb;rw[fK,uQ];simp[gL,Cl.tU,hg]
 ·intro a w hI
  obtain⟨y,x3,x4,x8,x9,Fw,Fv,Fu,Ft,Fq,Fo,ML,MK,MJ,rfl,rfl,kp,hb⟩:=hI;refine F.bh ?_;refine F.ak ?_;try walk_nrm
  refine F.es ?_;refine F.cf rfl ?_;refine F.ctl (fun _=>stepG_exit rfl) ?_;refine F.bh ?_;iterate 3 (refine F.ak ?_;try walk_nrm)
  refine F.re ?_;refine F.ctl (fun _=>stepG_ret') ?_;refine F.aF rfl rfl func27 (resultsC_tmp (by rfl) _) ?_;have fK:gL g m 0=gL g (m-m) m:=hb;rw[Nat.sub_self] at fK;exact hc _ _ ⟨by rw[fK];rfl,kp⟩
theorem uh(L:Nat→Nat→Int):∀(m k:Nat)(r:Int),bO L m k r≤k+m
 |0,k,r=>by simp[bO]
 |m+1,k,r=>by
  rw[bO];have:=uh L m (k+1) (if L k 0=1 then r+1 else r)
  by_cases h:(2<(if L k 0=1 then r+1 else r)∨bu (L k 0) (L k 1) (L k 2) (L k 3) (L k 4) (L k 5)=false)
  ·rw[if_pos h];omega
  ·rw[if_neg h];omega
theorem xJ(g:Nat→Cl):∀(m k:Nat),gL g m k≤k+m
 |0,k=>by simp[gL]
 |m+1,k=>by
  rw[gL];split
  ·omega
  ·have:=xJ g m (k+1);omega
theorem sF(N n cg m cap:Nat)(sL sa:Option Addr)(L:Nat→Nat→Int)(g:Nat→Cl)(w0:World)(hN:N≤w0.heap.size)(hL:jR w0 sL n L)(hC:jF w0 sa m g)(hrL:∀p:Addr,sL=some p→∀a:Addr,a.block=p.block→Ok a false)(nA:Qi Ok sa m g)(b8:∀a wr,N≤a.block→Ok a wr):
 cj prog main (DX Ok) 16 #[.slice sL n cg,.slice sa m cap] w0 fun v w'=>v=.tuple #[.int .i64 (iK n L m g).1,.int .i64 (iK n L m g).2]∧Kp [] w0 w':=by
 intro Ψ F c cs hc;rw[enter_at _ func16 rfl];simp only[ntmps16,mV,Nat.reduceAdd,Nat.reduceSub]
 by_cases h6:(6:Int)<(n:Int)
 ·refine F.ctl (fun _=>stepG_seq) ?_
  refine F.nJ ?_;iterate 2 (refine F.ak ?_;try walk_nrm)
  refine F.es ?_;refine F.bh ?_;iterate 3 (refine F.ak ?_;try walk_nrm)
  refine F.re ?_;refine F.ct rfl ?_;refine F.bh ?_;iterate 2 (refine F.ak ?_;try walk_nrm)
  refine F.re ?_;refine F.ctl (fun _=>stepG_ret') ?_;refine F.aF rfl rfl func16 (resultsC_tmp2 (by rfl) _) ?_;exact hc _ _ ⟨by simp[iK,show 6<n by omega],Kp.refl _⟩
 refine F.bh ?_;iterate 2 (refine F.ak ?_;try walk_nrm)
 refine F.es ?_;refine F.bh ?_;iterate 3 (refine F.ak ?_;try walk_nrm)
 refine F.re ?_;refine F.cf rfl ?_;refine F.sk ?_;refine F.sq ?_;refine F.bh ?_;refine F.ak ?_;try walk_nrm
 refine F.enter rfl rfl (by decide) (fun _=>run_call_body rfl func26 (by rfl) (by rfl)) (fun _=>events_call_body rfl func26 (by rfl) (by rfl) _) ?_;walk_nrm;refine Te N n cg sL L w0 hN (by omega) hL hrL b8 _ F _ _ (fun v w1 hp=>?_);obtain⟨rfl,k1⟩:=hp;rw[Frame.finish_at];have hle:=uh L n 0 0;generalize gi:bO L n 0 0=ba at hle ⊢;try walk_nrm
 by_cases hl:(ba:Int)<(n:Int)
 ·refine F.xT rfl rfl (by decide) (fun _=>(by first|(simp[go_sem];done)|(simp[go_sem,Instr.makeInterface,Instr.makeFunc];done)|(simp[go_sem, *];done))) (fun d K hK=>?_)
  go_simp;refine hK _ ?_;clear hK K d;try walk_nrm
  refine F.cI ?_;iterate 4 (refine F.ak ?_;try walk_nrm)
  refine F.re ?_;refine F.ct rfl ?_;refine F.bh ?_;iterate 3 (refine F.ak ?_;try walk_nrm)
  refine F.re ?_;refine F.ctl (fun _=>stepG_ret') ?_;refine F.aF rfl rfl func16 (resultsC_tmp2 (by rfl) _) ?_;exact hc _ _ ⟨by simp[iK,gi,show¬6<n by omega,show ba<n by omega],k1⟩
 refine F.ak ?_;try walk_nrm
 refine F.cI ?_;iterate 4 (refine F.ak ?_;try walk_nrm)
 refine F.re ?_;refine F.cf rfl ?_;refine F.sk ?_
 by_cases h9:(9:Int)<(m:Int)
 ·refine F.ctl (fun _=>stepG_seq) ?_
  refine F.bh ?_;iterate 3 (refine F.ak ?_;try walk_nrm)
  refine F.re ?_;refine F.ct rfl ?_;refine F.bh ?_;iterate 2 (refine F.ak ?_;try walk_nrm)
  refine F.re ?_;refine F.ctl (fun _=>stepG_ret') ?_;refine F.aF rfl rfl func16 (resultsC_tmp2 (by rfl) _) ?_;exact hc _ _ ⟨by simp[iK,gi,show¬6<n by omega,show¬ba<n by omega,show 9<m by omega],k1⟩
 refine F.sq ?_;refine F.bh ?_;iterate 3 (refine F.ak ?_;try walk_nrm)
 refine F.re ?_;refine F.cf rfl ?_;refine F.sk ?_;refine F.sq ?_;refine F.bh ?_;refine F.ak ?_;try walk_nrm
 have GX:=k1.size;refine F.enter rfl rfl (by decide) (fun _=>run_call_body rfl func27 (by rfl) (by rfl)) (fun _=>events_call_body rfl func27 (by rfl) (by rfl) _) ?_;walk_nrm;refine Tf N m cap sa g w1 (by omega) (by omega) (hC.kp k1) nA b8 _ F _ _ (fun v w2 hp=>?_);obtain⟨rfl,k2⟩:=hp;rw[Frame.finish_at];have Oa:=xJ g m 0;generalize E6:gL g m 0=bc at Oa ⊢;try walk_nrm
 have Zs:Kp [] w0 w2:=k1.lG k2 (by simp) (by simp)
 by_cases EZ:(bc:Int)<(m:Int)
 ·refine F.xT rfl rfl (by decide) (fun _=>(by first|(simp[go_sem];done)|(simp[go_sem,Instr.makeInterface,Instr.makeFunc];done)|(simp[go_sem, *];done))) (fun d K hK=>?_)
  go_simp;refine hK _ ?_;clear hK K d;try walk_nrm
  refine F.cI ?_;iterate 4 (refine F.ak ?_;try walk_nrm)
  refine F.re ?_;refine F.ct rfl ?_;refine F.bh ?_;iterate 3 (refine F.ak ?_;try walk_nrm)
  refine F.re ?_;refine F.ctl (fun _=>stepG_ret') ?_;refine F.aF rfl rfl func16 (resultsC_tmp2 (by rfl) _) ?_;exact hc _ _ ⟨by simp[iK,gi,E6,show¬6<n by omega,show¬ba<n by omega,show¬9<m by omega,show bc<m by omega],Zs⟩
 refine F.ak ?_;try walk_nrm
 refine F.cI ?_;iterate 4 (refine F.ak ?_;try walk_nrm)
 refine F.re ?_;refine F.cf rfl ?_;refine F.sk ?_;refine F.bh ?_;iterate 2 (refine F.ak ?_;try walk_nrm)
 refine F.re ?_;refine F.ctl (fun _=>stepG_ret') ?_;refine F.aF rfl rfl func16 (resultsC_tmp2 (by rfl) _) ?_;exact hc _ _ ⟨by simp[iK,gi,E6,show¬6<n by omega,show¬ba<n by omega,show¬9<m by omega,show¬bc<m by omega],Zs⟩
end
section
open Go.Conc Go.RowKit Go.ChangeShapes
def kI(p:Program)(t:TypeId):List (TypeId×Nat):=match p.underlying t with|some (.struct fs)=>fs.toList.map fun f=>(f.type,f.offset)|_=>[]
theorem u3:prog.underlying 3=some (.int .i64):=by kernel_rfl
theorem Zd:prog.underlying 23=some (.slice 43):=by kernel_rfl
theorem u41:prog.underlying 41=some (.slice 39):=by kernel_rfl
theorem f39:kI prog 39=[(3,0),(3,1),(3,2)]:=by kernel_rfl
theorem f43:kI prog 43=[(3,0),(41,1)]:=by kernel_rfl
theorem c39:prog.cellsOf 39=3:=by kernel_rfl
theorem X6:prog.cellsOf 43=2:=by kernel_rfl
theorem c41:prog.cellsOf 41=1:=by kernel_rfl
theorem c3:prog.cellsOf 3=1:=by kernel_rfl
section
variable{H:Type}{enc:TypeId×Value→H}{W:World}{sp:Nat→Bool}{hd:Bool}
theorem oE{t u:TypeId}{j o fuel:Nat}{cs:List Value}{x:DataW H×List MemPlace}(hf:(kI prog t)[j]? =some (u,o))(hc:prog.cellsOf u=1)(ho:o<prog.cellsOf t)(h:DataW.trod enc prog W 0 sp hd fuel t cs=some x):
 ∃v n y,cs[o]? =some v∧DataW.trod enc prog W 0 sp hd n u [v]=some y:=by
 unfold kI at hf
 split at hf
 ·rename_i fs hu
  obtain⟨xs,n,rfl,_,hlen,hxl,aB⟩:=DataW.trod_struct hu h;simp only[List.getElem?_map,Option.map_eq_some_iff] at hf;obtain⟨f,hf,e⟩:=hf;have nP:fs[j]? =some f:=by simpa using hf
  have hj:j<xs.length:=by rw[hxl];exact(Array.getElem?_eq_some_iff.1 nP).1
  have:=aB j f nP;simp only[Prod.mk.injEq] at e;obtain⟨rfl,rfl⟩:=e;rw[hc,List.getElem?_eq_getElem hj] at this;cases aP:cs.drop f.offset with
  |nil=>
   have:=congrArg List.length aP
   simp at this
   omega
  |cons v r=>
   rw[aP] at this;refine⟨v,n,_,?_,by simpa using this⟩;have h0:(cs.drop f.offset)[0]? =some v:=by rw[aP];rfl
   simpa using h0
 ·simp at hf
theorem qI{a:Addr}{k:Nat}{cs:List Value}(h:W.cells? 0 a k=some cs)(j:Nat)(hj:j<k):W.cell? (a.add j)=cs[j]? :=by
 unfold World.cells? at h;rw[if_pos (Nat.zero_le _)] at h;exact mapM_some_get h j j (by simp[hj])
theorem vo{t e:TypeId}{k fuel:Nat}{cs:List Value}{x:DataW H×List MemPlace}(ht:prog.underlying t=some (.slice e))(hc:prog.cellsOf e=k)(hk:0<k)(hf:∀j,j<k→(kI prog e)[j]? =some (3,j))(h:DataW.trod enc prog W 0 sp hd fuel t cs=some x):
 ∃sa n cap,∃T:Nat→Nat→Int,cs=[.slice sa n cap]∧∀i,i<n→∃b o:Nat,sa=some ⟨b,o,none⟩∧∀j,j<k→W.cell? ⟨b,o+i*k+j,none⟩=some (.int .i64 (T i j)):=by
 rcases DataW.trod_slice ht h with ⟨rfl,_⟩|⟨a,len,cap,elems,rest,n,_,rfl,_,_,_,_,hlen,kO,_,_⟩
 ·exact⟨none,0,0,fun _ _=>0,rfl,fun i hi=>absurd hi (by omega)⟩
 have each:∀i,i<len→∀j,j<k→∃m,W.cell? ((a.add (i*k)).add j)=some (.int .i64 m):=fun i hi j hj=>by
  have h1:=kO i hi;rw[hc,List.getElem?_eq_getElem (by omega),Option.bind_eq_some_iff] at h1;obtain⟨dY,h2,h3⟩:=h1;obtain⟨v,n',y,h4,h5⟩:=oE (hf j hj) c3 (by rw[hc];exact hj) h3;obtain⟨m,e1,_,_⟩:=DataW.trod_int u3 h5;rw[qI h2 j hj,h4];exact⟨m,by simpa using e1⟩
 refine⟨some a,len,cap,fun i j=>if hi:i<len then(if hj:j<k then(each i hi j hj).choose else 0) else 0,rfl,fun i hi=>?_⟩
 have hs:a.spot=none:=by
  obtain⟨m,h1⟩:=each 0 (by omega) 0 hk
  simpa [Addr.add] using World.cell?_spot h1
 obtain⟨b,o,s⟩:=a;cases hs;refine⟨b,o,rfl,fun j hj=>?_⟩;have eE:=(each i hi j hj).choose_spec;simp only[dif_pos hi,dif_pos hj];generalize (each i hi j hj).choose=m at eE ⊢;rw[EO,EO] at eE;exact eE
theorem Al{fuel:Nat}{cs:List Value}{x:DataW H×List MemPlace}(h:DataW.trod enc prog W 0 sp hd fuel 41 cs=some x):∃sa n cap T,cs=[.slice sa n cap]∧lu W sa n T:=
 vo u41 c39 (by decide) (fun j hj=>by rw[f39];match j,hj with|0,_=>rfl|1,_=>rfl|2,_=>rfl) h
theorem wE{fuel:Nat}{cs:List Value}{x:DataW H×List MemPlace}(h:DataW.trod enc prog W 0 sp hd fuel 23 cs=some x):∃sa m cap g,cs=[.slice sa m cap]∧jF W sa m g:=by
 rcases DataW.trod_slice Zd h with ⟨rfl,_⟩|⟨a,len,cap,elems,rest,n,_,rfl,_,_,_,_,hlen,kO,_,_⟩
 ·exact⟨none,0,0,fun _=>⟨0,none,0,0,fun _ _=>0⟩,rfl,fun i hi=>absurd hi (by omega)⟩
 have each:∀i,i<len→∃c:Cl,W.cell? ((a.add (i*2)).add 0)=some (.int .i64 c.st)∧W.cell? ((a.add (i*2)).add 1)=some (.slice c.ta c.nt c.tc)∧lu W c.ta c.nt c.T:=fun i hi=>by
  have h1:=kO i hi;rw[X6,List.getElem?_eq_getElem (by omega),Option.bind_eq_some_iff] at h1;obtain⟨dY,h2,h3⟩:=h1;obtain⟨v,n1,y,h4,h5⟩:=oE (j:=0) (o:=0) (by rw[f43];rfl) c3 (by rw[X6];decide) h3;obtain⟨v',n2,y',h6,h7⟩:=oE (j:=1) (o:=1) (by rw[f43];rfl) c41 (by rw[X6];decide) h3;obtain⟨m,e1,_,_⟩:=DataW.trod_int u3 h5;obtain⟨sa,q,aj,T,e2,hT⟩:=Al h7;simp only[List.cons.injEq,and_true] at e1 e2;subst e1;subst e2;exact⟨⟨m,sa,q,aj,T⟩,by rw[qI h2 0 (by decide),h4],by rw[qI h2 1 (by decide),h6],hT⟩
 refine⟨some a,len,cap,fun i=>if hi:i<len then(each i hi).choose else⟨0,none,0,0,fun _ _=>0⟩,rfl,fun i hi=>?_⟩
 have hs:a.spot=none:=by
  obtain⟨c,h1,_⟩:=each 0 (by omega)
  simpa [Addr.add] using World.cell?_spot h1
 obtain⟨b,o,s⟩:=a;cases hs;have eE:=(each i hi).choose_spec;simp only[dif_pos hi];generalize (each i hi).choose=c at eE ⊢;rw[EO,EO,EO] at eE;exact⟨b,o,rfl,eE.1,eE.2.1,eE.2.2⟩
end
end
section
open Go.Conc Go.RowKit
variable{main:Bool}{Ok:Addr→Bool→Prop}
theorem JM(w:World):(Instr.makeChan 99 (.int .i64 0)).run prog w=.ok (.chan (some w.heap.size)) (w.alloc (.chan 0 #[] false 0 0 false)):=by kernel_rfl
theorem LB(w:World)(es:Array Event):(Instr.makeChan 99 (.int .i64 0)).events prog w es=es:=by kernel_rfl
theorem BS(w:World):(Instr.makeChan 113 (.int .i64 0)).run prog w=.ok (.chan (some w.heap.size)) (w.alloc (.chan 0 #[] false 0 0 false)):=by kernel_rfl
theorem Ar(w:World)(es:Array Event):(Instr.makeChan 113 (.int .i64 0)).events prog w es=es:=by kernel_rfl
end
section
open Go.Conc Go.RowKit
variable{main:Bool}{Ok:Addr→Bool→Prop}
def K5:Nat→List Value
 |0=>[]
 |n+1=>.int .i64 0::.int .i64 0::.int .i64 0::.slice none 0 0::K5 n
theorem Fh:∀(n j:Nat),j<n→(K5 n)[j*4]? =some (.int .i64 0)∧(K5 n)[j*4+1]? =some (.int .i64 0)∧(K5 n)[j*4+2]? =some (.int .i64 0)∧(K5 n)[j*4+3]? =some (.slice none 0 0)
 |n+1,0,_=>⟨rfl,rfl,rfl,rfl⟩
 |n+1,j+1,h=>by
  have:=Fh n j (by omega);rw[show(j+1)*4=j*4+1+1+1+1 by omega]
  simpa [K5] using this
def Vf:Nat→List Value
 |0=>[]
 |n+1=>.int .i64 0::Vf n
theorem zQ:∀(n j:Nat),j<n→(Vf n)[j]? =some (.int .i64 0)
 |n+1,0,_=>rfl
 |n+1,j+1,h=>zQ n j (by omega)
theorem VJ(n:Nat)(h:n≤9)(w:World):(Instr.makeSlice 58 (.int .i64 (n:Int)) (.int .i64 (n:Int))).run prog w=.ok (.slice (some ⟨w.heap.size,0,none⟩) n n) (w.alloc (.cells (Vf n).toArray 3)):=by
 obtain rfl|rfl|rfl|rfl|rfl|rfl|rfl|rfl|rfl|rfl:n=0∨n=1∨n=2∨n=3∨n=4∨n=5∨n=6∨n=7∨n=8∨n=9:=by omega
 all_goals kernel_rfl
theorem Q5(n:Nat)(h:n≤9)(w:World)(es:Array Event):(Instr.makeSlice 58 (.int .i64 (n:Int)) (.int .i64 (n:Int))).events prog w es=es:=by
 obtain rfl|rfl|rfl|rfl|rfl|rfl|rfl|rfl|rfl|rfl:n=0∨n=1∨n=2∨n=3∨n=4∨n=5∨n=6∨n=7∨n=8∨n=9:=by omega
 all_goals kernel_rfl
theorem Zr(n:Nat)(h:n≤9)(w:World):(Instr.makeSlice 32 (.int .i64 (n:Int)) (.int .i64 (n:Int))).run prog w=.ok (.slice (some ⟨w.heap.size,0,none⟩) n n) (w.alloc (.cells (K5 n).toArray 46)):=by
 obtain rfl|rfl|rfl|rfl|rfl|rfl|rfl|rfl|rfl|rfl:n=0∨n=1∨n=2∨n=3∨n=4∨n=5∨n=6∨n=7∨n=8∨n=9:=by omega
 all_goals kernel_rfl
theorem VI(n:Nat)(h:n≤9)(w:World)(es:Array Event):(Instr.makeSlice 32 (.int .i64 (n:Int)) (.int .i64 (n:Int))).events prog w es=es:=by
 obtain rfl|rfl|rfl|rfl|rfl|rfl|rfl|rfl|rfl|rfl:n=0∨n=1∨n=2∨n=3∨n=4∨n=5∨n=6∨n=7∨n=8∨n=9:=by omega
 all_goals kernel_rfl
structure Uc(w:World)(B HD J:Nat)(sa:Option Addr)(n cap:Nat):Prop where
 b1:w.cell? ⟨B,1,none⟩=some (.int .i64 (-1))
 b2:w.cell? ⟨B,2,none⟩=some (.pointer (some ⟨J,0,none⟩))
 b3:w.cell? ⟨B,3,none⟩=some (.slice sa n cap)
 b4:w.cell? ⟨B,4,none⟩=some (.slice (some ⟨HD,0,none⟩) n n)
 h:∀j,j<n→w.cell? ⟨HD,j,none⟩=some (.int .i64 0)∧w.frozen? ⟨HD,j,none⟩=false
end
end Go.Proofs.YtobagnjnbmgidaaGreatDoor
