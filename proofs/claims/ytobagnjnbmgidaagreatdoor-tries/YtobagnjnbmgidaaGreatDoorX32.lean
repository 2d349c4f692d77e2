import Derived.Test.YtobagnjnbmgidaaGreatDoorX30
set_option linter.all false
set_option maxHeartbeats 8000000
set_option maxRecDepth 100000
namespace Go.Proofs.YtobagnjnbmgidaaGreatDoor
open Go.Conc Go.RowKit Tryz
section
variable{main:Bool}{Ok:Addr→Bool→Prop}
def Yn(p:Prop):Prop:=p
def fA(T:Nat→Nat→Int):Nat→Nat→Bool
 |0,_=>true
 |m+1,k=>gF 1 (T k 0) 4&&gF 0 (T k 2) 1000&&fA T m (k+1)
def gN(st:Int)(nt:Nat)(T:Nat→Nat→Int):Bool:=gF 0 st 1000&&!decide (12<nt)&&fA T nt 0
def lu(w:World)(sa:Option Addr)(n:Nat)(T:Nat→Nat→Int):Prop:=∀i,i<n→∃b o:Nat,sa=some ⟨b,o,none⟩∧∀j,j<3→w.cell? ⟨b,o+i*3+j,none⟩=some (.int .i64 (T i j))
theorem lu.kp{w w':World}{sa:Option Addr}{n:Nat}{T:Nat→Nat→Int}(h:lu w sa n T)(k:Kp [] w w'):lu w' sa n T:=fun i hi=>by
 obtain⟨b,o,e,hj⟩:=h i hi;exact⟨b,o,e,fun j bP=>k.cell _ _ (by simp) (hj j bP)⟩
theorem xx(N n cap:Nat)(st:Int)(sa:Option Addr)(T:Nat→Nat→Int)(w0:World)(hN:N≤w0.heap.size)(hT:lu w0 sa n T)(nA:0<n→∀p:Addr,sa=some p→∀a:Addr,a.block=p.block→Ok a false)(b8:∀a wr,N≤a.block→Ok a wr):
 cj prog main (DX Ok) 41 #[.agg #[.int .i64 st,.slice sa n cap]] w0 fun v w'=>v=.bool (gN st n T)∧Kp [] w0 w':=by
 intro Ψ F c cs hc;rw[enter_at _ func41 rfl];simp only[ntmps41,mV,Nat.reduceAdd,Nat.reduceSub];refine F.bh ?_;refine F.op rfl rfl (by decide) (fun d K hK=>?_);go_simp;rw[alloc_at'];refine hK _ _ ⟨DX.alloc _ _ (fun e he=>?_),?_⟩
 ·have hm:=mem_listed he
  simp[go_sem] at hm
 clear hK K d;try walk_nrm
 generalize bJ:World.alloc w0 _=w1;generalize cP:(World.heap w0).size=n1;have v8:=jV bJ cP;have jo:=aI (i:=0) bJ cP rfl;have oU:=aV bJ cP 0;have gX:=aI (i:=1) bJ cP rfl;have oT:=aV bJ cP 1;try simp only[List.getElem_toArray,List.getElem_cons_zero,List.getElem_cons_succ] at jo gX
 have kp:Kp [] w0 w0 []:=Kp.refl _;replace kp:=kp.uA bJ;refine F.ak ?_;try walk_nrm
 refine F.es ?_;refine F.bh ?_;refine F.ak ?_;try walk_nrm
 refine F.ol rfl rfl rfl fun d K h=>?_;go_simp;refine h _ (fun e m=>?_) ?_;simp[go_sem, *] at m;subst m;exact ff (w:=w1) (by assumption) (by first|assumption|exact jC _ rfl|(apply b8<;>dsimp only<;>omega));clear h K d;try walk_nrm
 have WL:w0.heap.size≤n1∧n1<w1.heap.size:=⟨Nat.le_of_eq cP,by omega⟩;clear cP v8 bJ;refine F.enter rfl rfl (by decide) (fun _=>run_call_body rfl func57 (by rfl) (by rfl)) (fun _=>events_call_body rfl func57 (by rfl) (by rfl) _) ?_;walk_nrm;refine b7 0 st 1000 _ _ F _ _ (fun v wq hp=>?_);obtain⟨rfl,hq⟩:=hp;have hq:=hq.symm;subst hq;rw[Frame.finish_at];try walk_nrm
 cases pJ:gF 0 st 1000 with
 |false=>
  iterate 2 (refine F.ak ?_;try walk_nrm)
  refine F.bq ?_;try walk_nrm
  refine F.bq ?_;try walk_nrm
  refine F.bq ?_;try walk_nrm
  refine F.bq ?_;try walk_nrm
  refine F.ak ?_;try walk_nrm
  refine F.re ?_;refine F.ct rfl ?_;refine F.bh ?_;refine F.ak ?_;try walk_nrm
  refine F.re ?_;refine F.ctl (fun _=>stepG_ret') ?_;refine F.aF rfl rfl func41 (resultsC_tmp (by rfl) _) ?_;exact hc _ _ ⟨by simp[gN,pJ],kp⟩
 |true=>
 by_cases sD:(12:Int)<(n:Int)
 ·refine F.xT rfl rfl (by decide) (fun _=>(by first|(simp[go_sem];done)|(simp[go_sem,Instr.makeInterface,Instr.makeFunc];done)|(simp[go_sem, *];done))) (fun d K hK=>?_)
  go_simp;refine hK _ ?_;clear hK K d;try walk_nrm
  iterate 2 (refine F.ak ?_;try walk_nrm)
  refine F.ol rfl rfl rfl fun d K h=>?_;go_simp;refine h _ (fun e m=>?_) ?_;simp[go_sem, *] at m;subst m;exact ff (w:=w1) (by assumption) (by first|assumption|exact jC _ rfl|(apply b8<;>dsimp only<;>omega));clear h K d;try walk_nrm
  iterate 3 (refine F.ak ?_;try walk_nrm)
  refine F.re ?_;refine F.ct rfl ?_;refine F.bh ?_;refine F.ak ?_;try walk_nrm
  refine F.re ?_;refine F.ctl (fun _=>stepG_ret') ?_;refine F.aF rfl rfl func41 (resultsC_tmp (by rfl) _) ?_;exact hc _ _ ⟨by simp[gN,show 12<n by omega],kp⟩
 iterate 3 (refine F.ak ?_;try walk_nrm)
 refine F.ol rfl rfl rfl fun d K h=>?_;go_simp;refine h _ (fun e m=>?_) ?_;simp[go_sem, *] at m;subst m;exact ff (w:=w1) (by assumption) (by first|assumption|exact jC _ rfl|(apply b8<;>dsimp only<;>omega));clear h K d;try walk_nrm
 iterate 3 (refine F.ak ?_;try walk_nrm)
 refine F.re ?_;refine F.cf rfl ?_;refine F.sk ?_;refine F.sq ?_;refine F.bh ?_;refine F.ak ?_;try walk_nrm
 refine F.ol rfl rfl rfl fun d K h=>?_;go_simp;refine h _ (fun e m=>?_) ?_;simp[go_sem, *] at m;subst m;exact ff (w:=w1) (by assumption) (by first|assumption|exact jC _ rfl|(apply b8<;>dsimp only<;>omega));clear h K d;try walk_nrm
 iterate 2 (refine F.ak ?_;try walk_nrm)
 refine F.re ?_;refine F.bl ?_;refine F.ctl (fun _=>stepG_loop) ?_;refine GC n (fun k a w=>∃(y:Int)(x3 x4 x5 x6 x7 x8 x9 Fw Fv Fu Ft Fq Fo MI MH MG MF ME MD MC MB MA Mz Vm Vl Vk Vj:Value),a=⟨#[.agg #[.int .i64 st,.slice sa n cap],.pointer (some ⟨n1,0,none⟩),.bool false,x3,x4,x5,x6,x7,x8,x9,Fw,Fv,Fu,Ft,Fq,Fo,.slice sa n cap,.int .i64 n,.int .i64 y,MI,MH,MG,MF,ME,MD,MC,MB,MA,Mz,Vm,Vl,Vk,Vj],[]⟩∧y=k∧Kp [] w0 w∧Yn (fA T n 0=fA T (n-k) k)) ?_ ?_ ⟨0,_,_,_,_,_,_,_,_,_,_,_,_,_,_,_,_,_,_,_,_,_,_,_,_,_,_,_,rfl,rfl,kp,rfl⟩
 ·clear kp jo gX oU oT
  intro k a w hk hI vA;obtain⟨y,x3,x4,x5,x6,x7,x8,x9,Fw,Fv,Fu,Ft,Fq,Fo,MI,MH,MG,MF,ME,MD,MC,MB,MA,Mz,Vm,Vl,Vk,Vj,rfl,rfl,kp,hg⟩:=hI;obtain⟨pb,po,rfl,hj⟩:=hT k hk;have jC:∀a:Addr,a.block=pb→Ok a false:=nA (by omega) _ rfl;clear nA hT;have gB:(k:Int)<(n:Int):=by omega
  have sB:(0:Int)≤(k:Int):=by omega
  have xY:IntKind.i64.wrap ((k:Int)+1)=(k:Int)+1:=wr (by omega) (by omega);have l0:=kp.cell _ _ (by simp) (hj 0 (by omega));have l1:=kp.cell _ _ (by simp) (hj 1 (by omega));have l2:=kp.cell _ _ (by simp) (hj 2 (by omega));simp only[Nat.add_zero] at l0 l1 l2;have cU:=kp.size;clear hj;refine F.bh ?_;refine F.ak ?_;try walk_nrm
  refine F.es ?_;refine F.ct rfl ?_;refine F.sk ?_;refine F.sq ?_;refine F.bl ?_;refine F.bh ?_;refine F.oq rfl rfl rfl (fun _=>by first|(simp[go_sem];done)|simp[go_sem,Instr.makeInterface,Instr.makeFunc, *]) fun d K hK=>?_;go_simp;refine hK _ ?_;clear hK K d;try walk_nrm
  refine F.ol rfl rfl rfl fun d K hK=>?_
  go_simp;refine hK _ (fun e hm=>?_) ?_
  ·simp[go_sem, *] at hm
   rcases hm with rfl|rfl|rfl<;>exact ff (w:=w) (by assumption) (by first|assumption|exact jC _ rfl|(apply b8<;>dsimp only<;>omega))
  clear hK K d;try walk_nrm
  clear l0 l1 l2;refine F.op rfl rfl (by decide) (fun d K hK=>?_);go_simp;rw[alloc_at'];refine hK _ _ ⟨DX.alloc _ _ (fun e he=>?_),?_⟩
  ·have hm:=mem_listed he
   simp[go_sem] at hm
  clear hK K d;try walk_nrm
  generalize c7:World.alloc w _=w2;generalize mq:(World.heap w).size=n2;have Io:=jV c7 mq;have LH:=aI (i:=0) c7 mq rfl;have Po:=aV c7 mq 0;have wQ:=aI (i:=1) c7 mq rfl;have Db:=aV c7 mq 1;have NR:=aI (i:=2) c7 mq rfl;have Pn:=aV c7 mq 2;try simp only[List.getElem_toArray,List.getElem_cons_zero,List.getElem_cons_succ] at LH wQ NR
  replace kp:=kp.uA c7;refine F.op rfl rfl (by decide) (fun d K hK=>?_);go_simp
  repeat rw[setCell_at']
  refine hK _ _ ⟨DX.Vy _ (by(first|assumption|exact jC _ rfl|(apply b8<;>dsimp only<;>omega))) (by(first|assumption|exact jC _ rfl|(apply b8<;>dsimp only<;>omega))) (by(first|assumption|exact jC _ rfl|(apply b8<;>dsimp only<;>omega))) (fun e he=>?_),?_⟩
  ·have hm:=mem_listed he
   simp[go_sem,storedEv,dh,eM,dm,fB,eB, *] at hm;rcases hm with rfl|rfl|rfl<;>exact .inl ⟨_,rfl,rfl,by(first|assumption|exact jC _ rfl|(apply b8<;>dsimp only<;>omega)),by simp only[fV,size_set];first|omega|exact aq (by assumption)⟩
  clear hK K d;try walk_nrm
  generalize cm:World.setCell w2 _ _=w3;have Lg:=jA cm;replace Po:=aK Po cm;replace Db:=aK Db cm;replace Pn:=aK Pn cm;replace LH:=dP LH cm;replace wQ:=aS wQ cm (by simp<;>omega);replace NR:=aS NR cm (by simp<;>omega);replace kp:=kp.rD cm (by first|(left;simp;done)|(right;left;simp;done)|(right;right;dsimp only;omega));generalize fD:World.setCell w3 _ _=w4;have Qu:=jA fD;replace Po:=aK Po fD;replace Db:=aK Db fD;replace Pn:=aK Pn fD;replace LH:=aS LH fD (by simp<;>omega);replace wQ:=dP wQ fD;replace NR:=aS NR fD (by simp<;>omega);replace kp:=kp.rD fD (by first|(left;simp;done)|(right;left;simp;done)|(right;right;dsimp only;omega));generalize iR:World.setCell w4 _ _=w5;have Vt:=jA iR;replace Po:=aK Po iR;replace Db:=aK Db iR;replace Pn:=aK Pn iR;replace LH:=aS LH iR (by simp<;>omega);replace wQ:=aS wQ iR (by simp<;>omega);replace NR:=dP NR iR;replace kp:=kp.rD iR (by first|(left;simp;done)|(right;left;simp;done)|(right;right;dsimp only;omega));refine F.cI ?_;refine F.ak ?_;try walk_nrm
  refine F.ol rfl rfl rfl fun d K h=>?_;go_simp;refine h _ (fun e m=>?_) ?_;simp[go_sem, *] at m;subst m;exact ff (w:=w5) (by assumption) (by first|assumption|exact jC _ rfl|(apply b8<;>dsimp only<;>omega));clear h K d;try walk_nrm
  refine F.enter rfl rfl (by decide) (fun _=>run_call_body rfl func57 (by rfl) (by rfl)) (fun _=>events_call_body rfl func57 (by rfl) (by rfl) _) ?_;walk_nrm;refine b7 1 (T k 0) 4 _ _ F _ _ (fun v wq hp=>?_);obtain⟨rfl,hq⟩:=hp;have hq:=hq.symm;subst hq;rw[Frame.finish_at];try walk_nrm
  cases jM:gF 1 (T k 0) 4 with
  |false=>
   iterate 2 (refine F.ak ?_;try walk_nrm)
   refine F.bq ?_;try walk_nrm
   refine F.bq ?_;try walk_nrm
   refine F.bq ?_;try walk_nrm
   refine F.bq ?_;try walk_nrm
   refine F.ak ?_;try walk_nrm
   refine F.re ?_;refine F.ct rfl ?_;refine F.bh ?_;refine F.ak ?_;try walk_nrm
   refine F.re ?_;refine F.ctl (fun _=>stepG_ret') ?_;refine F.aF rfl rfl func41 (resultsC_tmp (by rfl) _) ?_;refine hc _ _ ⟨?_,kp⟩;have uQ:n-k=(n-(k+1))+1:=by omega
   have tN:fA T n 0=fA T (n-k) k:=hg;rw[gN,tN,uQ];simp[fA,jM]
  |true=>
  iterate 3 (refine F.ak ?_;try walk_nrm)
  refine F.ol rfl rfl rfl fun d K h=>?_;go_simp;refine h _ (fun e m=>?_) ?_;simp[go_sem, *] at m;subst m;exact ff (w:=w5) (by assumption) (by first|assumption|exact jC _ rfl|(apply b8<;>dsimp only<;>omega));clear h K d;try walk_nrm
  refine F.enter rfl rfl (by decide) (fun _=>run_call_body rfl func57 (by rfl) (by rfl)) (fun _=>events_call_body rfl func57 (by rfl) (by rfl) _) ?_;walk_nrm;refine b7 0 (T k 2) 1000 _ _ F _ _ (fun v wq hp=>?_);obtain⟨rfl,hq⟩:=hp;have hq:=hq.symm;subst hq;rw[Frame.finish_at];try walk_nrm
  cases fK:gF 0 (T k 2) 1000 with
  |false=>
   iterate 2 (refine F.ak ?_;try walk_nrm)
   refine F.re ?_;refine F.ct rfl ?_;refine F.bh ?_;refine F.ak ?_;try walk_nrm
   refine F.re ?_;refine F.ctl (fun _=>stepG_ret') ?_;refine F.aF rfl rfl func41 (resultsC_tmp (by rfl) _) ?_;refine hc _ _ ⟨?_,kp⟩;have uQ:n-k=(n-(k+1))+1:=by omega
   have tN:fA T n 0=fA T (n-k) k:=hg;rw[gN,tN,uQ];simp[fA,fK]
  |true=>
  iterate 2 (refine F.ak ?_;try walk_nrm)
  refine F.re ?_;refine F.cf rfl ?_;refine F.sk ?_;refine F.ib ?_;refine F.nJ ?_;iterate 2 (refine F.ak ?_;try walk_nrm)
  refine F.re ?_;refine F.ctl (fun _=>stepG_inLoop) ?_;refine vA _ _ ⟨_,_,_,_,_,_,_,_,_,_,_,_,_,_,_,_,_,_,_,_,_,_,_,_,_,_,_,_,rfl,by omega,kp,?_⟩
  show fA T n 0=_
  have uQ:n-k=(n-(k+1))+1:=by omega
  have tN:fA T n 0=fA T (n-k) k:=hg;rw[tN,uQ];simp[fA,jM,fK]
 ·intro a w hI
  obtain⟨y,x3,x4,x5,x6,x7,x8,x9,Fw,Fv,Fu,Ft,Fq,Fo,MI,MH,MG,MF,ME,MD,MC,MB,MA,Mz,Vm,Vl,Vk,Vj,rfl,rfl,kp,hg⟩:=hI;refine F.bh ?_;refine F.ak ?_;try walk_nrm
  refine F.es ?_;refine F.cf rfl ?_;refine F.ctl (fun _=>stepG_exit rfl) ?_;refine F.bh ?_;refine F.ak ?_;try walk_nrm
  refine F.re ?_;refine F.ctl (fun _=>stepG_ret') ?_;refine F.aF rfl rfl func41 (resultsC_tmp (by rfl) _) ?_;have tN:fA T n 0=fA T (n-n) n:=hg;rw[Nat.sub_self] at tN;have R3:n≤12:=by omega
  exact hc _ _ ⟨by rw[gN,tN];simp[fA,pJ,R3],kp⟩
end
section
variable{main:Bool}{Ok:Addr→Bool→Prop}
def bO(L:Nat→Nat→Int):Nat→Nat→Int→Nat
 |0,k,_=>k
 |m+1,k,r=>if 2<(if L k 0=1 then r+1 else r)∨bu (L k 0) (L k 1) (L k 2) (L k 3) (L k 4) (L k 5)=false then k else bO L m (k+1) (if L k 0=1 then r+1 else r)
def Hid(p:Prop):Prop:=p
def jR(w:World)(sa:Option Addr)(n:Nat)(L:Nat→Nat→Int):Prop:=∀i,i<n→∃b o:Nat,sa=some ⟨b,o,none⟩∧∀j,j<6→w.cell? ⟨b,o+i*6+j,none⟩=some (.int .i64 (L i j))
theorem EO(b o n:Nat):(⟨b,o,none⟩:Addr).add n=⟨b,o+n,none⟩:=by unfold Addr.add;split<;>simp_all
theorem Te(N n cap:Nat)(sa:Option Addr)(L:Nat→Nat→Int)(w0:World)(hN:N≤w0.heap.size)(hn:n≤6)(hL:jR w0 sa n L)(nA:∀p:Addr,sa=some p→∀a:Addr,a.block=p.block→Ok a false)(b8:∀a wr,N≤a.block→Ok a wr):
 cj prog main (DX Ok) 26 #[.slice sa n cap] w0 fun v w'=>v=.int .i64 (bO L n 0 0)∧Kp [] w0 w':=by
 intro Ψ F c cs hc;rw[enter_at _ func26 rfl];simp only[ntmps26,mV,Nat.reduceAdd,Nat.reduceSub];refine F.bh ?_;refine F.ak ?_;try walk_nrm
 refine F.cI ?_;refine F.ak ?_;try walk_nrm
 refine F.es ?_;refine F.bh ?_;iterate 3 (refine F.ak ?_;try walk_nrm)
 refine F.re ?_;refine F.bl ?_;refine F.ctl (fun _=>stepG_loop) ?_;refine GC n (fun k a w=>∃(y r:Int)(x4 x5 x9 Fw Fv Fu Ft Fq Fo ML MK MJ MI MH MG MF ME MD MC MB MA Mz:Value),a=⟨#[.slice sa n cap,undef,.int .i64 0,.int .i64 r,x4,x5,.slice sa n cap,.int .i64 n,.int .i64 y,x9,Fw,Fv,Fu,Ft,Fq,Fo,ML,MK,MJ,MI,MH,MG,MF,ME,MD,MC,MB,MA,Mz],[]⟩∧y=k∧Kp [] w0 w∧0≤r∧r≤2∧Hid (bO L n 0 0=bO L (n-k) k r)) ?_ ?_ ⟨0,0,undef,undef,undef,undef,undef,undef,undef,undef,undef,undef,undef,undef,undef,undef,undef,undef,undef,undef,undef,undef,undef,undef,rfl,rfl,Kp.refl _,by omega,by omega,rfl⟩
 ·intro k a w hk hI vA
  obtain⟨y,r,x4,x5,x9,Fw,Fv,Fu,Ft,Fq,Fo,ML,MK,MJ,MI,MH,MG,MF,ME,MD,MC,MB,MA,Mz,rfl,rfl,kp,Wp,uu,hb⟩:=hI;obtain⟨pb,po,rfl,hj⟩:=hL k hk;have jC:∀a:Addr,a.block=pb→Ok a false:=nA _ rfl;clear nA hL;have gB:(k:Int)<(n:Int):=by omega
  have sB:(0:Int)≤(k:Int):=by omega
  have xY:IntKind.i64.wrap ((k:Int)+1)=(k:Int)+1:=wr (by omega) (by omega);have LG:IntKind.i64.wrap (r+1)=r+1:=wr (by omega) (by omega);have l0:=kp.cell _ _ (by simp) (hj 0 (by omega));have l1:=kp.cell _ _ (by simp) (hj 1 (by omega));have l2:=kp.cell _ _ (by simp) (hj 2 (by omega));have l3:=kp.cell _ _ (by simp) (hj 3 (by omega));have l4:=kp.cell _ _ (by simp) (hj 4 (by omega));have l5:=kp.cell _ _ (by simp) (hj 5 (by omega));simp only[Nat.add_zero] at l0 l1 l2 l3 l4 l5;have cU:=kp.size;clear hj;refine F.bh ?_;refine F.ak ?_;try walk_nrm
  refine F.es ?_;refine F.ct rfl ?_;refine F.sk ?_;refine F.sq ?_;refine F.bl ?_;refine F.bh ?_;iterate 2 (refine F.oq rfl rfl rfl (fun _=>by first|(simp[go_sem];done)|simp[go_sem,Instr.makeInterface,Instr.makeFunc, *]) fun d K hK=>?_;go_simp;refine hK _ ?_;clear hK K d;try walk_nrm)
  try simp only[EO]
  refine F.ol rfl rfl rfl fun d K hK=>?_
  go_simp;refine hK _ (fun e hm=>?_) ?_
  ·simp[go_sem, *] at hm
   rcases hm with rfl|rfl|rfl|rfl|rfl|rfl<;>exact ff (w:=w) (by assumption) (by first|assumption|exact jC _ rfl|(apply b8<;>dsimp only<;>omega))
  clear hK K d;try walk_nrm
  clear l0 l1 l2 l3 l4 l5;refine F.op rfl rfl (by decide) (fun d K hK=>?_);go_simp;rw[alloc_at'];refine hK _ _ ⟨DX.alloc _ _ (fun e he=>?_),?_⟩
  ·have hm:=mem_listed he
   simp[go_sem] at hm
  clear hK K d;try walk_nrm
  generalize bJ:World.alloc w _=w1;generalize cP:(World.heap w).size=n1;have v8:=jV bJ cP;have jo:=aI (i:=0) bJ cP rfl;have oU:=aV bJ cP 0;have gX:=aI (i:=1) bJ cP rfl;have oT:=aV bJ cP 1;have mZ:=aI (i:=2) bJ cP rfl;have Df:=aV bJ cP 2;have tP:=aI (i:=3) bJ cP rfl;have De:=aV bJ cP 3;have wY:=aI (i:=4) bJ cP rfl;have Dd:=aV bJ cP 4;have AX:=aI (i:=5) bJ cP rfl;have Dc:=aV bJ cP 5;try simp only[List.getElem_toArray,List.getElem_cons_zero,List.getElem_cons_succ] at jo gX mZ tP wY AX
  replace kp:=kp.uA bJ;refine F.ak ?_;try walk_nrm
  refine F.op rfl rfl (by decide) (fun d K hK=>?_);go_simp
  repeat rw[setCell_at']
  refine hK _ _ ⟨DX.Vx _ (by(first|assumption|exact jC _ rfl|(apply b8<;>dsimp only<;>omega))) (by(first|assumption|exact jC _ rfl|(apply b8<;>dsimp only<;>omega))) (by(first|assumption|exact jC _ rfl|(apply b8<;>dsimp only<;>omega))) (by(first|assumption|exact jC _ rfl|(apply b8<;>dsimp only<;>omega))) (by(first|assumption|exact jC _ rfl|(apply b8<;>dsimp only<;>omega))) (by(first|assumption|exact jC _ rfl|(apply b8<;>dsimp only<;>omega))) (fun e he=>?_),?_⟩
  ·have hm:=mem_listed he
   simp[go_sem,storedEv,dh,eM,dm,fB,eB, *] at hm;rcases hm with rfl|rfl|rfl|rfl|rfl|rfl<;>exact .inl ⟨_,rfl,rfl,by(first|assumption|exact jC _ rfl|(apply b8<;>dsimp only<;>omega)),by simp only[fV,size_set];first|omega|exact aq (by assumption)⟩
  clear hK K d;try walk_nrm
  generalize c7:World.setCell w1 _ _=w2;have Io:=jA c7;replace oU:=aK oU c7;replace oT:=aK oT c7;replace Df:=aK Df c7;replace De:=aK De c7;replace Dd:=aK Dd c7;replace Dc:=aK Dc c7;replace jo:=dP jo c7;replace gX:=aS gX c7 (by simp<;>omega);replace mZ:=aS mZ c7 (by simp<;>omega);replace tP:=aS tP c7 (by simp<;>omega);replace wY:=aS wY c7 (by simp<;>omega);replace AX:=aS AX c7 (by simp<;>omega);replace kp:=kp.rD c7 (by first|(left;simp;done)|(right;left;simp;done)|(right;right;dsimp only;omega));generalize cm:World.setCell w2 _ _=w3;have Lg:=jA cm;replace oU:=aK oU cm;replace oT:=aK oT cm;replace Df:=aK Df cm;replace De:=aK De cm;replace Dd:=aK Dd cm;replace Dc:=aK Dc cm;replace jo:=aS jo cm (by simp<;>omega);replace gX:=dP gX cm;replace mZ:=aS mZ cm (by simp<;>omega);replace tP:=aS tP cm (by simp<;>omega);replace wY:=aS wY cm (by simp<;>omega);replace AX:=aS AX cm (by simp<;>omega);replace kp:=kp.rD cm (by first|(left;simp;done)|(right;left;simp;done)|(right;right;dsimp only;omega));generalize fD:World.setCell w3 _ _=w4;have Qu:=jA fD;replace oU:=aK oU fD;replace oT:=aK oT fD;replace Df:=aK Df fD;replace De:=aK De fD;replace Dd:=aK Dd fD;replace Dc:=aK Dc fD;replace jo:=aS jo fD (by simp<;>omega);replace gX:=aS gX fD (by simp<;>omega);replace mZ:=dP mZ fD;replace tP:=aS tP fD (by simp<;>omega);replace wY:=aS wY fD (by simp<;>omega);replace AX:=aS AX fD (by simp<;>omega);replace kp:=kp.rD fD (by first|(left;simp;done)|(right;left;simp;done)|(right;right;dsimp only;omega));generalize iR:World.setCell w4 _ _=w5;have Vt:=jA iR;replace oU:=aK oU iR;replace oT:=aK oT iR;replace Df:=aK Df iR;replace De:=aK De iR;replace Dd:=aK Dd iR;replace Dc:=aK Dc iR;replace jo:=aS jo iR (by simp<;>omega);replace gX:=aS gX iR (by simp<;>omega);replace mZ:=aS mZ iR (by simp<;>omega);replace tP:=dP tP iR;replace wY:=aS wY iR (by simp<;>omega);replace AX:=aS AX iR (by simp<;>omega);replace kp:=kp.rD iR (by first|(left;simp;done)|(right;left;simp;done)|(right;right;dsimp only;omega));generalize CI:World.setCell w5 _ _=w6;have sz6:=jA CI;replace oU:=aK oU CI;replace oT:=aK oT CI
  replace Df:=aK Df CI;replace De:=aK De CI;replace Dd:=aK Dd CI;replace Dc:=aK Dc CI;replace jo:=aS jo CI (by simp<;>omega);replace gX:=aS gX CI (by simp<;>omega);replace mZ:=aS mZ CI (by simp<;>omega);replace tP:=aS tP CI (by simp<;>omega);replace wY:=dP wY CI;replace AX:=aS AX CI (by simp<;>omega);replace kp:=kp.rD CI (by first|(left;simp;done)|(right;left;simp;done)|(right;right;dsimp only;omega));generalize CH:World.setCell w6 _ _=w7;have sz7:=jA CH;replace oU:=aK oU CH;replace oT:=aK oT CH;replace Df:=aK Df CH;replace De:=aK De CH;replace Dd:=aK Dd CH;replace Dc:=aK Dc CH;replace jo:=aS jo CH (by simp<;>omega);replace gX:=aS gX CH (by simp<;>omega);replace mZ:=aS mZ CH (by simp<;>omega);replace tP:=aS tP CH (by simp<;>omega);replace wY:=aS wY CH (by simp<;>omega);replace AX:=dP AX CH;replace kp:=kp.rD CH (by first|(left;simp;done)|(right;left;simp;done)|(right;right;dsimp only;omega));refine F.es ?_;refine F.bh ?_;refine F.ak ?_;try walk_nrm
  refine F.ol rfl rfl rfl fun d K h=>?_;go_simp;refine h _ (fun e m=>?_) ?_;simp[go_sem, *] at m;subst m;exact ff (w:=w7) (by assumption) (by first|assumption|exact jC _ rfl|(apply b8<;>dsimp only<;>omega));clear h K d;try walk_nrm
  by_cases kE:L k 0=1
  ·refine F.xT rfl rfl (by decide) (fun _=>(by first|(simp[go_sem];done)|(simp[go_sem,Instr.makeInterface,Instr.makeFunc];done)|(simp[go_sem, *];done))) (fun d K hK=>?_)
   go_simp;refine hK _ ?_;clear hK K d;try walk_nrm
   refine F.re ?_;refine F.ct rfl ?_;refine F.nJ ?_;iterate 3 (refine F.ak ?_;try walk_nrm)
   refine F.re ?_
   by_cases h3:2<r+1
   ·refine F.ctl (fun _=>stepG_seq) ?_
    refine F.nJ ?_;iterate 3 (refine F.ak ?_;try walk_nrm)
    refine F.bq ?_;try walk_nrm
    refine F.bq ?_;try walk_nrm
    refine F.bq ?_;try walk_nrm
    refine F.ak ?_;try walk_nrm
    refine F.re ?_;refine F.ct rfl ?_;refine F.bh ?_;iterate 2 (refine F.ak ?_;try walk_nrm)
    refine F.re ?_;refine F.ctl (fun _=>stepG_ret') ?_;refine F.aF rfl rfl func26 (resultsC_tmp (by rfl) _) ?_;refine hc _ _ ⟨?_,kp⟩;have uQ:n-k=(n-(k+1))+1:=by omega
    have fK:bO L n 0 0=bO L (n-k) k r:=hb;rw[fK,uQ];simp only[bO,kE,if_true];simp[h3]
   have U1:¬2<r+1:=h3;refine F.bh ?_;iterate 3 (refine F.ak ?_;try walk_nrm)
   refine F.ol rfl rfl rfl fun d K hK=>?_
   go_simp;refine hK _ (fun e hm=>?_) ?_
   ·simp[go_sem, *] at hm
    rcases hm with rfl|rfl|rfl|rfl|rfl|rfl<;>exact ff (w:=w7) (by assumption) (by first|assumption|exact jC _ rfl|(apply b8<;>dsimp only<;>omega))
   clear hK K d;try walk_nrm
   refine F.enter rfl rfl (by decide) (fun _=>run_call_body rfl func40 (by rfl) (by rfl)) (fun _=>events_call_body rfl func40 (by rfl) (by rfl) _) ?_;walk_nrm;refine rm N 1 (L k 1) (L k 2) (L k 3) (L k 4) (L k 5) w7 (by omega) b8 _ F _ _ (fun v wc hp=>?_);obtain⟨rfl,kq⟩:=hp;replace kp:=kp.lG kq (by simp) (by simp);rw[Frame.finish_at];cases hg:bu 1 (L k 1) (L k 2) (L k 3) (L k 4) (L k 5) with
   |false=>
    try walk_nrm
    iterate 2 (refine F.ak ?_;try walk_nrm)
    refine F.re ?_;refine F.ct rfl ?_;refine F.bh ?_;iterate 2 (refine F.ak ?_;try walk_nrm)
    refine F.re ?_;refine F.ctl (fun _=>stepG_ret') ?_;refine F.aF rfl rfl func26 (resultsC_tmp (by rfl) _) ?_;refine hc _ _ ⟨?_,kp⟩;have uQ:n-k=(n-(k+1))+1:=by omega
    have fK:bO L n 0 0=bO L (n-k) k r:=hb;rw[fK,uQ];simp only[bO,kE,if_true];simp[hg]
   |true=>
    try walk_nrm
    iterate 2 (refine F.ak ?_;try walk_nrm)
    refine F.re ?_;refine F.cf rfl ?_;refine F.sk ?_;refine F.ib ?_;refine F.nJ ?_;iterate 2 (refine F.ak ?_;try walk_nrm)
    refine F.re ?_;refine F.ctl (fun _=>stepG_inLoop) ?_;refine vA _ _ ⟨_,r+1,_,_,_,_,_,_,_,_,_,_,_,_,_,_,_,_,_,_,_,_,_,_,rfl,by omega,kp,by omega,by omega,?_⟩
    show bO L n 0 0=_
    have uQ:n-k=(n-(k+1))+1:=by omega
    have fK:bO L n 0 0=bO L (n-k) k r:=hb;rw[fK,uQ];simp only[bO,kE,if_true];simp[hg,h3]
  have AP:(L k 0==1)=false:=by simpa using kE
  refine F.ak ?_;try walk_nrm
  refine F.re ?_;refine F.cf rfl ?_;refine F.sk ?_
  by_cases h3:2<r
  ·refine F.ctl (fun _=>stepG_seq) ?_
   refine F.nJ ?_;iterate 3 (refine F.ak ?_;try walk_nrm)
   refine F.bq ?_;try walk_nrm
   refine F.bq ?_;try walk_nrm
   refine F.bq ?_;try walk_nrm
   refine F.ak ?_;try walk_nrm
   refine F.re ?_;refine F.ct rfl ?_;refine F.bh ?_;iterate 2 (refine F.ak ?_;try walk_nrm)
   refine F.re ?_;refine F.ctl (fun _=>stepG_ret') ?_;refine F.aF rfl rfl func26 (resultsC_tmp (by rfl) _) ?_;refine hc _ _ ⟨?_,kp⟩;have uQ:n-k=(n-(k+1))+1:=by omega
   have fK:bO L n 0 0=bO L (n-k) k r:=hb;rw[fK,uQ];simp only[bO,kE,if_false];simp[h3]
  have U1:¬2<r:=h3;refine F.bh ?_;iterate 3 (refine F.ak ?_;try walk_nrm)
  refine F.ol rfl rfl rfl fun d K hK=>?_
  go_simp;refine hK _ (fun e hm=>?_) ?_
  ·simp[go_sem, *] at hm
   rcases hm with rfl|rfl|rfl|rfl|rfl|rfl<;>exact ff (w:=w7) (by assumption) (by first|assumption|exact jC _ rfl|(apply b8<;>dsimp only<;>omega))
  clear hK K d;try walk_nrm
  refine F.enter rfl rfl (by decide) (fun _=>run_call_body rfl func40 (by rfl) (by rfl)) (fun _=>events_call_body rfl func40 (by rfl) (by rfl) _) ?_;walk_nrm;refine rm N (L k 0) (L k 1) (L k 2) (L k 3) (L k 4) (L k 5) w7 (by omega) b8 _ F _ _ (fun v wc hp=>?_);obtain⟨rfl,kq⟩:=hp;replace kp:=kp.lG kq (by simp) (by simp);rw[Frame.finish_at];cases hg:bu (L k 0) (L k 1) (L k 2) (L k 3) (L k 4) (L k 5) with
  |false=>
   try walk_nrm
   iterate 2 (refine F.ak ?_;try walk_nrm)
   refine F.re ?_;refine F.ct rfl ?_;refine F.bh ?_;iterate 2 (refine F.ak ?_;try walk_nrm)
   refine F.re ?_;refine F.ctl (fun _=>stepG_ret') ?_;refine F.aF rfl rfl func26 (resultsC_tmp (by rfl) _) ?_;refine hc _ _ ⟨?_,kp⟩;have uQ:n-k=(n-(k+1))+1:=by omega
   have fK:bO L n 0 0=bO L (n-k) k r:=hb;rw[fK,uQ];simp only[bO,kE,if_false];simp[hg]
  |true=>
   try walk_nrm
   iterate 2 (refine F.ak ?_;try walk_nrm)
   refine F.re ?_;refine F.cf rfl ?_;refine F.sk ?_;refine F.ib ?_;refine F.nJ ?_;iterate 2 (refine F.ak ?_;try walk_nrm)
   refine F.re ?_;refine F.ctl (fun _=>stepG_inLoop) ?_;refine vA _ _ ⟨_,r,_,_,_,_,_,_,_,_,_,_,_,_,_,_,_,_,_,_,_,_,_,_,rfl,by omega,kp,by omega,by omega,?_⟩
   show bO L n 0 0=_
   have uQ:n-k=(n-(k+1))+1:=by omega
   have fK:bO L n 0 0=bO L (n-k) k r:=hb;rw[fK,uQ];simp only[bO,kE,if_false];simp[hg,h3]
 ·intro a w hI
  obtain⟨y,r,x4,x5,x9,Fw,Fv,Fu,Ft,Fq,Fo,ML,MK,MJ,MI,MH,MG,MF,ME,MD,MC,MB,MA,Mz,rfl,rfl,kp,Wp,uu,hb⟩:=hI;have jM:bO L n 0 0=bO L (n-n) n r:=hb;rw[Nat.sub_self] at jM;have zK:Hid (bO L n 0 0=n):=jM;clear hb jM;refine F.bh ?_;refine F.ak ?_;try walk_nrm
  refine F.es ?_;refine F.cf rfl ?_;refine F.ctl (fun _=>stepG_exit rfl) ?_;refine F.bh ?_;iterate 3 (refine F.ak ?_;try walk_nrm)
  refine F.re ?_;refine F.ctl (fun _=>stepG_ret') ?_;refine F.aF rfl rfl func26 (resultsC_tmp (by rfl) _) ?_;exact hc _ _ ⟨by rw[show bO L n 0 0=n from zK];rfl,kp⟩
end
end Go.Proofs.YtobagnjnbmgidaaGreatDoor
