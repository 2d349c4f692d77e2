import Derived.Test.YtobagnjnbmgidaaGreatDoorX8
set_option linter.all false
set_option maxHeartbeats 2000000
set_option maxRecDepth 100000
namespace Go.Proofs.YtobagnjnbmgidaaGreatDoor
open Go.Conc Go.RowKit Tryz
variable{main:Bool}{Ok:Addr→Bool→Prop}
theorem GC{Ψ:Goroutine→World→Prop}{b:Frame}{Rh:List Item}{cs:List Frame}(m:Nat)(I:Nat→Act→World→Prop)(eK:∀k a w,k<m→I k a w→(∀a' w',I (k+1) a' w'→Ψ (G (b.at a' Rh) cs) w')→Ψ (G (b.at a Rh) cs) w)(gJ:∀a w,I m a w→Ψ (G (b.at a Rh) cs) w){a:Act}{w:World}(h0:I 0 a w):Ψ (G (b.at a Rh) cs) w:=by
 have H8:∀(j k:Nat),k+j=m→∀a w,I k a w→Ψ (G (b.at a Rh) cs) w:=by
  intro j
  induction j with
  |zero=>intro k hk a w hI;obtain rfl:k=m:=by omega
         exact gJ a w hI
  |succ j ih=>intro k hk a w hI;exact eK k a w (by omega) hI fun a' w' jU=>ih (k+1) (by omega) a' w' jU
 exact H8 m 0 (by omega) a w h0
theorem DX.Vx{a1 a2 a3 a4 a5 a6:Addr}{v1 v2 v3 v4 v5 v6:Value}{w:World}{es:Array Event}(d:Nat)(o1:Ok a1 true)(o2:Ok a2 true)(o3:Ok a3 true)(o4:Ok a4 true)(o5:Ok a5 true)(o6:Ok a6 true)(h:∀e∈es,Fg Ok (((((((w.setCell a1 v1).setCell a2 v2).setCell a3 v3).setCell a4 v4).setCell a5 v5).setCell a6 v6).at d) e):
 DX Ok (w.at d) (((((((w.setCell a1 v1).setCell a2 v2).setCell a3 v3).setCell a4 v4).setCell a5 v5).setCell a6 v6).at d) es:=
 DX.Jn d [(a1,v1),(a2,v2),(a3,v3),(a4,v4),(a5,v5),(a6,v6)] w (by simp[o1,o2,o3,o4,o5,o6]) h
theorem fV(w:World)(d:Nat):(w.at d).heap.size=w.heap.size:=rfl
theorem size_set(w:World)(a:Addr)(v:Value):(w.setCell a v).heap.size=w.heap.size:=by simp[World.setCell]
theorem wr{x:Int}(h1:-1000000≤x)(h2:x≤1000000):IntKind.i64.wrap x=x:=by
 simp only[IntKind.wrap,IntKind.bits,IntKind.signed]<;>(try simp)<;>omega
def gF(lo n hi:Int):Bool:=decide (lo≤n)&&decide (n≤hi)
def bu(k a b c d e:Int):Bool:=
 if k=1 then gF 1 a 9&&gF 0 b 1000&&gF 1 c 9&&gF 0 d 10000 else if k=2 then true else if k=3 then gF 1 a 1000&&gF 1 b 20
 else if k=4 then gF 1 a 20&&gF 1 b a&&gF 1 c 100&&gF 0 d 1000&&gF 1 e 9 else if k=5 then gF 1 a 9&&gF 0 b 1000 else if k=6 then gF 1 a 1000 else false
theorem b7(lo n hi:Int)(w0:World):cj prog main (DX Ok) 57 #[.int .i64 lo,.int .i64 n,.int .i64 hi] w0 fun v w'=>v=.bool (gF lo n hi)∧w'=w0:=by
 intro Ψ F c cs hc;rw[enter_at _ func57 rfl];simp only[ntmps57,mV,Nat.reduceAdd,Nat.reduceSub]
 by_cases h1:lo≤n
 ·by_cases h2:n≤hi
  ·refine F.ctl (fun _=>stepG_seq) ?_
   refine F.nJ ?_;refine F.ak ?_;try walk_nrm
   refine F.cI ?_;iterate 9 (refine F.ak ?_;try walk_nrm)
   refine F.re ?_;refine F.ctl (fun _=>stepG_ret') ?_;refine F.aF rfl rfl func57 (resultsC_tmp (by rfl) _) ?_;exact hc _ _ ⟨by simp[gF,h1,h2],rfl⟩
  ·refine F.ctl (fun _=>stepG_seq) ?_
   refine F.nJ ?_;refine F.ak ?_;try walk_nrm
   refine F.cI ?_;iterate 9 (refine F.ak ?_;try walk_nrm)
   refine F.re ?_;refine F.ctl (fun _=>stepG_ret') ?_;refine F.aF rfl rfl func57 (resultsC_tmp (by rfl) _) ?_;exact hc _ _ ⟨by simp[gF,h1,h2],rfl⟩
 ·refine F.ctl (fun _=>stepG_seq) ?_
  refine F.nJ ?_;refine F.ak ?_;try walk_nrm
  refine F.cI ?_;iterate 4 (refine F.ak ?_;try walk_nrm)
  refine F.bq ?_;try walk_nrm
  refine F.bq ?_;try walk_nrm
  refine F.bq ?_;try walk_nrm
  iterate 2 (refine F.ak ?_;try walk_nrm)
  refine F.re ?_;refine F.ctl (fun _=>stepG_ret') ?_;refine F.aF rfl rfl func57 (resultsC_tmp (by rfl) _) ?_;exact hc _ _ ⟨by simp[gF,h1],rfl⟩
theorem rm(N:Nat)(k a b c d e:Int)(w0:World)(hN:N≤w0.heap.size)(b8:∀a wr,N≤a.block→Ok a wr):
 cj prog main (DX Ok) 40 #[.agg #[.int .i64 k,.int .i64 a,.int .i64 b,.int .i64 c,.int .i64 d,.int .i64 e]] w0 fun v w'=>v=.bool (bu k a b c d e)∧Kp [] w0 w':=by
 intro Ψ F c0 cs hc;rw[enter_at _ func40 rfl];simp only[ntmps40,mV,Nat.reduceAdd,Nat.reduceSub];refine F.bh ?_;refine F.op rfl rfl (by decide) (fun d K hK=>?_);go_simp;rw[alloc_at'];refine hK _ _ ⟨DX.alloc _ _ (fun e he=>?_),?_⟩
 ·have hm:=mem_listed he
  simp[go_sem] at hm
 clear hK K d;try walk_nrm
 generalize bJ:World.alloc w0 _=w1;generalize cP:(World.heap w0).size=n1;have v8:=jV bJ cP;have jo:=aI (i:=0) bJ cP rfl;have oU:=aV bJ cP 0;have gX:=aI (i:=1) bJ cP rfl;have oT:=aV bJ cP 1;have mZ:=aI (i:=2) bJ cP rfl;have Df:=aV bJ cP 2;have tP:=aI (i:=3) bJ cP rfl;have De:=aV bJ cP 3;have wY:=aI (i:=4) bJ cP rfl;have Dd:=aV bJ cP 4;have AX:=aI (i:=5) bJ cP rfl;have Dc:=aV bJ cP 5;try simp only[List.getElem_toArray,List.getElem_cons_zero,List.getElem_cons_succ] at jo gX mZ tP wY AX
 have kp:Kp [] w0 w0 []:=Kp.refl _;replace kp:=kp.uA bJ;refine F.ak ?_;try walk_nrm
 refine F.es ?_;refine F.bh ?_;refine F.ak ?_;try walk_nrm
 refine F.ol rfl rfl rfl fun d K h=>?_;go_simp;refine h _ (fun e m=>?_) ?_;simp[go_sem, *] at m;subst m;exact ff (w:=w1) (by assumption) (by first|assumption|(apply b8<;>dsimp only<;>omega));clear h K d;try walk_nrm
 refine F.re ?_;refine F.bl ?_;have aaa:n1+1≤w1.heap.size:=Nat.le_of_eq v8.symm;have WL:w0.heap.size≤n1:=Nat.le_of_eq cP;clear v8 cP bJ
 by_cases k1:k=1
 ·refine F.ctl (fun _=>stepG_seq) ?_
  refine F.nJ ?_;iterate 2 (refine F.ak ?_;try walk_nrm)
  refine F.re ?_;refine F.ct rfl ?_;refine F.bh ?_;refine F.ak ?_;try walk_nrm
  refine F.ol rfl rfl rfl fun d K h=>?_;go_simp;refine h _ (fun e m=>?_) ?_;simp[go_sem, *] at m;subst m;exact ff (w:=w1) (by assumption) (by first|assumption|(apply b8<;>dsimp only<;>omega));clear h K d;try walk_nrm
  refine F.enter rfl rfl (by decide) (fun _=>run_call_body rfl func57 (by rfl) (by rfl)) (fun _=>events_call_body rfl func57 (by rfl) (by rfl) _) ?_;walk_nrm;refine b7 1 a 9 _ _ F _ _ (fun v wq hp=>?_);obtain⟨rfl,hq⟩:=hp;have hq:=hq.symm;subst hq;rw[Frame.finish_at];try walk_nrm
  cases pJ:gF 1 a 9 with
  |false=>
   refine F.ak ?_;try walk_nrm
   refine F.bq ?_;try walk_nrm
   refine F.bq ?_;try walk_nrm
   refine F.bq ?_;try walk_nrm
   iterate 2 (refine F.ak ?_;try walk_nrm)
   refine F.bq ?_;try walk_nrm
   refine F.bq ?_;try walk_nrm
   refine F.bq ?_;try walk_nrm
   iterate 2 (refine F.ak ?_;try walk_nrm)
   refine F.bq ?_;try walk_nrm
   refine F.bq ?_;try walk_nrm
   refine F.bq ?_;try walk_nrm
   iterate 2 (refine F.ak ?_;try walk_nrm)
   refine F.re ?_;refine F.ctl (fun _=>stepG_ret') ?_;refine F.aF rfl rfl func40 (resultsC_tmp (by rfl) _) ?_;exact hc _ _ ⟨by simp[bu,k1,pJ],kp⟩
  |true=>
   iterate 2 (refine F.ak ?_;try walk_nrm)
   refine F.ol rfl rfl rfl fun d K h=>?_;go_simp;refine h _ (fun e m=>?_) ?_;simp[go_sem, *] at m;subst m;exact ff (w:=w1) (by assumption) (by first|assumption|(apply b8<;>dsimp only<;>omega));clear h K d;try walk_nrm
   refine F.enter rfl rfl (by decide) (fun _=>run_call_body rfl func57 (by rfl) (by rfl)) (fun _=>events_call_body rfl func57 (by rfl) (by rfl) _) ?_;walk_nrm;refine b7 0 b 1000 _ _ F _ _ (fun v wq hp=>?_);obtain⟨rfl,hq⟩:=hp;have hq:=hq.symm;subst hq;rw[Frame.finish_at];try walk_nrm
   cases jM:gF 0 b 1000 with
   |false=>
    iterate 2 (refine F.ak ?_;try walk_nrm)
    refine F.bq ?_;try walk_nrm
    refine F.bq ?_;try walk_nrm
    refine F.bq ?_;try walk_nrm
    iterate 2 (refine F.ak ?_;try walk_nrm)
    refine F.bq ?_;try walk_nrm
    refine F.bq ?_;try walk_nrm
    refine F.bq ?_;try walk_nrm
    iterate 2 (refine F.ak ?_;try walk_nrm)
    refine F.re ?_;refine F.ctl (fun _=>stepG_ret') ?_;refine F.aF rfl rfl func40 (resultsC_tmp (by rfl) _) ?_;exact hc _ _ ⟨by simp[bu,k1,pJ,jM],kp⟩
   |true=>
    iterate 3 (refine F.ak ?_;try walk_nrm)
    refine F.ol rfl rfl rfl fun d K h=>?_;go_simp;refine h _ (fun e m=>?_) ?_;simp[go_sem, *] at m;subst m;exact ff (w:=w1) (by assumption) (by first|assumption|(apply b8<;>dsimp only<;>omega));clear h K d;try walk_nrm
    refine F.enter rfl rfl (by decide) (fun _=>run_call_body rfl func57 (by rfl) (by rfl)) (fun _=>events_call_body rfl func57 (by rfl) (by rfl) _) ?_;walk_nrm;refine b7 1 c 9 _ _ F _ _ (fun v wq hp=>?_);obtain⟨rfl,hq⟩:=hp;have hq:=hq.symm;subst hq;rw[Frame.finish_at];try walk_nrm
    cases fK:gF 1 c 9 with
    |false=>
     iterate 2 (refine F.ak ?_;try walk_nrm)
     refine F.bq ?_;try walk_nrm
     refine F.bq ?_;try walk_nrm
     refine F.bq ?_;try walk_nrm
     iterate 2 (refine F.ak ?_;try walk_nrm)
     refine F.re ?_;refine F.ctl (fun _=>stepG_ret') ?_;refine F.aF rfl rfl func40 (resultsC_tmp (by rfl) _) ?_;exact hc _ _ ⟨by simp[bu,k1,pJ,jM,fK],kp⟩
    |true=>
     iterate 3 (refine F.ak ?_;try walk_nrm)
     refine F.ol rfl rfl rfl fun d K h=>?_;go_simp;refine h _ (fun e m=>?_) ?_;simp[go_sem, *] at m;subst m;exact ff (w:=w1) (by assumption) (by first|assumption|(apply b8<;>dsimp only<;>omega));clear h K d;try walk_nrm
     refine F.enter rfl rfl (by decide) (fun _=>run_call_body rfl func57 (by rfl) (by rfl)) (fun _=>events_call_body rfl func57 (by rfl) (by rfl) _) ?_;walk_nrm;refine b7 0 d 10000 _ _ F _ _ (fun v wq hp=>?_);obtain⟨rfl,hq⟩:=hp;have hq:=hq.symm;subst hq;rw[Frame.finish_at];try walk_nrm
     cases uw:gF 0 d 10000 with
     |false=>
      iterate 2 (refine F.ak ?_;try walk_nrm)
      refine F.re ?_;refine F.ctl (fun _=>stepG_ret') ?_;refine F.aF rfl rfl func40 (resultsC_tmp (by rfl) _) ?_;exact hc _ _ ⟨by simp[bu,k1,pJ,jM,fK,uw],kp⟩
     |true=>
      iterate 2 (refine F.ak ?_;try walk_nrm)
      refine F.re ?_;refine F.ctl (fun _=>stepG_ret') ?_;refine F.aF rfl rfl func40 (resultsC_tmp (by rfl) _) ?_;exact hc _ _ ⟨by simp[bu,k1,pJ,jM,fK,uw],kp⟩
 have e1:(k==1)=false:=by simpa using k1
 refine F.bh ?_;iterate 2 (refine F.ak ?_;try walk_nrm)
 refine F.re ?_;refine F.cf rfl ?_
 by_cases k2:k=2
 ·refine F.ctl (fun _=>stepG_seq) ?_
  refine F.nJ ?_;iterate 2 (refine F.ak ?_;try walk_nrm)
  refine F.re ?_;refine F.ct rfl ?_;refine F.bh ?_;refine F.ak ?_;try walk_nrm
  refine F.re ?_;refine F.ctl (fun _=>stepG_ret') ?_;refine F.aF rfl rfl func40 (resultsC_tmp (by rfl) _) ?_;exact hc _ _ ⟨by simp[bu,k1,k2],kp⟩
 have e2:(k==2)=false:=by simpa using k2
 refine F.bh ?_;iterate 2 (refine F.ak ?_;try walk_nrm)
 refine F.re ?_;refine F.cf rfl ?_
 by_cases k3:k=3
 ·refine F.ctl (fun _=>stepG_seq) ?_
  refine F.nJ ?_;iterate 2 (refine F.ak ?_;try walk_nrm)
  refine F.re ?_;refine F.ct rfl ?_;refine F.bh ?_;refine F.ak ?_;try walk_nrm
  refine F.ol rfl rfl rfl fun d K h=>?_;go_simp;refine h _ (fun e m=>?_) ?_;simp[go_sem, *] at m;subst m;exact ff (w:=w1) (by assumption) (by first|assumption|(apply b8<;>dsimp only<;>omega));clear h K d;try walk_nrm
  refine F.enter rfl rfl (by decide) (fun _=>run_call_body rfl func57 (by rfl) (by rfl)) (fun _=>events_call_body rfl func57 (by rfl) (by rfl) _) ?_;walk_nrm;refine b7 1 a 1000 _ _ F _ _ (fun v wq hp=>?_);obtain⟨rfl,hq⟩:=hp;have hq:=hq.symm;subst hq;rw[Frame.finish_at];try walk_nrm
  cases pJ:gF 1 a 1000 with
  |false=>
   refine F.ak ?_;try walk_nrm
   refine F.bq ?_;try walk_nrm
   refine F.bq ?_;try walk_nrm
   refine F.bq ?_;try walk_nrm
   iterate 2 (refine F.ak ?_;try walk_nrm)
   refine F.re ?_;refine F.ctl (fun _=>stepG_ret') ?_;refine F.aF rfl rfl func40 (resultsC_tmp (by rfl) _) ?_;exact hc _ _ ⟨by simp[bu,k1,k2,k3,pJ],kp⟩
  |true=>
   iterate 2 (refine F.ak ?_;try walk_nrm)
   refine F.ol rfl rfl rfl fun d K h=>?_;go_simp;refine h _ (fun e m=>?_) ?_;simp[go_sem, *] at m;subst m;exact ff (w:=w1) (by assumption) (by first|assumption|(apply b8<;>dsimp only<;>omega));clear h K d;try walk_nrm
   refine F.enter rfl rfl (by decide) (fun _=>run_call_body rfl func57 (by rfl) (by rfl)) (fun _=>events_call_body rfl func57 (by rfl) (by rfl) _) ?_;walk_nrm;refine b7 1 b 20 _ _ F _ _ (fun v wq hp=>?_);obtain⟨rfl,hq⟩:=hp;have hq:=hq.symm;subst hq;rw[Frame.finish_at];try walk_nrm
   cases jM:gF 1 b 20 with
   |false=>
    iterate 2 (refine F.ak ?_;try walk_nrm)
    refine F.re ?_;refine F.ctl (fun _=>stepG_ret') ?_;refine F.aF rfl rfl func40 (resultsC_tmp (by rfl) _) ?_;exact hc _ _ ⟨by simp[bu,k1,k2,k3,pJ,jM],kp⟩
   |true=>
    iterate 2 (refine F.ak ?_;try walk_nrm)
    refine F.re ?_;refine F.ctl (fun _=>stepG_ret') ?_;refine F.aF rfl rfl func40 (resultsC_tmp (by rfl) _) ?_;exact hc _ _ ⟨by simp[bu,k1,k2,k3,pJ,jM],kp⟩
 have e3:(k==3)=false:=by simpa using k3
 refine F.bh ?_;iterate 2 (refine F.ak ?_;try walk_nrm)
 refine F.re ?_;refine F.cf rfl ?_
 by_cases k4:k=4
 ·refine F.ctl (fun _=>stepG_seq) ?_
  refine F.nJ ?_;iterate 2 (refine F.ak ?_;try walk_nrm)
  refine F.re ?_;refine F.ct rfl ?_;refine F.bh ?_;refine F.ak ?_;try walk_nrm
  refine F.ol rfl rfl rfl fun d K h=>?_;go_simp;refine h _ (fun e m=>?_) ?_;simp[go_sem, *] at m;subst m;exact ff (w:=w1) (by assumption) (by first|assumption|(apply b8<;>dsimp only<;>omega));clear h K d;try walk_nrm
  refine F.enter rfl rfl (by decide) (fun _=>run_call_body rfl func57 (by rfl) (by rfl)) (fun _=>events_call_body rfl func57 (by rfl) (by rfl) _) ?_;walk_nrm;refine b7 1 a 20 _ _ F _ _ (fun v wq hp=>?_);obtain⟨rfl,hq⟩:=hp;have hq:=hq.symm;subst hq;rw[Frame.finish_at];try walk_nrm
  cases pJ:gF 1 a 20 with
  |false=>
   refine F.ak ?_;try walk_nrm
   refine F.bq ?_;try walk_nrm
   refine F.bq ?_;try walk_nrm
   refine F.bq ?_;try walk_nrm
   refine F.bq ?_;try walk_nrm
   refine F.bq ?_;try walk_nrm
   iterate 2 (refine F.ak ?_;try walk_nrm)
   refine F.bq ?_;try walk_nrm
   refine F.bq ?_;try walk_nrm
   refine F.bq ?_;try walk_nrm
   iterate 2 (refine F.ak ?_;try walk_nrm)
   refine F.bq ?_;try walk_nrm
   refine F.bq ?_;try walk_nrm
   refine F.bq ?_;try walk_nrm
   iterate 2 (refine F.ak ?_;try walk_nrm)
   refine F.bq ?_;try walk_nrm
   refine F.bq ?_;try walk_nrm
   refine F.bq ?_;try walk_nrm
   iterate 2 (refine F.ak ?_;try walk_nrm)
   refine F.re ?_;refine F.ctl (fun _=>stepG_ret') ?_;refine F.aF rfl rfl func40 (resultsC_tmp (by rfl) _) ?_;exact hc _ _ ⟨by simp[bu,k1,k2,k3,k4,pJ],kp⟩
  |true=>
   iterate 2 (refine F.ak ?_;try walk_nrm)
   refine F.ol rfl rfl rfl fun d K h=>?_;go_simp;refine h _ (fun e m=>?_) ?_;simp[go_sem, *] at m;subst m;exact ff (w:=w1) (by assumption) (by first|assumption|(apply b8<;>dsimp only<;>omega));clear h K d;try walk_nrm
   refine F.ak ?_;try walk_nrm
   refine F.ol rfl rfl rfl fun d K h=>?_;go_simp;refine h _ (fun e m=>?_) ?_;simp[go_sem, *] at m;subst m;exact ff (w:=w1) (by assumption) (by first|assumption|(apply b8<;>dsimp only<;>omega));clear h K d;try walk_nrm
   refine F.enter rfl rfl (by decide) (fun _=>run_call_body rfl func57 (by rfl) (by rfl)) (fun _=>events_call_body rfl func57 (by rfl) (by rfl) _) ?_;walk_nrm;refine b7 1 b a _ _ F _ _ (fun v wq hp=>?_);obtain⟨rfl,hq⟩:=hp;have hq:=hq.symm;subst hq;rw[Frame.finish_at];try walk_nrm
   cases jM:gF 1 b a with
   |false=>
    iterate 2 (refine F.ak ?_;try walk_nrm)
    refine F.bq ?_;try walk_nrm
    refine F.bq ?_;try walk_nrm
    refine F.bq ?_;try walk_nrm
    iterate 2 (refine F.ak ?_;try walk_nrm)
    refine F.bq ?_;try walk_nrm
    refine F.bq ?_;try walk_nrm
    refine F.bq ?_;try walk_nrm
    iterate 2 (refine F.ak ?_;try walk_nrm)
    refine F.bq ?_;try walk_nrm
    refine F.bq ?_;try walk_nrm
    refine F.bq ?_;try walk_nrm
    iterate 2 (refine F.ak ?_;try walk_nrm)
    refine F.re ?_;refine F.ctl (fun _=>stepG_ret') ?_;refine F.aF rfl rfl func40 (resultsC_tmp (by rfl) _) ?_;exact hc _ _ ⟨by simp[bu,k1,k2,k3,k4,pJ,jM],kp⟩
   |true=>
    iterate 3 (refine F.ak ?_;try walk_nrm)
    refine F.ol rfl rfl rfl fun d K h=>?_;go_simp;refine h _ (fun e m=>?_) ?_;simp[go_sem, *] at m;subst m;exact ff (w:=w1) (by assumption) (by first|assumption|(apply b8<;>dsimp only<;>omega));clear h K d;try walk_nrm
    refine F.enter rfl rfl (by decide) (fun _=>run_call_body rfl func57 (by rfl) (by rfl)) (fun _=>events_call_body rfl func57 (by rfl) (by rfl) _) ?_;walk_nrm;refine b7 1 c 100 _ _ F _ _ (fun v wq hp=>?_);obtain⟨rfl,hq⟩:=hp;have hq:=hq.symm;subst hq;rw[Frame.finish_at];try walk_nrm
    cases fK:gF 1 c 100 with
    |false=>
     iterate 2 (refine F.ak ?_;try walk_nrm)
     refine F.bq ?_;try walk_nrm
     refine F.bq ?_;try walk_nrm
     refine F.bq ?_;try walk_nrm
     iterate 2 (refine F.ak ?_;try walk_nrm)
     refine F.bq ?_;try walk_nrm
     refine F.bq ?_;try walk_nrm
     refine F.bq ?_;try walk_nrm
     iterate 2 (refine F.ak ?_;try walk_nrm)
     refine F.re ?_;refine F.ctl (fun _=>stepG_ret') ?_;refine F.aF rfl rfl func40 (resultsC_tmp (by rfl) _) ?_;exact hc _ _ ⟨by simp[bu,k1,k2,k3,k4,pJ,jM,fK],kp⟩
    |true=>
     iterate 3 (refine F.ak ?_;try walk_nrm)
     refine F.ol rfl rfl rfl fun d K h=>?_;go_simp;refine h _ (fun e m=>?_) ?_;simp[go_sem, *] at m;subst m;exact ff (w:=w1) (by assumption) (by first|assumption|(apply b8<;>dsimp only<;>omega));clear h K d;try walk_nrm
     refine F.enter rfl rfl (by decide) (fun _=>run_call_body rfl func57 (by rfl) (by rfl)) (fun _=>events_call_body rfl func57 (by rfl) (by rfl) _) ?_;walk_nrm;refine b7 0 d 1000 _ _ F _ _ (fun v wq hp=>?_);obtain⟨rfl,hq⟩:=hp;have hq:=hq.symm;subst hq;rw[Frame.finish_at];try walk_nrm
     cases uw:gF 0 d 1000 with
     |false=>
      iterate 2 (refine F.ak ?_;try walk_nrm)
      refine F.bq ?_;try walk_nrm
      refine F.bq ?_;try walk_nrm
      refine F.bq ?_;try walk_nrm
      iterate 2 (refine F.ak ?_;try walk_nrm)
      refine F.re ?_;refine F.ctl (fun _=>stepG_ret') ?_;refine F.aF rfl rfl func40 (resultsC_tmp (by rfl) _) ?_;exact hc _ _ ⟨by simp[bu,k1,k2,k3,k4,pJ,jM,fK,uw],kp⟩
     |true=>
      iterate 3 (refine F.ak ?_;try walk_nrm)
      refine F.ol rfl rfl rfl fun d K h=>?_;go_simp;refine h _ (fun e m=>?_) ?_;simp[go_sem, *] at m;subst m;exact ff (w:=w1) (by assumption) (by first|assumption|(apply b8<;>dsimp only<;>omega));clear h K d;try walk_nrm
      refine F.enter rfl rfl (by decide) (fun _=>run_call_body rfl func57 (by rfl) (by rfl)) (fun _=>events_call_body rfl func57 (by rfl) (by rfl) _) ?_;walk_nrm;refine b7 1 e 9 _ _ F _ _ (fun v wq hp=>?_);obtain⟨rfl,hq⟩:=hp;have hq:=hq.symm;subst hq;rw[Frame.finish_at];try walk_nrm
      cases L8:gF 1 e 9 with
      |false=>
       iterate 2 (refine F.ak ?_;try walk_nrm)
       refine F.re ?_;refine F.ctl (fun _=>stepG_ret') ?_;refine F.aF rfl rfl func40 (resultsC_tmp (by rfl) _) ?_;exact hc _ _ ⟨by simp[bu,k1,k2,k3,k4,pJ,jM,fK,uw,L8],kp⟩
      |true=>
       iterate 2 (refine F.ak ?_;try walk_nrm)
       refine F.re ?_;refine F.ctl (fun _=>stepG_ret') ?_;refine F.aF rfl rfl func40 (resultsC_tmp (by rfl) _) ?_;exact hc _ _ ⟨by simp[bu,k1,k2,k3,k4,pJ,jM,fK,uw,L8],kp⟩
 have e4:(k==4)=false:=by simpa using k4
 refine F.bh ?_;iterate 2 (refine F.ak ?_;try walk_nrm)
 refine F.re ?_;refine F.cf rfl ?_
 by_cases k5:k=5
 ·refine F.ctl (fun _=>stepG_seq) ?_
  refine F.nJ ?_;iterate 2 (refine F.ak ?_;try walk_nrm)
  refine F.re ?_;refine F.ct rfl ?_;refine F.bh ?_;refine F.ak ?_;try walk_nrm
  refine F.ol rfl rfl rfl fun d K h=>?_;go_simp;refine h _ (fun e m=>?_) ?_;simp[go_sem, *] at m;subst m;exact ff (w:=w1) (by assumption) (by first|assumption|(apply b8<;>dsimp only<;>omega));clear h K d;try walk_nrm
  refine F.enter rfl rfl (by decide) (fun _=>run_call_body rfl func57 (by rfl) (by rfl)) (fun _=>events_call_body rfl func57 (by rfl) (by rfl) _) ?_;walk_nrm;refine b7 1 a 9 _ _ F _ _ (fun v wq hp=>?_);obtain⟨rfl,hq⟩:=hp;have hq:=hq.symm;subst hq;rw[Frame.finish_at];try walk_nrm
  cases pJ:gF 1 a 9 with
  |false=>
   refine F.ak ?_;try walk_nrm
   refine F.bq ?_;try walk_nrm
   refine F.bq ?_;try walk_nrm
   refine F.bq ?_;try walk_nrm
   iterate 2 (refine F.ak ?_;try walk_nrm)
   refine F.re ?_;refine F.ctl (fun _=>stepG_ret') ?_;refine F.aF rfl rfl func40 (resultsC_tmp (by rfl) _) ?_;exact hc _ _ ⟨by simp[bu,k1,k2,k3,k4,k5,pJ],kp⟩
  |true=>
   iterate 2 (refine F.ak ?_;try walk_nrm)
   refine F.ol rfl rfl rfl fun d K h=>?_;go_simp;refine h _ (fun e m=>?_) ?_;simp[go_sem, *] at m;subst m;exact ff (w:=w1) (by assumption) (by first|assumption|(apply b8<;>dsimp only<;>omega));clear h K d;try walk_nrm
   refine F.enter rfl rfl (by decide) (fun _=>run_call_body rfl func57 (by rfl) (by rfl)) (fun _=>events_call_body rfl func57 (by rfl) (by rfl) _) ?_;walk_nrm;refine b7 0 b 1000 _ _ F _ _ (fun v wq hp=>?_);obtain⟨rfl,hq⟩:=hp;have hq:=hq.symm;subst hq;rw[Frame.finish_at];try walk_nrm
   cases jM:gF 0 b 1000 with
   |false=>
    iterate 2 (refine F.ak ?_;try walk_nrm)
    refine F.re ?_;refine F.ctl (fun _=>stepG_ret') ?_;refine F.aF rfl rfl func40 (resultsC_tmp (by rfl) _) ?_;exact hc _ _ ⟨by simp[bu,k1,k2,k3,k4,k5,pJ,jM],kp⟩
   |true=>
    iterate 2 (refine F.ak ?_;try walk_nrm)
    refine F.re ?_;refine F.ctl (fun _=>stepG_ret') ?_;refine F.aF rfl rfl func40 (resultsC_tmp (by rfl) _) ?_;exact hc _ _ ⟨by simp[bu,k1,k2,k3,k4,k5,pJ,jM],kp⟩
 have e5:(k==5)=false:=by simpa using k5
 refine F.bh ?_;iterate 2 (refine F.ak ?_;try walk_nrm)
 refine F.re ?_;refine F.cf rfl ?_
 by_cases k6:k=6
 ·refine F.ctl (fun _=>stepG_seq) ?_
  refine F.nJ ?_;iterate 2 (refine F.ak ?_;try walk_nrm)
  refine F.re ?_;refine F.ct rfl ?_;refine F.bh ?_;refine F.ak ?_;try walk_nrm
  refine F.ol rfl rfl rfl fun d K h=>?_;go_simp;refine h _ (fun e m=>?_) ?_;simp[go_sem, *] at m;subst m;exact ff (w:=w1) (by assumption) (by first|assumption|(apply b8<;>dsimp only<;>omega));clear h K d;try walk_nrm
  refine F.enter rfl rfl (by decide) (fun _=>run_call_body rfl func57 (by rfl) (by rfl)) (fun _=>events_call_body rfl func57 (by rfl) (by rfl) _) ?_;walk_nrm;refine b7 1 a 1000 _ _ F _ _ (fun v wq hp=>?_);obtain⟨rfl,hq⟩:=hp;have hq:=hq.symm;subst hq;rw[Frame.finish_at];try walk_nrm
  refine F.ak ?_;try walk_nrm
  refine F.re ?_;refine F.ctl (fun _=>stepG_ret') ?_;refine F.aF rfl rfl func40 (resultsC_tmp (by rfl) _) ?_;exact hc _ _ ⟨by simp[bu,k1,k2,k3,k4,k5,k6],kp⟩
 have e6:(k==6)=false:=by simpa using k6
 refine F.bh ?_;iterate 2 (refine F.ak ?_;try walk_nrm)
 refine F.re ?_;refine F.cf rfl ?_;refine F.sk ?_;refine F.ib ?_;refine F.bh ?_;refine F.ak ?_;try walk_nrm
 refine F.re ?_;refine F.ctl (fun _=>stepG_ret') ?_;refine F.aF rfl rfl func40 (resultsC_tmp (by rfl) _) ?_;exact hc _ _ ⟨by simp[bu,k1,k2,k3,k4,k5,k6],kp⟩
end Go.Proofs.YtobagnjnbmgidaaGreatDoor
