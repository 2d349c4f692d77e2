import Derived.Test.YtobagnjnbmgidaaGreatDoorX41
set_option linter.all false
set_option maxHeartbeats 8000000
set_option maxRecDepth 100000
namespace Go.Proofs.YtobagnjnbmgidaaGreatDoor
open Go.Conc Go.RowKit Tryz
def iF(A:Nat):rR:=⟨⟨A,5,none⟩,⟨A,6,none⟩,by simp⟩
theorem Gy{m x:Nat}(x2:x<2)(h:x=0∨0<m):(m=0∧x=0)∨(((m:Int)<0)=False∧(0<(m:Int))=True∧(x=0∨x=1)):=by
 by_cases hm:m=0
 ·exact .inl ⟨hm,by omega⟩
 ·refine .inr ⟨?_,?_,by omega⟩
  ·exact propext ⟨fun h=>by omega,fun h=>h.elim⟩
  ·exact propext ⟨fun _=>trivial,fun _=>by omega⟩
theorem o8(c:Frame)(cs:List Frame)(T:Array Value)(todo:List Item)(hq:∃n,QuitsD prog n 0 (G (c.finish (.tuple #[])) cs)):∃n,QuitsD prog n 1 (G {(base 88).at ⟨T,[dcall 68 #[]]⟩ todo with mode:=.returning} (c::cs)):=by
 have F:=o9 (P:=prog) 0
 have h1:∃n,QuitsD prog n 0 (G {(base 88).at ⟨T,[]⟩ todo with mode:=.returning} (c::cs)):=by
  refine F.aF rfl rfl func88 (resultsC_none (by rfl) _) ?_;exact hq
 obtain⟨n,h1⟩:=h1;exact⟨n+1,QuitsD.unwind_mark .enable rfl (by simp) rfl func68 (by rfl) (by kernel_rfl) (by kernel_rfl) (by kernel_rfl) h1⟩
theorem EG{K:World→Prop}(A:Nat)(Em:∀w,K w→∃v,w.cell? ⟨A,5,none⟩=some v)(c:Frame)(cs:List Frame)(gJ:∃n,QuitsD prog n 0 (G (c.finish (.tuple #[])) cs)):
 ∃n,DP prog K (iF A) n 0 (G (Frame.enter prog 88 #[.pointer (some ⟨A,5,none⟩),.int .i64 (-1)] .normal) (c::cs)):=by
 have F:=td (P:=prog) (K:=K) (Gp:=iF A) 0;have w1:IntKind.u64.wrap (-1)=18446744073709551615:=by decide
 have w2:IntKind.u64.wrap 79228162514264337589248983040=18446744069414584320:=by decide
 have w3:IntKind.i32.wrap 0=0:=by decide
 have w4:IntKind.u32.wrap 0=0:=by decide
 have w5:IntKind.u32.wrap 1=1:=by decide
 have w6:IntKind.u64.wrap 0=0:=by decide
 have w7:IntKind.i32.wrap (-1)=-1:=by decide
 have n3:=kN;have n4:=gW;have n5:=uL;have n6:=rI;rw[enter_at _ func88 rfl];simp only[ntmps88,mV,Nat.reduceAdd,Nat.reduceSub];refine F.sq ?_;refine F.ct rfl ?_;refine F.sq ?_;refine F.bh ?_;iterate 2 (refine F.ak ?_;try walk_nrm)
 refine F.re ?_;refine F.ct rfl ?_;refine F.nJ ?_;refine F.ak ?_;try walk_nrm
 apply F.xT rfl rfl (by decide)
 ·intro w hw
  obtain⟨v,hv⟩:=Em w hw;simp[go_sem,Bi hv]
 ·intro w hw
  obtain⟨v,hv⟩:=Em w hw;go_simp;simp only[HX hv];go_simp
  first|exact⟨rfl,rfl⟩|exact rfl
 try walk_nrm
 refine OS rfl (fun w hw=>stepG_markAt .releaseMerge (by simp) rfl rfl (by decide) rfl func104 (by rfl) (by kernel_rfl) (by kernel_rfl) (by kernel_rfl) (ad:=⟨A,5,none⟩) (by simp[Act.eval])) ?_;walk_nrm;clear F;have F:=td (P:=prog) (K:=K) (Gp:=iF A) 1;refine F.cI ?_;refine Be rfl (fun w hw=>stepG_mark0 .disable (by simp) rfl rfl (by decide) rfl func66 (by rfl) (by kernel_rfl) (by kernel_rfl) (by kernel_rfl)) ?_;walk_nrm;clear F;have F:=td (P:=prog) (K:=K) (Gp:=iF A) 2;refine F.Ey ?_;refine F.ctl (fun _=>stepG_defer rfl rfl (by decide) rfl) ?_;walk_nrm;refine F.cI ?_;refine F.ak ?_;try walk_nrm
 refine F.es ?_;refine F.bh ?_;refine F.ctl (fun _=>stepG_entry_pure (.bool false) rfl rfl (by decide) rfl func74 (by rfl) (by kernel_rfl) (by kernel_rfl) (by kernel_rfl)) ?_;walk_nrm;refine F.re ?_;refine F.cf rfl ?_;refine F.sk ?_;refine F.bh ?_;iterate 6 (refine F.ak ?_;try walk_nrm)
 refine F.enter rfl rfl (by decide) (fun _=>run_call_body rfl func108 (by rfl) (by rfl)) (fun _=>events_call_body rfl func108 (by rfl) (by rfl) _) ?_;walk_nrm;rw[enter_at _ func108 rfl];simp only[ntmps108,mV,Nat.reduceAdd,Nat.reduceSub];refine F.bh ?_;refine F.ak ?_;try walk_nrm
 refine F.cI ?_;iterate 4 (refine F.ak ?_;try walk_nrm)
 apply OT rfl
 ·intro m x m9 x2 Wz
  refine⟨?g,?h1,?h2⟩
  case h1=>
   intro w hw hn;rw[stepG_add_atomic (w:=w) (ad:=⟨A,5,none⟩) (v:=gv (m+1) x) (d:=18446744069414584320) rfl rfl (by decide) rfl func122 (by rfl) (by kernel_rfl) (by kernel_rfl) .u64 (by kernel_rfl) rfl rfl hn.1 hn.2,OC m x m9 x2]
   rfl
  walk_nrm;obtain⟨f1,f2⟩:=xw m x (Nat.lt_succ_of_lt m9) x2;have f3:=HC m x (Nat.lt_succ_of_lt m9) x2;clear F;have F:=o9 (P:=prog) 1;rcases Gy x2 Wz with ⟨rfl,rfl⟩|⟨y1,y2,hx⟩
  ·rw[show gv 0 0=0 from rfl]
   clear f1 f2 f3;refine F.ak ?_;try walk_nrm
   refine F.re ?_;refine F.ctl (fun _=>stepG_ret') ?_;refine F.aF rfl rfl func108 (resultsC_tmp (by rfl) _) ?_;rw[Frame.finish_at];try walk_nrm
   refine F.ak ?_;try walk_nrm
   refine F.es ?_;refine F.bh ?_;iterate 4 (refine F.ak ?_;try walk_nrm)
   refine F.bq ?_;try walk_nrm
   refine F.bq ?_;try walk_nrm
   refine F.ak ?_;try walk_nrm
   refine F.re ?_;refine F.cf rfl ?_;refine F.sk ?_;refine F.bh ?_;iterate 4 (refine F.ak ?_;try walk_nrm)
   refine F.cI ?_;iterate 4 (refine F.ak ?_;try walk_nrm)
   refine F.es ?_;refine F.bh ?_;iterate 5 (refine F.ak ?_;try walk_nrm)
   refine F.bq ?_;try walk_nrm
   refine F.bq ?_;try walk_nrm
   refine F.bq ?_;try walk_nrm
   refine F.bq ?_;try walk_nrm
   refine F.ak ?_;try walk_nrm
   refine F.re ?_;refine F.cf rfl ?_;refine F.sk ?_;refine F.sq ?_;refine F.bh ?_;iterate 2 (refine F.ak ?_;try walk_nrm)
   refine F.re ?_;refine F.cf rfl ?_;refine F.sk ?_;refine F.sq ?_;refine F.bh ?_;iterate 3 (refine F.ak ?_;try walk_nrm)
   refine F.bq ?_;try walk_nrm
   refine F.bq ?_;try walk_nrm
   iterate 2 (refine F.ak ?_;try walk_nrm)
   refine F.bq ?_;try walk_nrm
   refine F.bq ?_;try walk_nrm
   refine F.bq ?_;try walk_nrm
   refine F.bq ?_;try walk_nrm
   refine F.ak ?_;try walk_nrm
   refine F.re ?_;refine F.cf rfl ?_;refine F.sk ?_;refine F.sq ?_;refine F.bh ?_;iterate 6 (refine F.ak ?_;try walk_nrm)
   refine F.re ?_;refine F.ct rfl ?_;refine F.ctl (fun _=>stepG_ret') ?_;exact o8 _ _ _ _ gJ
  generalize gv m x=s at f1 f2 f3 ⊢;generalize (m:Int)=y at f3 y1 y2;rcases hx with rfl|rfl
  ·replace f2:bits .and .u64 s 2147483647=0:=f2
   refine F.ak ?_;try walk_nrm
   refine F.re ?_;refine F.ctl (fun _=>stepG_ret') ?_;refine F.aF rfl rfl func108 (resultsC_tmp (by rfl) _) ?_;rw[Frame.finish_at];try walk_nrm
   refine F.ak ?_;try walk_nrm
   refine F.es ?_;refine F.bh ?_;iterate 4 (refine F.ak ?_;try walk_nrm)
   refine F.bq ?_;try walk_nrm
   refine F.bq ?_;try walk_nrm
   refine F.ak ?_;try walk_nrm
   refine F.re ?_;refine F.cf rfl ?_;refine F.sk ?_;refine F.bh ?_;iterate 4 (refine F.ak ?_;try walk_nrm)
   refine F.cI ?_;iterate 4 (refine F.ak ?_;try walk_nrm)
   refine F.es ?_;refine F.bh ?_;iterate 5 (refine F.ak ?_;try walk_nrm)
   refine F.bq ?_;try walk_nrm
   refine F.bq ?_;try walk_nrm
   refine F.bq ?_;try walk_nrm
   refine F.bq ?_;try walk_nrm
   refine F.ak ?_;try walk_nrm
   refine F.re ?_;refine F.cf rfl ?_;refine F.sk ?_;refine F.sq ?_;refine F.bh ?_;iterate 2 (refine F.ak ?_;try walk_nrm)
   refine F.re ?_;refine F.cf rfl ?_;refine F.sk ?_;refine F.sq ?_;refine F.bh ?_;iterate 3 (refine F.ak ?_;try walk_nrm)
   refine F.bq ?_;try walk_nrm
   refine F.bq ?_;try walk_nrm
   iterate 2 (refine F.ak ?_;try walk_nrm)
   refine F.bq ?_;try walk_nrm
   refine F.bq ?_;try walk_nrm
   refine F.bq ?_;try walk_nrm
   refine F.bq ?_;try walk_nrm
   refine F.ak ?_;try walk_nrm
   refine F.re ?_;refine F.cf rfl ?_;refine F.sk ?_;refine F.sq ?_;refine F.bh ?_;iterate 3 (refine F.ak ?_;try walk_nrm)
   refine F.bq ?_;try walk_nrm
   refine F.bq ?_;try walk_nrm
   refine F.ak ?_;try walk_nrm
   refine F.re ?_;refine F.ct rfl ?_;refine F.ctl (fun _=>stepG_ret') ?_;exact o8 _ _ _ _ gJ
  ·replace f2:bits .and .u64 s 2147483647=1:=f2
   refine F.ak ?_;try walk_nrm
   refine F.re ?_;refine F.ctl (fun _=>stepG_ret') ?_;refine F.aF rfl rfl func108 (resultsC_tmp (by rfl) _) ?_;rw[Frame.finish_at];try walk_nrm
   refine F.ak ?_;try walk_nrm
   refine F.es ?_;refine F.bh ?_;iterate 4 (refine F.ak ?_;try walk_nrm)
   refine F.bq ?_;try walk_nrm
   refine F.bq ?_;try walk_nrm
   refine F.ak ?_;try walk_nrm
   refine F.re ?_;refine F.cf rfl ?_;refine F.sk ?_;refine F.bh ?_;iterate 4 (refine F.ak ?_;try walk_nrm)
   refine F.cI ?_;iterate 4 (refine F.ak ?_;try walk_nrm)
   refine F.es ?_;refine F.bh ?_;iterate 5 (refine F.ak ?_;try walk_nrm)
   refine F.bq ?_;try walk_nrm
   refine F.bq ?_;try walk_nrm
   refine F.bq ?_;try walk_nrm
   refine F.bq ?_;try walk_nrm
   refine F.ak ?_;try walk_nrm
   refine F.re ?_;refine F.cf rfl ?_;refine F.sk ?_;refine F.sq ?_;refine F.bh ?_;iterate 2 (refine F.ak ?_;try walk_nrm)
   refine F.re ?_;refine F.cf rfl ?_;refine F.sk ?_;refine F.sq ?_;refine F.bh ?_;iterate 7 (refine F.ak ?_;try walk_nrm)
   refine F.bq ?_;try walk_nrm
   refine F.bq ?_;try walk_nrm
   refine F.bq ?_;try walk_nrm
   refine F.bq ?_;try walk_nrm
   refine F.ak ?_;try walk_nrm
   refine F.re ?_;refine F.cf rfl ?_;refine F.sk ?_;refine F.sq ?_;refine F.bh ?_;iterate 3 (refine F.ak ?_;try walk_nrm)
   refine F.bq ?_;try walk_nrm
   refine F.bq ?_;try walk_nrm
   refine F.ak ?_;try walk_nrm
   refine F.re ?_;refine F.ct rfl ?_;refine F.ctl (fun _=>stepG_ret') ?_;exact o8 _ _ _ _ gJ
 have g1:gv 1 1=4294967297:=rfl;have g2:gv 0 1=1:=rfl;have g3:gv 0 0=0:=rfl;have e1:IntKind.u64.wrap (4294967297+18446744069414584320)=1:=by decide
 refine⟨?g2,?k1,?k2⟩
 case k1=>
  intro w hw hn;rw[g1] at hn;rw[stepG_add_atomic (w:=w) (ad:=⟨A,5,none⟩) (v:=4294967297) (d:=18446744069414584320) rfl rfl (by decide) rfl func122 (by rfl) (by kernel_rfl) (by kernel_rfl) .u64 (by kernel_rfl) rfl rfl hn.1 hn.2,e1]
  rfl
 walk_nrm;try simp only[e1]
 clear g1 e1;clear F;have F:=td (P:=prog) (K:=K) (Gp:=iF A) 3;refine F.ak ?_;try walk_nrm
 refine F.re ?_;refine F.ctl (fun _=>stepG_ret') ?_;refine F.aF rfl rfl func108 (resultsC_tmp (by rfl) _) ?_;try rw[g2]
 rw[Frame.finish_at];try walk_nrm
 refine F.ak ?_;try walk_nrm
 refine F.es ?_;refine F.bh ?_;iterate 4 (refine F.ak ?_;try walk_nrm)
 refine F.bq ?_;try walk_nrm
 refine F.bq ?_;try walk_nrm
 refine F.ak ?_;try walk_nrm
 refine F.re ?_;refine F.cf rfl ?_;refine F.sk ?_;refine F.bh ?_;iterate 4 (refine F.ak ?_;try walk_nrm)
 refine F.cI ?_;iterate 4 (refine F.ak ?_;try walk_nrm)
 refine F.es ?_;refine F.bh ?_;iterate 5 (refine F.ak ?_;try walk_nrm)
 refine F.bq ?_;try walk_nrm
 refine F.bq ?_;try walk_nrm
 refine F.bq ?_;try walk_nrm
 refine F.bq ?_;try walk_nrm
 refine F.ak ?_;try walk_nrm
 refine F.re ?_;refine F.cf rfl ?_;refine F.sk ?_;refine F.sq ?_;refine F.bh ?_;iterate 2 (refine F.ak ?_;try walk_nrm)
 refine F.re ?_;refine F.cf rfl ?_;refine F.sk ?_;refine F.sq ?_;refine F.bh ?_;iterate 7 (refine F.ak ?_;try walk_nrm)
 refine F.bq ?_;try walk_nrm
 refine F.bq ?_;try walk_nrm
 refine F.bq ?_;try walk_nrm
 refine F.bq ?_;try walk_nrm
 refine F.ak ?_;try walk_nrm
 refine F.re ?_;refine F.cf rfl ?_;refine F.sk ?_;refine F.sq ?_;refine F.bh ?_;iterate 6 (refine F.ak ?_;try walk_nrm)
 refine F.re ?_;refine F.cf rfl ?_;refine F.sk ?_;refine F.sq ?_;refine F.bh ?_;iterate 3 (refine F.ak ?_;try walk_nrm)
 refine F.enter rfl rfl (by decide) (fun _=>run_call_body rfl func67 (by rfl) (by rfl)) (fun _=>events_call_body rfl func67 (by rfl) (by rfl) _) ?_;walk_nrm;rw[enter_at _ func67 rfl];simp only[ntmps67,mV,Nat.reduceAdd,Nat.reduceSub];refine F.bh ?_;refine F.ak ?_;try walk_nrm
 refine F.cI ?_;iterate 3 (refine F.ak ?_;try walk_nrm)
 refine KB rfl (fun w hw hn=>stepG_load_atomic (ad:=⟨A,5,none⟩) (v:=1) rfl rfl (by decide) rfl func96 (by rfl) (by kernel_rfl) (by kernel_rfl) .u64 (by kernel_rfl) rfl hn.1) ?_;walk_nrm;clear F;have F:=td (P:=prog) (K:=K) (Gp:=iF A) 4;refine F.ak ?_;try walk_nrm
 refine F.re ?_;refine F.ctl (fun _=>stepG_ret') ?_;refine F.aF rfl rfl func67 (resultsC_tmp (by rfl) _) ?_;rw[Frame.finish_at];try walk_nrm
 iterate 2 (refine F.ak ?_;try walk_nrm)
 refine F.re ?_;refine F.cf rfl ?_;refine F.sk ?_;refine F.bh ?_;iterate 3 (refine F.ak ?_;try walk_nrm)
 refine F.enter rfl rfl (by decide) (fun _=>run_call_body rfl func110 (by rfl) (by rfl)) (fun _=>events_call_body rfl func110 (by rfl) (by rfl) _) ?_;walk_nrm;rw[enter_at _ func110 rfl];simp only[ntmps110,mV,Nat.reduceAdd,Nat.reduceSub];refine F.nJ ?_;iterate 4 (refine F.ak ?_;try walk_nrm)
 refine HS rfl (fun w hw hn=>stepG_store_atomic (ad:=⟨A,5,none⟩) (k:=.u64) (v:=0) rfl rfl (by decide) rfl func123 (by rfl) (by kernel_rfl) (by kernel_rfl) (by kernel_rfl) rfl rfl hn.1 hn.2) ?_;walk_nrm;clear F;have F:=td (P:=prog) (K:=K) (Gp:=iF A) 5;refine F.re ?_;refine F.ctl (fun _=>stepG_end) ?_;refine F.aF rfl rfl func110 (resultsC_none (by rfl) _) ?_;rw[Frame.finish_at];try walk_nrm
 refine F.es ?_;refine F.bh ?_;refine F.ak ?_;try walk_nrm
 refine F.re ?_;refine F.cf rfl ?_;refine F.sk ?_;refine F.bl ?_;refine F.ctl (fun _=>stepG_loop) ?_;refine F.sq ?_;refine F.bh ?_;iterate 2 (refine F.ak ?_;try walk_nrm)
 refine F.re ?_;refine F.ct rfl ?_;refine F.sk ?_;refine F.sq ?_;refine F.bl ?_;refine F.nJ ?_;iterate 3 (refine F.ak ?_;try walk_nrm)
 refine EF rfl (by kernel_rfl) rfl (fun w hw hn=>stepG_semrelease (ad:=⟨A,6,none⟩) (n:=0) rfl rfl (by decide) rfl func111 (by rfl) (by kernel_rfl) (by kernel_rfl) (by kernel_rfl) (by simp[Act.eval]) hn.1 hn.2) ?_;walk_nrm;clear F;have F:=o9 (P:=prog) 1;refine F.re ?_;refine F.ib ?_;refine F.nJ ?_;iterate 3 (refine F.ak ?_;try walk_nrm)
 refine F.re ?_;refine F.ctl (fun _=>stepG_inLoop) ?_;refine F.sq ?_;refine F.bh ?_;iterate 2 (refine F.ak ?_;try walk_nrm)
 refine F.re ?_;refine F.cf rfl ?_;refine F.ctl (fun _=>stepG_exit rfl) ?_;refine F.ctl (fun _=>stepG_end) ?_;exact o8 _ _ _ _ gJ
end Go.Proofs.YtobagnjnbmgidaaGreatDoor
