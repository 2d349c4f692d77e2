import Derived.Test.YtobagnjnbmgidaaGreatDoorM8
set_option linter.all false
set_option maxHeartbeats 8000000
set_option maxRecDepth 100000
namespace Go.Proofs.YtobagnjnbmgidaaGreatDoor
open Go.Conc Go.RowKit Tryz
def NC(f:Func):Code:=match f.body with|some (.seq _ (.block _ (.loop b)))=>b|_=>.skip
theorem Oz{m:Nat}(h:0<m):((m:Int)==0)=false:=by simp;omega
theorem SY{m m':Nat}(h:m'<m):gv m' 0≠gv m 0:=fun e=>by unfold gv at e;omega
theorem D8{K:World→Prop}{Shun:Loc→Prop}{B:Nat}{Anchor:Goroutine→Prop}(A:Nat)(Em:∀w,K w→∃v,w.cell? ⟨A,5,none⟩=some v)(PU:∀w,K w→∃v,w.cell? ⟨A,6,none⟩=some v)(c:Frame)(cs:List Frame)(gJ:∀k,∃n,WS prog K Shun B (iF A) Anchor k n 8 (G (c.finish (.tuple #[])) cs))(k:Nat):k≤9→∀y1 y2 y3 y4 y5 y6 y7 y8 y9 DK DJ DI DG DF DE DD DC Dz Dy Dx Dw Dv Du Dt Ds Dr Dq Dn Dm Dl Dk Di Dh Dg IX IW IV IU IQ IP IM Zb Za Y9 Y8 Y7 Y6 Y5 Y4 Y3 Y2 Y1 Y0 YZ YY YX YW YV YU YT YS YR YQ YP YO YN YM YL YK YJ YI YH YG YF YE YD YC YB YA Yz Yy Yx Yw:Value,
 ∃n,WS prog K Shun B (iF A) Anchor k n 1 (G ((base 56).at ⟨List.toArray (.pointer (some ⟨A,5,none⟩)::y1::y2::y3::y4::y5::y6::y7::y8::y9::DK::DJ::DI::DG::DF::DE::DD::DC::Dz::Dy::Dx::Dw::Dv::Du::Dt::Ds::Dr::Dq::Dn::Dm::Dl::Dk::Di::Dh::Dg::IX::IW::IV::IU::IQ::IP::IM::Zb::Za::Y9::Y8::Y7::Y6::Y5::Y4::Y3::Y2::Y1::Y0::YZ::YY::YX::YW::YV::YU::YT::YS::YR::YQ::YP::YO::YN::YM::YL::YK::YJ::YI::YH::YG::YF::YE::YD::YC::YB::YA::Yz::Yy::Yx::Yw::[]),[]⟩ [.code (NC f56),.inLoop (NC f56),.inBlock 0]) (c::cs)):=by
 induction k using Nat.strongRecOn with
 |_ k ih=>
 intro hk y1 y2 y3 y4 y5 y6 y7 y8 y9 DK DJ DI DG DF DE DD DC Dz Dy Dx Dw Dv Du Dt Ds Dr Dq Dn Dm Dl Dk Di Dh Dg IX IW IV IU IQ IP IM Zb Za Y9 Y8 Y7 Y6 Y5 Y4 Y3 Y2 Y1 Y0 YZ YY YX YW YV YU YT YS YR YQ YP YO YN YM YL YK YJ YI YH YG YF YE YD YC YB YA Yz Yy Yx Yw;have F:=jc (P:=prog) (K:=K) (Shun:=Shun) (B:=B) (Gp:=iF A) (Anchor:=Anchor) k 1;have w4:IntKind.u32.wrap 0=0:=by decide
 have w5:IntKind.u64.wrap 0=0:=by decide
 have w6:IntKind.i32.wrap 0=0:=by decide
 have n3:=kN;have n4:=gW;simp only[NC,f56];refine F.bl ?_;refine F.bh ?_;iterate 3 (refine F.ak ?_;try walk_nrm)
 refine F.enter rfl rfl (by decide) (fun _=>run_call_body rfl func67 (by rfl) (by rfl)) (fun _=>events_call_body rfl func67 (by rfl) (by rfl) _) ?_;walk_nrm;rw[enter_at _ func67 rfl];simp only[ntmps67,mV,Nat.reduceAdd,Nat.reduceSub];refine F.bh ?_;refine F.ak ?_;try walk_nrm
 refine F.cI ?_;iterate 3 (refine F.ak ?_;try walk_nrm)
 apply I0 rfl
 ·intro m m0 mk
  have f3:=HC m 0 (Nat.lt_succ_of_le (Nat.le_trans mk hk)) (by decide);obtain⟨f1,f2⟩:=xw m 0 (Nat.lt_succ_of_le (Nat.le_trans mk hk)) (by decide);replace f2:bits .and .u64 (gv m 0) 2147483647=0:=f2;have f4:=OA m (Nat.lt_succ_of_le (Nat.le_trans mk hk));have f5:=Oz m0;refine⟨?g,?h1,?h2⟩
  case h1=>
   intro w hw hn;rw[stepG_load_atomic (w:=w) (ad:=⟨A,5,none⟩) (v:=gv m 0) rfl rfl (by decide) rfl func96 (by rfl) (by kernel_rfl) (by kernel_rfl) .u64 (by kernel_rfl) rfl hn.1]
   rfl
  walk_nrm;clear F;have F:=jc (P:=prog) (K:=K) (Shun:=Shun) (B:=B) (Gp:=iF A) (Anchor:=Anchor) k (100+m);refine F.ak ?_;try walk_nrm
  refine F.re ?_;refine F.ctl (fun _=>stepG_ret') ?_;refine F.aF rfl rfl func67 (resultsC_tmp (by rfl) _) ?_;rw[Frame.finish_at];try walk_nrm
  refine F.ak ?_;try walk_nrm
  refine F.cI ?_;iterate 4 (refine F.ak ?_;try walk_nrm)
  refine F.cI ?_;iterate 4 (refine F.ak ?_;try walk_nrm)
  refine F.es ?_;refine F.bh ?_;iterate 2 (refine F.ak ?_;try walk_nrm)
  refine F.re ?_;refine F.cf rfl ?_;refine F.sk ?_;refine F.bh ?_;iterate 6 (refine F.ak ?_;try walk_nrm)
  refine F.enter rfl rfl (by decide) (fun _=>run_call_body rfl func71 (by rfl) (by rfl)) (fun _=>events_call_body rfl func71 (by rfl) (by rfl) _) ?_;walk_nrm;rw[enter_at _ func71 rfl];simp only[ntmps71,mV,Nat.reduceAdd,Nat.reduceSub];refine F.bh ?_;refine F.ak ?_;try walk_nrm
  refine F.cI ?_;iterate 5 (refine F.ak ?_;try walk_nrm)
  refine IZ m0 mk rfl (fun w hw hn=>stepG_cas_hit (ad:=⟨A,5,none⟩) (v:=gv m 0) (n:=gv m 1) rfl rfl (by decide) rfl func97 (by rfl) (by kernel_rfl) (by kernel_rfl) .u64 (by kernel_rfl) rfl rfl rfl hn.1 hn.2) ?_ ?_
  rotate_left
  ·intro m' uR
   refine⟨?g2,?k1,?k2⟩
   case k1=>
    intro w hw hn;rw[stepG_cas_miss (w:=w) (ad:=⟨A,5,none⟩) (v:=gv m' 0) (old:=gv m 0) (n:=gv m 1) rfl rfl (by decide) rfl func97 (by rfl) (by kernel_rfl) (by kernel_rfl) .u64 (by kernel_rfl) rfl rfl rfl hn.1 hn.2 (SY uR)]
    rfl
   obtain⟨k',rfl⟩:∃k',k=k'+1:=⟨k-1,(Nat.sub_add_cancel (Nat.le_trans m0 mk)).symm⟩;refine(fun⟨n,h⟩=>⟨k',n,rfl,h⟩:(∃n,WS prog K Shun B (iF A) Anchor k' n 1 _)→_) ?_;walk_nrm;clear F;have F:=jc (P:=prog) (K:=K) (Shun:=Shun) (B:=B) (Gp:=iF A) (Anchor:=Anchor) k' 1;refine F.ak ?_;try walk_nrm
   refine F.re ?_;refine F.ctl (fun _=>stepG_ret') ?_;refine F.aF rfl rfl func71 (resultsC_tmp (by rfl) _) ?_;rw[Frame.finish_at];try walk_nrm
   refine F.re ?_;refine F.cf rfl ?_;refine F.sk ?_;refine F.ib ?_;refine F.ctl (fun _=>stepG_inLoop) ?_;exact ih k' (Nat.lt_succ_self _) (Nat.le_of_succ_le hk) _ _ _ _ _ _ _ _ _ _ _ _ _ _ _ _ _ _ _ _ _ _ _ _ _ _ _ _ _ _ _ _ _ _ _ _ _ _ _ _ _ _ _ _ _ _ _ _ _ _ _ _ _ _ _ _ _ _ _ _ _ _ _ _ _ _ _ _ _ _ _ _ _ _ _ _ _ _ _ _ _ _ _
  walk_nrm;clear F;have F:=jc (P:=prog) (K:=K) (Shun:=Shun) (B:=B) (Gp:=iF A) (Anchor:=Anchor) k 3;refine F.ak ?_;try walk_nrm
  refine F.re ?_;refine F.ctl (fun _=>stepG_ret') ?_;refine F.aF rfl rfl func71 (resultsC_tmp (by rfl) _) ?_;rw[Frame.finish_at];try walk_nrm
  refine F.re ?_;refine F.ct rfl ?_;refine F.sq ?_;refine F.bh ?_;iterate 4 (refine F.ak ?_;try walk_nrm)
  refine F.re ?_;refine F.ct rfl ?_;refine F.nJ ?_;iterate 3 (refine F.ak ?_;try walk_nrm)
  apply F.xT rfl rfl (by decide)
  ·intro w hw
   obtain⟨v,hv⟩:=PU w hw;simp[go_sem,HW hv]
  ·intro w hw
   obtain⟨v,hv⟩:=PU w hw;go_simp;simp only[Mn hv];go_simp
   first|exact⟨rfl,rfl⟩|exact rfl
  try walk_nrm
  refine Fy rfl (fun w hw=>stepG_markAt .write (by simp) rfl rfl (by decide) rfl func73 (by rfl) (by kernel_rfl) (by kernel_rfl) (by kernel_rfl) (ad:=⟨A,6,none⟩) (by simp[Act.eval])) ?_;walk_nrm;clear F;have F:=jc (P:=prog) (K:=K) (Shun:=Shun) (B:=B) (Gp:=iF A) (Anchor:=Anchor) k 4;refine F.cI ?_;refine F.ak ?_;try walk_nrm
  refine F.es ?_;refine F.bh ?_;iterate 4 (refine F.ak ?_;try walk_nrm)
  refine F.bq ?_;try walk_nrm
  refine F.ak ?_;try walk_nrm
  refine F.re ?_;refine F.cf rfl ?_;refine F.sk ?_;refine F.bh ?_;iterate 4 (refine F.ak ?_;try walk_nrm)
  refine MN rfl rfl (fun w hw hn=>stepG_semacquire (ad:=⟨A,6,none⟩) (n:=1) rfl rfl (by decide) rfl func75 (by rfl) (by kernel_rfl) (by kernel_rfl) (by kernel_rfl) (by simp[Act.eval]) hn.1 (by decide) hn.2) (fun w hw hn=>stepG_semacquire_wait (ad:=⟨A,6,none⟩) rfl rfl rfl func75 (by rfl) (by kernel_rfl) (by kernel_rfl) (by kernel_rfl) (by simp[Act.eval]) hn.1) ?_;walk_nrm;clear F;have F:=jc (P:=prog) (K:=K) (Shun:=Shun) (B:=B) (Gp:=iF A) (Anchor:=Anchor) k 5;refine F.cI ?_;iterate 3 (refine F.ak ?_;try walk_nrm)
  refine F.enter rfl rfl (by decide) (fun _=>run_call_body rfl func67 (by rfl) (by rfl)) (fun _=>events_call_body rfl func67 (by rfl) (by rfl) _) ?_;walk_nrm;rw[enter_at _ func67 rfl];simp only[ntmps67,mV,Nat.reduceAdd,Nat.reduceSub];refine F.bh ?_;refine F.ak ?_;try walk_nrm
  refine F.cI ?_;iterate 3 (refine F.ak ?_;try walk_nrm)
  refine Fz rfl (fun w hw hn=>stepG_load_atomic (ad:=⟨A,5,none⟩) (v:=0) rfl rfl (by decide) rfl func96 (by rfl) (by kernel_rfl) (by kernel_rfl) .u64 (by kernel_rfl) rfl hn.1) ?_;walk_nrm;clear F;have F:=jc (P:=prog) (K:=K) (Shun:=Shun) (B:=B) (Gp:=iF A) (Anchor:=Anchor) k 6;refine F.ak ?_;try walk_nrm
  refine F.re ?_;refine F.ctl (fun _=>stepG_ret') ?_;refine F.aF rfl rfl func67 (resultsC_tmp (by rfl) _) ?_;rw[Frame.finish_at];try walk_nrm
  iterate 2 (refine F.ak ?_;try walk_nrm)
  refine F.es ?_;refine F.ct rfl ?_;refine F.bh ?_;refine va rfl (fun w hw=>stepG_mark0 .enable (by simp) rfl rfl (by decide) rfl func68 (by rfl) (by kernel_rfl) (by kernel_rfl) (by kernel_rfl)) ?_;walk_nrm;clear F;have F:=jc (P:=prog) (K:=K) (Shun:=Shun) (B:=B) (Gp:=iF A) (Anchor:=Anchor) k 7;refine F.Ey ?_;refine F.ak ?_;try walk_nrm
  apply F.xT rfl rfl (by decide)
  ·intro w hw
   obtain⟨v,hv⟩:=Em w hw;simp[go_sem,Bi hv]
  ·intro w hw
   obtain⟨v,hv⟩:=Em w hw;go_simp;simp only[HX hv];go_simp
   first|exact⟨rfl,rfl⟩|exact rfl
  try walk_nrm
  refine sJ rfl (fun w hw=>stepG_markAt .acquire (by simp) rfl rfl (by decide) rfl func69 (by rfl) (by kernel_rfl) (by kernel_rfl) (by kernel_rfl) (ad:=⟨A,5,none⟩) (by simp[Act.eval])) ?_;walk_nrm;clear F;have F:=jc (P:=prog) (K:=K) (Shun:=Shun) (B:=B) (Gp:=iF A) (Anchor:=Anchor) k 8;refine F.es ?_;refine F.bh ?_;refine F.ak ?_;try walk_nrm
  refine F.re ?_;refine F.cf rfl ?_;refine F.sk ?_;refine F.ctl (fun _=>stepG_ret') ?_;refine F.aF rfl rfl func56 (resultsC_none (by rfl) _) ?_;exact gJ k
 refine⟨?g0,?j1,?j2⟩
 case j1=>
  intro w hw hn;rw[stepG_load_atomic (w:=w) (ad:=⟨A,5,none⟩) (v:=0) rfl rfl (by decide) rfl func96 (by rfl) (by kernel_rfl) (by kernel_rfl) .u64 (by kernel_rfl) rfl hn.1]
  rfl
 walk_nrm;clear F;have F:=jc (P:=prog) (K:=K) (Shun:=Shun) (B:=B) (Gp:=iF A) (Anchor:=Anchor) k 6;refine F.ak ?_;try walk_nrm
 refine F.re ?_;refine F.ctl (fun _=>stepG_ret') ?_;refine F.aF rfl rfl func67 (resultsC_tmp (by rfl) _) ?_;rw[Frame.finish_at];try walk_nrm
 refine F.ak ?_;try walk_nrm
 refine F.cI ?_;iterate 4 (refine F.ak ?_;try walk_nrm)
 refine F.cI ?_;iterate 4 (refine F.ak ?_;try walk_nrm)
 refine F.es ?_;refine F.bh ?_;iterate 2 (refine F.ak ?_;try walk_nrm)
 refine F.re ?_;refine F.ct rfl ?_;refine F.sq ?_;refine F.ct rfl ?_;refine F.bh ?_;refine va rfl (fun w hw=>stepG_mark0 .enable (by simp) rfl rfl (by decide) rfl func68 (by rfl) (by kernel_rfl) (by kernel_rfl) (by kernel_rfl)) ?_;walk_nrm;clear F;have F:=jc (P:=prog) (K:=K) (Shun:=Shun) (B:=B) (Gp:=iF A) (Anchor:=Anchor) k 7;refine F.Ey ?_;refine F.ak ?_;try walk_nrm
 apply F.xT rfl rfl (by decide)
 ·intro w hw
  obtain⟨v,hv⟩:=Em w hw;simp[go_sem,Bi hv]
 ·intro w hw
  obtain⟨v,hv⟩:=Em w hw;go_simp;simp only[HX hv];go_simp
  first|exact⟨rfl,rfl⟩|exact rfl
 try walk_nrm
 refine sJ rfl (fun w hw=>stepG_markAt .acquire (by simp) rfl rfl (by decide) rfl func69 (by rfl) (by kernel_rfl) (by kernel_rfl) (by kernel_rfl) (ad:=⟨A,5,none⟩) (by simp[Act.eval])) ?_;walk_nrm;clear F;have F:=jc (P:=prog) (K:=K) (Shun:=Shun) (B:=B) (Gp:=iF A) (Anchor:=Anchor) k 8;refine F.es ?_;refine F.bh ?_;iterate 8 (refine F.ak ?_;try walk_nrm)
 refine F.bq ?_;try walk_nrm
 refine F.bq ?_;try walk_nrm
 refine F.ak ?_;try walk_nrm
 refine F.re ?_;refine F.cf rfl ?_;refine F.sk ?_;refine F.ctl (fun _=>stepG_ret') ?_;refine F.aF rfl rfl func56 (resultsC_none (by rfl) _) ?_;exact gJ k
theorem DM{K:World→Prop}{Shun:Loc→Prop}{B:Nat}{Anchor:Goroutine→Prop}(A:Nat)(Em:∀w,K w→∃v,w.cell? ⟨A,5,none⟩=some v)(PU:∀w,K w→∃v,w.cell? ⟨A,6,none⟩=some v)(c:Frame)(cs:List Frame)(gJ:∀k,∃n,WS prog K Shun B (iF A) Anchor k n 8 (G (c.finish (.tuple #[])) cs))(k:Nat)(hk:k≤9):
 ∃n,WS prog K Shun B (iF A) Anchor k n 0 (G (Frame.enter prog 56 #[.pointer (some ⟨A,5,none⟩)] .normal) (c::cs)):=by
 have F:=jc (P:=prog) (K:=K) (Shun:=Shun) (B:=B) (Gp:=iF A) (Anchor:=Anchor) k 0;rw[enter_at _ func56 rfl];simp only[ntmps56,mV,Nat.reduceAdd,Nat.reduceSub];refine F.sq ?_;refine F.ct rfl ?_;refine F.nJ ?_;refine zS rfl (fun w hw=>stepG_mark0 .disable (by simp) rfl rfl (by decide) rfl func66 (by rfl) (by kernel_rfl) (by kernel_rfl) (by kernel_rfl)) ?_;walk_nrm;clear F;have F:=jc (P:=prog) (K:=K) (Shun:=Shun) (B:=B) (Gp:=iF A) (Anchor:=Anchor) k 1;refine F.re ?_;refine F.bl ?_;refine F.ctl (fun _=>stepG_loop) ?_;exact D8 A Em PU c cs gJ k hk _ _ _ _ _ _ _ _ _ _ _ _ _ _ _ _ _ _ _ _ _ _ _ _ _ _ _ _ _ _ _ _ _ _ _ _ _ _ _ _ _ _ _ _ _ _ _ _ _ _ _ _ _ _ _ _ _ _ _ _ _ _ _ _ _ _ _ _ _ _ _ _ _ _ _ _ _ _ _ _ _ _ _
theorem FH(m:Nat):m=0∨((((m+1:Nat):Int)==1)=false∧(((m+1:Nat):Int)<0)=False∧(0<((m+1:Nat):Int))=True):=by
 by_cases hm:m=0
 ·exact .inl hm
 ·refine .inr ⟨by simp;omega,propext ⟨fun h=>by omega,fun h=>h.elim⟩,propext ⟨fun _=>trivial,fun _=>by omega⟩⟩
theorem Pc{Post:Value→World→Prop}{K Q:World→Prop}{Shun:Loc→Prop}{St:Nat→Loc→Prop}{Inb:Nat→Option Seat}{D:World→World→Array Event→Prop}{L nb n:Nat}(A:Nat)(GG:GK K Shun (iF A))(gS:nb≤8)(hQ:∀w d,Q w→Q (w.at d))(F0:∀dl L nb,nb≤9→aC prog true D (gG prog Post K Q Shun St Inb (iF A) L nb 0 n dl))(LK:∀l,oI St (fun g=>(Inb g).isSome) l→¬Shun l)(Em:∀w,K w→∃v,w.cell? ⟨A,5,none⟩=some v)(PU:∀w,K w→∃v,w.cell? ⟨A,6,none⟩=some v)(c:Frame)(cs:List Frame)(w:World)(hn:gG prog Post K Q Shun St Inb (iF A) (L+1) (nb+1) 0 n 0 (G (c.finish (.tuple #[])) cs) w):
 gG prog Post K Q Shun St Inb (iF A) L nb 0 n 0 (G (Frame.enter prog 88 #[.pointer (some ⟨A,5,none⟩),.int .i64 1] .normal) (c::cs)) w:=by
 refine gG.assume GG fun Md _=>?_
 have J7:nb≤9:=Nat.le_succ_of_le gS;have rN:nb+1≤9:=Nat.succ_le_succ gS;obtain⟨v6,PE⟩:=PU w Md;obtain⟨v5,ZC⟩:=Em w Md;have XG:A<w.heap.size:=aq ZC;have UF:¬oI St (fun g=>(Inb g).isSome) (.cell ⟨A,5,none⟩):=fun z=>LK _ z GG.sh
 have cv1:∀d,(convert 182 178 (.pointer (some ⟨A,6,none⟩))).run prog (w.at d)=.ok (.pointer (some ⟨A,6,none⟩)) (w.at d):=fun d=>Mn (w:=w.at d) PE
 have cv2:∀d,(convert 182 178 (.pointer (some ⟨A,6,none⟩))).events prog (w.at d) #[]=#[]:=fun d=>HW (w:=w.at d) PE
 have F:=F0 0 L nb J7;have w1:IntKind.u64.wrap 1=1:=by decide
 have w2:IntKind.u64.wrap 4294967296=4294967296:=by decide
 have w3:IntKind.i32.wrap 1=1:=by decide
 have w4:IntKind.u32.wrap 0=0:=by decide
 have n1:=Q0;have n2:=yO;clear ZC PE;rw[enter_at _ func88 rfl];simp only[ntmps88,mV,Nat.reduceAdd,Nat.reduceSub];refine F.sq ?_;refine F.ct rfl ?_;refine F.sq ?_;refine F.bh ?_;iterate 2 (refine F.ak ?_;try walk_nrm)
 refine F.re ?_;refine F.cf rfl ?_;refine F.sk ?_;refine F.bh ?_;refine gG.mark GG J7 hQ rfl (fun w=>stepG_mark0 .disable (by simp) rfl rfl (by decide) rfl func66 (by rfl) (by kernel_rfl) (by kernel_rfl) (by kernel_rfl)) (dF (iG rfl trivial)) ?_;clear F;have F:=F0 1 L nb J7
 show gG _ _ _ _ _ _ _ _ _ _ _ _ 1 _ _
 walk_nrm;refine F.Ey ?_;refine F.ctl (fun _=>stepG_defer rfl rfl (by decide) rfl) ?_;walk_nrm;refine F.cI ?_;refine F.ak ?_;try walk_nrm
 refine F.es ?_;refine F.bh ?_;refine F.ctl (fun _=>stepG_entry_pure (.bool false) rfl rfl (by decide) rfl func74 (by rfl) (by kernel_rfl) (by kernel_rfl) (by kernel_rfl)) ?_;walk_nrm;refine F.re ?_;refine F.cf rfl ?_;refine F.sk ?_;refine F.bh ?_;iterate 6 (refine F.ak ?_;try walk_nrm)
 refine F.enter rfl rfl (by decide) (fun _=>run_call_body rfl func108 (by rfl) (by rfl)) (fun _=>events_call_body rfl func108 (by rfl) (by rfl) _) ?_;walk_nrm;rw[enter_at _ func108 rfl];simp only[ntmps108,mV,Nat.reduceAdd,Nat.reduceSub];refine F.bh ?_;refine F.ak ?_;try walk_nrm
 refine F.cI ?_;iterate 4 (refine F.ak ?_;try walk_nrm)
 refine gG.add (g':=?gg) (es:=#[⟨.cell ⟨A,5,none⟩,false,true⟩,⟨.cell ⟨A,5,none⟩,true,true⟩]) GG J7 rfl ?add1 (qE (dO (a:=⟨A,5,none⟩) UF XG) (dO (a:=⟨A,5,none⟩) UF XG)) ?aay
 case add1=>
  intro d m hm eU;have RU:=zR GG eU m;rw[stepG_add_atomic (w:=Wv (iF A) (w.at d) m) (ad:=⟨A,5,none⟩) (v:=gv m 0) (d:=4294967296) rfl rfl (by decide) rfl func122 (by rfl) (by kernel_rfl) (by kernel_rfl) .u64 (by kernel_rfl) rfl rfl RU.1 RU.2,OB m (Nat.lt_succ_of_le (Nat.le_trans hm gS))];rw[show(Wv (iF A) (w.at d) m).setCell ⟨A,5,none⟩ (.int .u64 (gv (m+1) 0))=Wv (iF A) (w.at d) (m+1) from set_set _ _ _ _]
 intro m hm;clear F;have F:=F0 1 (L+1) (nb+1) rN
 show gG _ _ _ _ _ _ _ _ _ _ _ _ 1 _ _
 walk_nrm;have R8:m+1<10:=Nat.succ_lt_succ (Nat.lt_succ_of_le (Nat.le_trans hm gS));rcases FH m with rfl|⟨y1,y2,y3⟩
 ·rw[show gv (0+1) 0=4294967296 from rfl]
  refine F.ak ?_;try walk_nrm
  refine F.re ?_;refine F.ctl (fun _=>stepG_ret') ?_;refine F.aF rfl rfl func108 (resultsC_tmp (by rfl) _) ?_;rw[Frame.finish_at];try walk_nrm
  refine F.ak ?_;try walk_nrm
  refine F.es ?_;refine F.bh ?_;iterate 4 (refine F.ak ?_;try walk_nrm)
  refine F.bq ?_;try walk_nrm
  refine F.bq ?_;try walk_nrm
  refine F.ak ?_;try walk_nrm
  refine F.re ?_;refine F.cf rfl ?_;refine F.sk ?_;refine F.bh ?_;iterate 4 (refine F.ak ?_;try walk_nrm)
  refine F.cI ?_;iterate 4 (refine F.ak ?_;try walk_nrm)
  refine F.es ?_;refine F.bh ?_;iterate 10 (refine F.ak ?_;try walk_nrm)
  refine F.re ?_;refine F.ct rfl ?_;refine F.nJ ?_;iterate 4 (refine F.oq rfl rfl rfl (fun _=>by first|(simp[go_sem];done)|simp[go_sem,Instr.makeInterface,Instr.makeFunc, *]) fun d K hK=>?_;go_simp;refine hK _ ?_;clear hK K d;try walk_nrm)
  refine gG.mark GG rN hQ rfl (fun w=>stepG_markAt .read (by simp) rfl rfl (by decide) rfl func109 (by rfl) (by kernel_rfl) (by kernel_rfl) (by kernel_rfl) (ad:=⟨A,6,none⟩) (by simp[Act.eval])) (dF ?_) ?_
  ·refine⟨fun x hx=>?_,XG⟩
   simp[MemAct.ofEvent,MemAct.touch?] at hx;subst hx;exact⟨fun _=>rfl,fun _=>⟨by simp,fun _=>rfl⟩⟩
  show gG _ _ _ _ _ _ _ _ _ _ _ _ 1 _ _
  walk_nrm;refine F.es ?_;refine F.bh ?_;iterate 2 (refine F.ak ?_;try walk_nrm)
  refine F.re ?_;refine F.cf rfl ?_;refine F.sk ?_;refine F.sq ?_;refine F.bh ?_;iterate 3 (refine F.ak ?_;try walk_nrm)
  refine F.bq ?_;try walk_nrm
  refine F.bq ?_;try walk_nrm
  iterate 2 (refine F.ak ?_;try walk_nrm)
  refine F.bq ?_;try walk_nrm
  refine F.bq ?_;try walk_nrm
  refine F.bq ?_;try walk_nrm
  refine F.bq ?_;try walk_nrm
  refine F.ak ?_;try walk_nrm
  refine F.re ?_;refine F.cf rfl ?_;refine F.sk ?_;refine F.sq ?_;refine F.bh ?_;iterate 3 (refine F.ak ?_;try walk_nrm)
  refine F.bq ?_;try walk_nrm
  refine F.bq ?_;try walk_nrm
  refine F.ak ?_;try walk_nrm
  refine F.re ?_;refine F.ct rfl ?_;refine F.ctl (fun _=>stepG_ret') ?_;refine gG.mark GG rN hQ rfl (fun w=>stepG_unwind_entry rfl func68 (by rfl) (by kernel_rfl) (by kernel_rfl) (e:=fun _=>do mark .enable;pure Extern.Race.none_) (by kernel_rfl) (v:=.tuple #[]) (evs:=#[⟨.mark .enable,false,true⟩]) (by simp[Extern.Race.none_]) (by simp) (by intro x hx;simp at hx;subst hx;exact⟨rfl,fun g h=>by cases h⟩)) (dF (iG rfl trivial)) ?_;clear F;have F:=F0 0 (L+1) (nb+1) rN
  show gG _ _ _ _ _ _ _ _ _ _ _ _ 0 _ _
  refine F.aF rfl rfl func88 (resultsC_none (by rfl) _) ?_;exact hn
 ·have f3:=HC (m+1) 0 R8 (by decide)
  obtain⟨f1,f2⟩:=xw (m+1) 0 R8 (by decide);generalize ((m+1:Nat):Int)=y at y1 y2 y3 f3;generalize gv (m+1) 0=s at f1 f2 f3 ⊢;replace f2:bits .and .u64 s 2147483647=0:=f2;refine F.ak ?_;try walk_nrm
  refine F.re ?_;refine F.ctl (fun _=>stepG_ret') ?_;refine F.aF rfl rfl func108 (resultsC_tmp (by rfl) _) ?_;rw[Frame.finish_at];try walk_nrm
  refine F.ak ?_;try walk_nrm
  refine F.es ?_;refine F.bh ?_;iterate 4 (refine F.ak ?_;try walk_nrm)
  refine F.bq ?_;try walk_nrm
  refine F.bq ?_;try walk_nrm
  refine F.ak ?_;try walk_nrm
  refine F.re ?_;refine F.cf rfl ?_;refine F.sk ?_;refine F.bh ?_;iterate 4 (refine F.ak ?_;try walk_nrm)
  refine F.cI ?_;iterate 4 (refine F.ak ?_;try walk_nrm)
  refine F.es ?_;refine F.bh ?_;iterate 10 (refine F.ak ?_;try walk_nrm)
  refine F.re ?_;refine F.cf rfl ?_;refine F.sk ?_;refine F.sq ?_;refine F.bh ?_;iterate 2 (refine F.ak ?_;try walk_nrm)
  refine F.re ?_;refine F.cf rfl ?_;refine F.sk ?_;refine F.sq ?_;refine F.bh ?_;iterate 3 (refine F.ak ?_;try walk_nrm)
  refine F.bq ?_;try walk_nrm
  refine F.bq ?_;try walk_nrm
  iterate 2 (refine F.ak ?_;try walk_nrm)
  refine F.bq ?_;try walk_nrm
  refine F.bq ?_;try walk_nrm
  refine F.bq ?_;try walk_nrm
  refine F.bq ?_;try walk_nrm
  refine F.ak ?_;try walk_nrm
  refine F.re ?_;refine F.cf rfl ?_;refine F.sk ?_;refine F.sq ?_;refine F.bh ?_;iterate 3 (refine F.ak ?_;try walk_nrm)
  refine F.bq ?_;try walk_nrm
  refine F.bq ?_;try walk_nrm
  refine F.ak ?_;try walk_nrm
  refine F.re ?_;refine F.ct rfl ?_;refine F.ctl (fun _=>stepG_ret') ?_;refine gG.mark GG rN hQ rfl (fun w=>stepG_unwind_entry rfl func68 (by rfl) (by kernel_rfl) (by kernel_rfl) (e:=fun _=>do mark .enable;pure Extern.Race.none_) (by kernel_rfl) (v:=.tuple #[]) (evs:=#[⟨.mark .enable,false,true⟩]) (by simp[Extern.Race.none_]) (by simp) (by intro x hx;simp at hx;subst hx;exact⟨rfl,fun g h=>by cases h⟩)) (dF (iG rfl trivial)) ?_;clear F;have F:=F0 0 (L+1) (nb+1) rN
  show gG _ _ _ _ _ _ _ _ _ _ _ _ 0 _ _
  refine F.aF rfl rfl func88 (resultsC_none (by rfl) _) ?_;exact hn
end Go.Proofs.YtobagnjnbmgidaaGreatDoor
