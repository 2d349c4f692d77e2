import Derived.Test.YtobagnjnbmgidaaGreatDoorX41
set_option linter.all false
set_option maxHeartbeats 0
set_option maxRecDepth 100000
namespace Go.Proofs.YtobagnjnbmgidaaGreatDoor
open Go.Conc Go.RowKit Tryz
variable{B m:Nat}{K:cF}{Shun:dr}{Anchor:kr}
def gU(A:Nat):qE:=⟨⟨A,5,none⟩,⟨A,6,none⟩,by simp⟩
theorem Gc{x:Nat}(b:x<2)(h:x=0\/0<m):(m=0/\x=0)\/(((m:Int)<0)=False/\(0<(m:Int))=True/\(x=0\/x=1)):=by
 by_cases a:m=0
 .exact .inl ⟨a,by omega⟩
 .refine .inr ⟨?_,?_,by omega⟩
  .exact propext ⟨λh=>by omega,λh=>h.elim⟩
  .exact propext ⟨λ_=>trivial,λ_=>by omega⟩
theorem og(c:aE)(cs:cW)(T:fW)(todo:eF)(b:∃n,QuitsD prog n 0 (G (c.finish (.tuple #[])) cs)):∃n,QuitsD prog n 1 (G {(base 88).at ⟨T,[dcall 68 #[]]⟩ todo with mode:=.returning} (c::cs)):=by
 have F:=om (P:=prog) 0
 have a:∃n,QuitsD prog n 0 (G {(base 88).at ⟨T,[]⟩ todo with mode:=.returning} (c::cs)):=by
  refine F.bJ rfl rfl func88 (resultsC_none (by rfl) _) ?_;exact b
 obtain⟨n,a⟩:=a;exact⟨n+1,QuitsD.unwind_mark .enable rfl (by simp) rfl func68 (by rfl) (by kernel_rfl) (by kernel_rfl) (by kernel_rfl) a⟩
theorem Ec(A:Nat)(f:∀w,K w->∃v,w.cell? ⟨A,5,none⟩=some v)(c:aE)(cs:cW)(b:∃n,QuitsD prog n 0 (G (c.finish (.tuple #[])) cs)):
 ∃n,DP prog K (gU A) n 0 (G (Frame.enter prog 88 #[.pointer (some ⟨A,5,none⟩),.int .i64 (-1)] .normal) (c::cs)):=by
 have F:=r8 (P:=prog) (K:=K) (Gp:=gU A) 0;have L:IntKind.u64.wrap (-1)=18446744073709551615:=by decide
 have J:IntKind.u64.wrap 79228162514264337589248983040=18446744069414584320:=by decide
 have I:IntKind.i32.wrap 0=0:=by decide
 have H:IntKind.u32.wrap 0=0:=by decide
 have E:IntKind.u32.wrap 1=1:=by decide
 have D:IntKind.u64.wrap 0=0:=by decide
 have C:IntKind.i32.wrap (-1)=-1:=by decide
 have Q:=jZ;have O:=gl;have N:=tV;have M:=qz;rw[enter_at _ func88 rfl];simp only[ntmps88,oP,Nat.reduceAdd,Nat.reduceSub];refine F.sq ?_;refine F.ct rfl ?_;refine F.sq ?_;refine F.cw ?_;iterate 2 (refine F.aF ?_;try walk_nrm)
 refine F.re ?_;refine F.ct rfl ?_;refine F.zW ?_;refine F.aF ?_;try walk_nrm
 apply F.Ac rfl rfl (by decide)
 .intro w e
  obtain⟨v,j⟩:=f w e;simp[go_sem,AU j]
 .intro w e
  obtain⟨v,j⟩:=f w e;go_simp;simp only[HK j];go_simp
  first|exact⟨rfl,rfl⟩|exact rfl
 try walk_nrm
 refine Pe rfl (λw e=>stepG_markAt .releaseMerge (by simp) rfl rfl (by decide) rfl func104 (by rfl) (by kernel_rfl) (by kernel_rfl) (by kernel_rfl) (ad:=⟨A,5,none⟩) (by simp[Act.eval])) ?_;walk_nrm;clear F;have F:=r8 (P:=prog) (K:=K) (Gp:=gU A) 1;refine F.dh ?_;refine AQ rfl (λw e=>stepG_mark0 .disable (by simp) rfl rfl (by decide) rfl func66 (by rfl) (by kernel_rfl) (by kernel_rfl) (by kernel_rfl)) ?_;walk_nrm;clear F;have F:=r8 (P:=prog) (K:=K) (Gp:=gU A) 2;refine F.D3 ?_;refine F.ctl (λ_=>stepG_defer rfl rfl (by decide) rfl) ?_;walk_nrm;refine F.dh ?_;refine F.aF ?_;try walk_nrm
 refine F.es ?_;refine F.cw ?_;refine F.ctl (λ_=>stepG_entry_pure (.bool false) rfl rfl (by decide) rfl func74 (by rfl) (by kernel_rfl) (by kernel_rfl) (by kernel_rfl)) ?_;walk_nrm;refine F.re ?_;refine F.cf rfl ?_;refine F.sk ?_;refine F.cw ?_;iterate 6 (refine F.aF ?_;try walk_nrm)
 refine F.enter rfl rfl (by decide) (λ_=>run_call_body rfl func108 (by rfl) (by rfl)) (λ_=>events_call_body rfl func108 (by rfl) (by rfl) _) ?_;walk_nrm;rw[enter_at _ func108 rfl];simp only[ntmps108,oP,Nat.reduceAdd,Nat.reduceSub];refine F.cw ?_;refine F.aF ?_;try walk_nrm
 refine F.dh ?_;iterate 4 (refine F.aF ?_;try walk_nrm)
 apply Pf rfl
 .intro m x i h l
  refine⟨?g,?z,?S⟩
  case z=>
   intro w e a;rw[stepG_add_atomic (w:=w) (ad:=⟨A,5,none⟩) (v:=gv (m+1) x) (d:=18446744069414584320) rfl rfl (by decide) rfl func122 (by rfl) (by kernel_rfl) (by kernel_rfl) .u64 (by kernel_rfl) rfl rfl a.1 a.2,OW m x i h]
   rfl
  walk_nrm;obtain⟨f1,f2⟩:=wu m x (CU i) h;have f3:=G8 m x (CU i) h;clear F;have F:=om (P:=prog) 1;rcases Gc h l with ⟨rfl,rfl⟩|⟨r,q,u⟩
  .rw[show gv 0 0=0 from rfl]
   clear f1 f2 f3;refine F.aF ?_;try walk_nrm
   refine F.re ?_;refine F.ctl (λ_=>stepG_ret') ?_;refine F.bJ rfl rfl func108 (resultsC_tmp (by rfl) _) ?_;rw[bO];try walk_nrm
   refine F.aF ?_;try walk_nrm
   refine F.es ?_;refine F.cw ?_;iterate 4 (refine F.aF ?_;try walk_nrm)
   refine F.cU ?_;try walk_nrm
   refine F.cU ?_;try walk_nrm
   refine F.aF ?_;try walk_nrm
   refine F.re ?_;refine F.cf rfl ?_;refine F.sk ?_;refine F.cw ?_;iterate 4 (refine F.aF ?_;try walk_nrm)
   refine F.dh ?_;iterate 4 (refine F.aF ?_;try walk_nrm)
   refine F.es ?_;refine F.cw ?_;iterate 5 (refine F.aF ?_;try walk_nrm)
   refine F.cU ?_;try walk_nrm
   refine F.cU ?_;try walk_nrm
   refine F.cU ?_;try walk_nrm
   refine F.cU ?_;try walk_nrm
   refine F.aF ?_;try walk_nrm
   refine F.re ?_;refine F.cf rfl ?_;refine F.sk ?_;refine F.sq ?_;refine F.cw ?_;iterate 2 (refine F.aF ?_;try walk_nrm)
   refine F.re ?_;refine F.cf rfl ?_;refine F.sk ?_;refine F.sq ?_;refine F.cw ?_;iterate 3 (refine F.aF ?_;try walk_nrm)
   refine F.cU ?_;try walk_nrm
   refine F.cU ?_;try walk_nrm
   iterate 2 (refine F.aF ?_;try walk_nrm)
   refine F.cU ?_;try walk_nrm
   refine F.cU ?_;try walk_nrm
   refine F.cU ?_;try walk_nrm
   refine F.cU ?_;try walk_nrm
   refine F.aF ?_;try walk_nrm
   refine F.re ?_;refine F.cf rfl ?_;refine F.sk ?_;refine F.sq ?_;refine F.cw ?_;iterate 6 (refine F.aF ?_;try walk_nrm)
   refine F.re ?_;refine F.ct rfl ?_;refine F.ctl (λ_=>stepG_ret') ?_;exact og _ _ _ _ b
  generalize gv m x=s at f1 f2 f3 ⊢;generalize (m:Int)=y at f3 r q;rcases u with rfl|rfl
  .replace f2:bits .and .u64 s 2147483647=0:=f2
   refine F.aF ?_;try walk_nrm
   refine F.re ?_;refine F.ctl (λ_=>stepG_ret') ?_;refine F.bJ rfl rfl func108 (resultsC_tmp (by rfl) _) ?_;rw[bO];try walk_nrm
   refine F.aF ?_;try walk_nrm
   refine F.es ?_;refine F.cw ?_;iterate 4 (refine F.aF ?_;try walk_nrm)
   refine F.cU ?_;try walk_nrm
   refine F.cU ?_;try walk_nrm
   refine F.aF ?_;try walk_nrm
   refine F.re ?_;refine F.cf rfl ?_;refine F.sk ?_;refine F.cw ?_;iterate 4 (refine F.aF ?_;try walk_nrm)
   refine F.dh ?_;iterate 4 (refine F.aF ?_;try walk_nrm)
   refine F.es ?_;refine F.cw ?_;iterate 5 (refine F.aF ?_;try walk_nrm)
   refine F.cU ?_;try walk_nrm
   refine F.cU ?_;try walk_nrm
   refine F.cU ?_;try walk_nrm
   refine F.cU ?_;try walk_nrm
   refine F.aF ?_;try walk_nrm
   refine F.re ?_;refine F.cf rfl ?_;refine F.sk ?_;refine F.sq ?_;refine F.cw ?_;iterate 2 (refine F.aF ?_;try walk_nrm)
   refine F.re ?_;refine F.cf rfl ?_;refine F.sk ?_;refine F.sq ?_;refine F.cw ?_;iterate 3 (refine F.aF ?_;try walk_nrm)
   refine F.cU ?_;try walk_nrm
   refine F.cU ?_;try walk_nrm
   iterate 2 (refine F.aF ?_;try walk_nrm)
   refine F.cU ?_;try walk_nrm
   refine F.cU ?_;try walk_nrm
   refine F.cU ?_;try walk_nrm
   refine F.cU ?_;try walk_nrm
   refine F.aF ?_;try walk_nrm
   refine F.re ?_;refine F.cf rfl ?_;refine F.sk ?_;refine F.sq ?_;refine F.cw ?_;iterate 3 (refine F.aF ?_;try walk_nrm)
   refine F.cU ?_;try walk_nrm
   refine F.cU ?_;try walk_nrm
   refine F.aF ?_;try walk_nrm
   refine F.re ?_;refine F.ct rfl ?_;refine F.ctl (λ_=>stepG_ret') ?_;exact og _ _ _ _ b
  .replace f2:bits .and .u64 s 2147483647=1:=f2
   refine F.aF ?_;try walk_nrm
   refine F.re ?_;refine F.ctl (λ_=>stepG_ret') ?_;refine F.bJ rfl rfl func108 (resultsC_tmp (by rfl) _) ?_;rw[bO];try walk_nrm
   refine F.aF ?_;try walk_nrm
   refine F.es ?_;refine F.cw ?_;iterate 4 (refine F.aF ?_;try walk_nrm)
   refine F.cU ?_;try walk_nrm
   refine F.cU ?_;try walk_nrm
   refine F.aF ?_;try walk_nrm
   refine F.re ?_;refine F.cf rfl ?_;refine F.sk ?_;refine F.cw ?_;iterate 4 (refine F.aF ?_;try walk_nrm)
   refine F.dh ?_;iterate 4 (refine F.aF ?_;try walk_nrm)
   refine F.es ?_;refine F.cw ?_;iterate 5 (refine F.aF ?_;try walk_nrm)
   refine F.cU ?_;try walk_nrm
   refine F.cU ?_;try walk_nrm
   refine F.cU ?_;try walk_nrm
   refine F.cU ?_;try walk_nrm
   refine F.aF ?_;try walk_nrm
   refine F.re ?_;refine F.cf rfl ?_;refine F.sk ?_;refine F.sq ?_;refine F.cw ?_;iterate 2 (refine F.aF ?_;try walk_nrm)
   refine F.re ?_;refine F.cf rfl ?_;refine F.sk ?_;refine F.sq ?_;refine F.cw ?_;iterate 7 (refine F.aF ?_;try walk_nrm)
   refine F.cU ?_;try walk_nrm
   refine F.cU ?_;try walk_nrm
   refine F.cU ?_;try walk_nrm
   refine F.cU ?_;try walk_nrm
   refine F.aF ?_;try walk_nrm
   refine F.re ?_;refine F.cf rfl ?_;refine F.sk ?_;refine F.sq ?_;refine F.cw ?_;iterate 3 (refine F.aF ?_;try walk_nrm)
   refine F.cU ?_;try walk_nrm
   refine F.cU ?_;try walk_nrm
   refine F.aF ?_;try walk_nrm
   refine F.re ?_;refine F.ct rfl ?_;refine F.ctl (λ_=>stepG_ret') ?_;exact og _ _ _ _ b
 have p:gv 1 1=4294967297:=rfl;have o:gv 0 1=1:=rfl;have T:gv 0 0=0:=rfl;have e1:IntKind.u64.wrap (4294967297+18446744069414584320)=1:=by decide
 refine⟨?o,?t,?R⟩
 case t=>
  intro w e a;rw[p]at a;rw[stepG_add_atomic (w:=w) (ad:=⟨A,5,none⟩) (v:=4294967297) (d:=18446744069414584320) rfl rfl (by decide) rfl func122 (by rfl) (by kernel_rfl) (by kernel_rfl) .u64 (by kernel_rfl) rfl rfl a.1 a.2,e1]
  rfl
 walk_nrm;try simp only[e1]
 clear p e1;clear F;have F:=r8 (P:=prog) (K:=K) (Gp:=gU A) 3;refine F.aF ?_;try walk_nrm
 refine F.re ?_;refine F.ctl (λ_=>stepG_ret') ?_;refine F.bJ rfl rfl func108 (resultsC_tmp (by rfl) _) ?_;try rw[o]
 rw[bO];try walk_nrm
 refine F.aF ?_;try walk_nrm
 refine F.es ?_;refine F.cw ?_;iterate 4 (refine F.aF ?_;try walk_nrm)
 refine F.cU ?_;try walk_nrm
 refine F.cU ?_;try walk_nrm
 refine F.aF ?_;try walk_nrm
 refine F.re ?_;refine F.cf rfl ?_;refine F.sk ?_;refine F.cw ?_;iterate 4 (refine F.aF ?_;try walk_nrm)
 refine F.dh ?_;iterate 4 (refine F.aF ?_;try walk_nrm)
 refine F.es ?_;refine F.cw ?_;iterate 5 (refine F.aF ?_;try walk_nrm)
 refine F.cU ?_;try walk_nrm
 refine F.cU ?_;try walk_nrm
 refine F.cU ?_;try walk_nrm
 refine F.cU ?_;try walk_nrm
 refine F.aF ?_;try walk_nrm
 refine F.re ?_;refine F.cf rfl ?_;refine F.sk ?_;refine F.sq ?_;refine F.cw ?_;iterate 2 (refine F.aF ?_;try walk_nrm)
 refine F.re ?_;refine F.cf rfl ?_;refine F.sk ?_;refine F.sq ?_;refine F.cw ?_;iterate 7 (refine F.aF ?_;try walk_nrm)
 refine F.cU ?_;try walk_nrm
 refine F.cU ?_;try walk_nrm
 refine F.cU ?_;try walk_nrm
 refine F.cU ?_;try walk_nrm
 refine F.aF ?_;try walk_nrm
 refine F.re ?_;refine F.cf rfl ?_;refine F.sk ?_;refine F.sq ?_;refine F.cw ?_;iterate 6 (refine F.aF ?_;try walk_nrm)
 refine F.re ?_;refine F.cf rfl ?_;refine F.sk ?_;refine F.sq ?_;refine F.cw ?_;iterate 3 (refine F.aF ?_;try walk_nrm)
 refine F.enter rfl rfl (by decide) (λ_=>run_call_body rfl func67 (by rfl) (by rfl)) (λ_=>events_call_body rfl func67 (by rfl) (by rfl) _) ?_;walk_nrm;rw[enter_at _ func67 rfl];simp only[ntmps67,oP,Nat.reduceAdd,Nat.reduceSub];refine F.cw ?_;refine F.aF ?_;try walk_nrm
 refine F.dh ?_;iterate 3 (refine F.aF ?_;try walk_nrm)
 refine Kl rfl (λw e a=>stepG_load_atomic (ad:=⟨A,5,none⟩) (v:=1) rfl rfl (by decide) rfl func96 (by rfl) (by kernel_rfl) (by kernel_rfl) .u64 (by kernel_rfl) rfl a.1) ?_;walk_nrm;clear F;have F:=r8 (P:=prog) (K:=K) (Gp:=gU A) 4;refine F.aF ?_;try walk_nrm
 refine F.re ?_;refine F.ctl (λ_=>stepG_ret') ?_;refine F.bJ rfl rfl func67 (resultsC_tmp (by rfl) _) ?_;rw[bO];try walk_nrm
 iterate 2 (refine F.aF ?_;try walk_nrm)
 refine F.re ?_;refine F.cf rfl ?_;refine F.sk ?_;refine F.cw ?_;iterate 3 (refine F.aF ?_;try walk_nrm)
 refine F.enter rfl rfl (by decide) (λ_=>run_call_body rfl func110 (by rfl) (by rfl)) (λ_=>events_call_body rfl func110 (by rfl) (by rfl) _) ?_;walk_nrm;rw[enter_at _ func110 rfl];simp only[ntmps110,oP,Nat.reduceAdd,Nat.reduceSub];refine F.zW ?_;iterate 4 (refine F.aF ?_;try walk_nrm)
 refine HF rfl (λw e a=>stepG_store_atomic (ad:=⟨A,5,none⟩) (k:=.u64) (v:=0) rfl rfl (by decide) rfl func123 (by rfl) (by kernel_rfl) (by kernel_rfl) (by kernel_rfl) rfl rfl a.1 a.2) ?_;walk_nrm;clear F;have F:=r8 (P:=prog) (K:=K) (Gp:=gU A) 5;refine F.re ?_;refine F.ctl (λ_=>stepG_end) ?_;refine F.bJ rfl rfl func110 (resultsC_none (by rfl) _) ?_;rw[bO];try walk_nrm
 refine F.es ?_;refine F.cw ?_;refine F.aF ?_;try walk_nrm
 refine F.re ?_;refine F.cf rfl ?_;refine F.sk ?_;refine F.bl ?_;refine F.ctl (λ_=>stepG_loop) ?_;refine F.sq ?_;refine F.cw ?_;iterate 2 (refine F.aF ?_;try walk_nrm)
 refine F.re ?_;refine F.ct rfl ?_;refine F.sk ?_;refine F.sq ?_;refine F.bl ?_;refine F.zW ?_;iterate 3 (refine F.aF ?_;try walk_nrm)
 refine Eb rfl (by kernel_rfl) rfl (λw e a=>stepG_semrelease (ad:=⟨A,6,none⟩) (n:=0) rfl rfl (by decide) rfl func111 (by rfl) (by kernel_rfl) (by kernel_rfl) (by kernel_rfl) (by simp[Act.eval]) a.1 a.2) ?_;walk_nrm;clear F;have F:=om (P:=prog) 1;refine F.re ?_;refine F.ib ?_;refine F.zW ?_;iterate 3 (refine F.aF ?_;try walk_nrm)
 refine F.re ?_;refine F.ctl (λ_=>stepG_inLoop) ?_;refine F.sq ?_;refine F.cw ?_;iterate 2 (refine F.aF ?_;try walk_nrm)
 refine F.re ?_;refine F.cf rfl ?_;refine F.ctl (λ_=>stepG_exit rfl) ?_;refine F.ctl (λ_=>stepG_end) ?_;exact og _ _ _ _ b
def NY(f:Func):Code:=match f.body with|some (.seq _ (.block _ (.loop b)))=>b|_=>.skip
theorem OT(h:0<m):((m:Int)==0)=false:=by simp;omega
theorem TI{a:Nat}(h:a<m):gv a 0≠gv m 0:=λe=>by unfold gv at e;omega
theorem Dz(A:Nat)(e:∀w,K w->∃v,w.cell? ⟨A,5,none⟩=some v)(hc6:∀w,K w->∃v,w.cell? ⟨A,6,none⟩=some v)(c:aE)(cs:cW)(f:∀k,∃n,WS prog K Shun B (gU A) Anchor k n 8 (G (c.finish (.tuple #[])) cs))(k:Nat):k<=9->∀y1 y2 y3 y4 y5 y6 y7 y8 y9 Df De Dd Dc M1 MZ MY MX MW MV MU MT P4 P2 P1 P0 PZ PY PW PU PT PR PO PN PM VU VT VS VR VQ VP VO Zt Zs Zr Zq Zp Zo Zn Zm Zl Zk Z Y X W V U T S R Q O N M L J I H E D C z y x u t s r q p o l j:Value,
 ∃n,WS prog K Shun B (gU A) Anchor k n 1 (G ((base 56).at ⟨List.toArray (.pointer (some ⟨A,5,none⟩)::y1::y2::y3::y4::y5::y6::y7::y8::y9::Df::De::Dd::Dc::M1::MZ::MY::MX::MW::MV::MU::MT::P4::P2::P1::P0::PZ::PY::PW::PU::PT::PR::PO::PN::PM::VU::VT::VS::VR::VQ::VP::VO::Zt::Zs::Zr::Zq::Zp::Zo::Zn::Zm::Zl::Zk::Z::Y::X::W::V::U::T::S::R::Q::O::N::M::L::J::I::H::E::D::C::z::y::x::u::t::s::r::q::p::o::l::j::[]),[]⟩ [.code (NY f56),.inLoop (NY f56),.inBlock 0]) (c::cs)):=by
 induction k using Nat.strongRecOn with
 |_ k ih=>
 intro hk y1 y2 y3 y4 y5 y6 y7 y8 y9 Df De Dd Dc M1 MZ MY MX MW MV MU MT P4 P2 P1 P0 PZ PY PW PU PT PR PO PN PM VU VT VS VR VQ VP VO Zt Zs Zr Zq Zp Zo Zn Zm Zl Zk Z Y X W V U T S R Q O N M L J I H E D C z y x u t s r q p o l j;have F:=iT (P:=prog) (K:=K) (Shun:=Shun) (B:=B) (Gp:=gU A) (Anchor:=Anchor) k 1;have w4:IntKind.u32.wrap 0=0:=by decide
 have w5:IntKind.u64.wrap 0=0:=by decide
 have w6:IntKind.i32.wrap 0=0:=by decide
 have n3:=jZ;have n4:=gl;simp only[NY,f56];refine F.bl ?_;refine F.cw ?_;iterate 3 (refine F.aF ?_;try walk_nrm)
 refine F.enter rfl rfl (by decide) (λ_=>run_call_body rfl func67 (by rfl) (by rfl)) (λ_=>events_call_body rfl func67 (by rfl) (by rfl) _) ?_;walk_nrm;rw[enter_at _ func67 rfl];simp only[ntmps67,oP,Nat.reduceAdd,Nat.reduceSub];refine F.cw ?_;refine F.aF ?_;try walk_nrm
 refine F.dh ?_;iterate 3 (refine F.aF ?_;try walk_nrm)
 apply IC rfl
 .intro m m0 mk
  have f3:=G8 m 0 (ED (aT mk hk)) (by decide);obtain⟨f1,f2⟩:=wu m 0 (ED (aT mk hk)) (by decide);replace f2:bits .and .u64 (gv m 0) 2147483647=0:=f2;have f4:=OU m (ED (aT mk hk));have f5:=OT m0;refine⟨?g,?h1,?h2⟩
  case h1=>
   intro w a b;rw[stepG_load_atomic (w:=w) (ad:=⟨A,5,none⟩) (v:=gv m 0) rfl rfl (by decide) rfl func96 (by rfl) (by kernel_rfl) (by kernel_rfl) .u64 (by kernel_rfl) rfl b.1]
   rfl
  walk_nrm;clear F;have F:=iT (P:=prog) (K:=K) (Shun:=Shun) (B:=B) (Gp:=gU A) (Anchor:=Anchor) k (100+m);refine F.aF ?_;try walk_nrm
  refine F.re ?_;refine F.ctl (λ_=>stepG_ret') ?_;refine F.bJ rfl rfl func67 (resultsC_tmp (by rfl) _) ?_;rw[bO];try walk_nrm
  refine F.aF ?_;try walk_nrm
  refine F.dh ?_;iterate 4 (refine F.aF ?_;try walk_nrm)
  refine F.dh ?_;iterate 4 (refine F.aF ?_;try walk_nrm)
  refine F.es ?_;refine F.cw ?_;iterate 2 (refine F.aF ?_;try walk_nrm)
  refine F.re ?_;refine F.cf rfl ?_;refine F.sk ?_;refine F.cw ?_;iterate 6 (refine F.aF ?_;try walk_nrm)
  refine F.enter rfl rfl (by decide) (λ_=>run_call_body rfl func71 (by rfl) (by rfl)) (λ_=>events_call_body rfl func71 (by rfl) (by rfl) _) ?_;walk_nrm;rw[enter_at _ func71 rfl];simp only[ntmps71,oP,Nat.reduceAdd,Nat.reduceSub];refine F.cw ?_;refine F.aF ?_;try walk_nrm
  refine F.dh ?_;iterate 5 (refine F.aF ?_;try walk_nrm)
  refine IA m0 mk rfl (λw a b=>stepG_cas_hit (ad:=⟨A,5,none⟩) (v:=gv m 0) (n:=gv m 1) rfl rfl (by decide) rfl func97 (by rfl) (by kernel_rfl) (by kernel_rfl) .u64 (by kernel_rfl) rfl rfl rfl b.1 b.2) ?_ ?_
  rotate_left
  .intro m' GM
   refine⟨?g2,?k1,?k2⟩
   case k1=>
    intro w a b;rw[stepG_cas_miss (w:=w) (ad:=⟨A,5,none⟩) (v:=gv m' 0) (old:=gv m 0) (n:=gv m 1) rfl rfl (by decide) rfl func97 (by rfl) (by kernel_rfl) (by kernel_rfl) .u64 (by kernel_rfl) rfl rfl rfl b.1 b.2 (TI GM)]
    rfl
   obtain⟨i,rfl⟩:∃i,k=i+1:=⟨k-1,(MG (aT m0 mk)).symm⟩;refine(fun⟨n,h⟩=>⟨i,n,rfl,h⟩:(∃n,WS prog K Shun B (gU A) Anchor i n 1 _)->_) ?_;walk_nrm;clear F;have F:=iT (P:=prog) (K:=K) (Shun:=Shun) (B:=B) (Gp:=gU A) (Anchor:=Anchor) i 1;refine F.aF ?_;try walk_nrm
   refine F.re ?_;refine F.ctl (λ_=>stepG_ret') ?_;refine F.bJ rfl rfl func71 (resultsC_tmp (by rfl) _) ?_;rw[bO];try walk_nrm
   refine F.re ?_;refine F.cf rfl ?_;refine F.sk ?_;refine F.ib ?_;refine F.ctl (λ_=>stepG_inLoop) ?_;exact ih i (ij _) (Nat.le_of_succ_le hk) _ _ _ _ _ _ _ _ _ _ _ _ _ _ _ _ _ _ _ _ _ _ _ _ _ _ _ _ _ _ _ _ _ _ _ _ _ _ _ _ _ _ _ _ _ _ _ _ _ _ _ _ _ _ _ _ _ _ _ _ _ _ _ _ _ _ _ _ _ _ _ _ _ _ _ _ _ _ _ _ _ _ _
  walk_nrm;clear F;have F:=iT (P:=prog) (K:=K) (Shun:=Shun) (B:=B) (Gp:=gU A) (Anchor:=Anchor) k 3;refine F.aF ?_;try walk_nrm
  refine F.re ?_;refine F.ctl (λ_=>stepG_ret') ?_;refine F.bJ rfl rfl func71 (resultsC_tmp (by rfl) _) ?_;rw[bO];try walk_nrm
  refine F.re ?_;refine F.ct rfl ?_;refine F.sq ?_;refine F.cw ?_;iterate 4 (refine F.aF ?_;try walk_nrm)
  refine F.re ?_;refine F.ct rfl ?_;refine F.zW ?_;iterate 3 (refine F.aF ?_;try walk_nrm)
  apply F.Ac rfl rfl (by decide)
  .intro w a
   obtain⟨v,d⟩:=hc6 w a;simp[go_sem,HJ d]
  .intro w a
   obtain⟨v,d⟩:=hc6 w a;go_simp;simp only[Ml d];go_simp
   first|exact⟨rfl,rfl⟩|exact rfl
  try walk_nrm
  refine EU rfl (λw a=>stepG_markAt .write (by simp) rfl rfl (by decide) rfl func73 (by rfl) (by kernel_rfl) (by kernel_rfl) (by kernel_rfl) (ad:=⟨A,6,none⟩) (by simp[Act.eval])) ?_;walk_nrm;clear F;have F:=iT (P:=prog) (K:=K) (Shun:=Shun) (B:=B) (Gp:=gU A) (Anchor:=Anchor) k 4;refine F.dh ?_;refine F.aF ?_;try walk_nrm
  refine F.es ?_;refine F.cw ?_;iterate 4 (refine F.aF ?_;try walk_nrm)
  refine F.cU ?_;try walk_nrm
  refine F.aF ?_;try walk_nrm
  refine F.re ?_;refine F.cf rfl ?_;refine F.sk ?_;refine F.cw ?_;iterate 4 (refine F.aF ?_;try walk_nrm)
  refine M6 rfl rfl (λw a b=>stepG_semacquire (ad:=⟨A,6,none⟩) (n:=1) rfl rfl (by decide) rfl func75 (by rfl) (by kernel_rfl) (by kernel_rfl) (by kernel_rfl) (by simp[Act.eval]) b.1 (by decide) b.2) (λw a b=>stepG_semacquire_wait (ad:=⟨A,6,none⟩) rfl rfl rfl func75 (by rfl) (by kernel_rfl) (by kernel_rfl) (by kernel_rfl) (by simp[Act.eval]) b.1) ?_;walk_nrm;clear F;have F:=iT (P:=prog) (K:=K) (Shun:=Shun) (B:=B) (Gp:=gU A) (Anchor:=Anchor) k 5;refine F.dh ?_;iterate 3 (refine F.aF ?_;try walk_nrm)
  refine F.enter rfl rfl (by decide) (λ_=>run_call_body rfl func67 (by rfl) (by rfl)) (λ_=>events_call_body rfl func67 (by rfl) (by rfl) _) ?_;walk_nrm;rw[enter_at _ func67 rfl];simp only[ntmps67,oP,Nat.reduceAdd,Nat.reduceSub];refine F.cw ?_;refine F.aF ?_;try walk_nrm
  refine F.dh ?_;iterate 3 (refine F.aF ?_;try walk_nrm)
  refine EV rfl (λw a b=>stepG_load_atomic (ad:=⟨A,5,none⟩) (v:=0) rfl rfl (by decide) rfl func96 (by rfl) (by kernel_rfl) (by kernel_rfl) .u64 (by kernel_rfl) rfl b.1) ?_;walk_nrm;clear F;have F:=iT (P:=prog) (K:=K) (Shun:=Shun) (B:=B) (Gp:=gU A) (Anchor:=Anchor) k 6;refine F.aF ?_;try walk_nrm
  refine F.re ?_;refine F.ctl (λ_=>stepG_ret') ?_;refine F.bJ rfl rfl func67 (resultsC_tmp (by rfl) _) ?_;rw[bO];try walk_nrm
  iterate 2 (refine F.aF ?_;try walk_nrm)
  refine F.es ?_;refine F.ct rfl ?_;refine F.cw ?_;refine uC rfl (λw a=>stepG_mark0 .enable (by simp) rfl rfl (by decide) rfl func68 (by rfl) (by kernel_rfl) (by kernel_rfl) (by kernel_rfl)) ?_;walk_nrm;clear F;have F:=iT (P:=prog) (K:=K) (Shun:=Shun) (B:=B) (Gp:=gU A) (Anchor:=Anchor) k 7;refine F.D3 ?_;refine F.aF ?_;try walk_nrm
  apply F.Ac rfl rfl (by decide)
  .intro w a
   obtain⟨v,d⟩:=e w a;simp[go_sem,AU d]
  .intro w a
   obtain⟨v,d⟩:=e w a;go_simp;simp only[HK d];go_simp
   first|exact⟨rfl,rfl⟩|exact rfl
  try walk_nrm
  refine rO rfl (λw a=>stepG_markAt .acquire (by simp) rfl rfl (by decide) rfl func69 (by rfl) (by kernel_rfl) (by kernel_rfl) (by kernel_rfl) (ad:=⟨A,5,none⟩) (by simp[Act.eval])) ?_;walk_nrm;clear F;have F:=iT (P:=prog) (K:=K) (Shun:=Shun) (B:=B) (Gp:=gU A) (Anchor:=Anchor) k 8;refine F.es ?_;refine F.cw ?_;refine F.aF ?_;try walk_nrm
  refine F.re ?_;refine F.cf rfl ?_;refine F.sk ?_;refine F.ctl (λ_=>stepG_ret') ?_;refine F.bJ rfl rfl func56 (resultsC_none (by rfl) _) ?_;exact f k
 refine⟨?g0,?j1,?j2⟩
 case j1=>
  intro w a b;rw[stepG_load_atomic (w:=w) (ad:=⟨A,5,none⟩) (v:=0) rfl rfl (by decide) rfl func96 (by rfl) (by kernel_rfl) (by kernel_rfl) .u64 (by kernel_rfl) rfl b.1]
  rfl
 walk_nrm;clear F;have F:=iT (P:=prog) (K:=K) (Shun:=Shun) (B:=B) (Gp:=gU A) (Anchor:=Anchor) k 6;refine F.aF ?_;try walk_nrm
 refine F.re ?_;refine F.ctl (λ_=>stepG_ret') ?_;refine F.bJ rfl rfl func67 (resultsC_tmp (by rfl) _) ?_;rw[bO];try walk_nrm
 refine F.aF ?_;try walk_nrm
 refine F.dh ?_;iterate 4 (refine F.aF ?_;try walk_nrm)
 refine F.dh ?_;iterate 4 (refine F.aF ?_;try walk_nrm)
 refine F.es ?_;refine F.cw ?_;iterate 2 (refine F.aF ?_;try walk_nrm)
 refine F.re ?_;refine F.ct rfl ?_;refine F.sq ?_;refine F.ct rfl ?_;refine F.cw ?_;refine uC rfl (λw a=>stepG_mark0 .enable (by simp) rfl rfl (by decide) rfl func68 (by rfl) (by kernel_rfl) (by kernel_rfl) (by kernel_rfl)) ?_;walk_nrm;clear F;have F:=iT (P:=prog) (K:=K) (Shun:=Shun) (B:=B) (Gp:=gU A) (Anchor:=Anchor) k 7;refine F.D3 ?_;refine F.aF ?_;try walk_nrm
 apply F.Ac rfl rfl (by decide)
 .intro w a
  obtain⟨v,d⟩:=e w a;simp[go_sem,AU d]
 .intro w a
  obtain⟨v,d⟩:=e w a;go_simp;simp only[HK d];go_simp
  first|exact⟨rfl,rfl⟩|exact rfl
 try walk_nrm
 refine rO rfl (λw a=>stepG_markAt .acquire (by simp) rfl rfl (by decide) rfl func69 (by rfl) (by kernel_rfl) (by kernel_rfl) (by kernel_rfl) (ad:=⟨A,5,none⟩) (by simp[Act.eval])) ?_;walk_nrm;clear F;have F:=iT (P:=prog) (K:=K) (Shun:=Shun) (B:=B) (Gp:=gU A) (Anchor:=Anchor) k 8;refine F.es ?_;refine F.cw ?_;iterate 8 (refine F.aF ?_;try walk_nrm)
 refine F.cU ?_;try walk_nrm
 refine F.cU ?_;try walk_nrm
 refine F.aF ?_;try walk_nrm
 refine F.re ?_;refine F.cf rfl ?_;refine F.sk ?_;refine F.ctl (λ_=>stepG_ret') ?_;refine F.bJ rfl rfl func56 (resultsC_none (by rfl) _) ?_;exact f k
theorem Dh(A:Nat)(d:∀w,K w->∃v,w.cell? ⟨A,5,none⟩=some v)(b:∀w,K w->∃v,w.cell? ⟨A,6,none⟩=some v)(c:aE)(cs:cW)(a:∀k,∃n,WS prog K Shun B (gU A) Anchor k n 8 (G (c.finish (.tuple #[])) cs))(k:Nat)(hk:k<=9):
 ∃n,WS prog K Shun B (gU A) Anchor k n 0 (G (Frame.enter prog 56 #[.pointer (some ⟨A,5,none⟩)] .normal) (c::cs)):=by
 have F:=iT (P:=prog) (K:=K) (Shun:=Shun) (B:=B) (Gp:=gU A) (Anchor:=Anchor) k 0;rw[enter_at _ func56 rfl];simp only[ntmps56,oP,Nat.reduceAdd,Nat.reduceSub];refine F.sq ?_;refine F.ct rfl ?_;refine F.zW ?_;refine zI rfl (λw e=>stepG_mark0 .disable (by simp) rfl rfl (by decide) rfl func66 (by rfl) (by kernel_rfl) (by kernel_rfl) (by kernel_rfl)) ?_;walk_nrm;clear F;have F:=iT (P:=prog) (K:=K) (Shun:=Shun) (B:=B) (Gp:=gU A) (Anchor:=Anchor) k 1;refine F.re ?_;refine F.bl ?_;refine F.ctl (λ_=>stepG_loop) ?_;exact Dz A d b c cs a k hk _ _ _ _ _ _ _ _ _ _ _ _ _ _ _ _ _ _ _ _ _ _ _ _ _ _ _ _ _ _ _ _ _ _ _ _ _ _ _ _ _ _ _ _ _ _ _ _ _ _ _ _ _ _ _ _ _ _ _ _ _ _ _ _ _ _ _ _ _ _ _ _ _ _ _ _ _ _ _ _ _ _ _
theorem E9(m:Nat):m=0\/((((m+1:Nat):Int)==1)=false/\(((m+1:Nat):Int)<0)=False/\(0<((m+1:Nat):Int))=True):=by
 by_cases a:m=0
 .exact .inl a
 .refine .inr ⟨by simp;omega,propext ⟨λh=>by omega,λh=>h.elim⟩,propext ⟨λ_=>trivial,λ_=>by omega⟩⟩
theorem PC{Post:qG}{Q:cF}{St:Nat->Loc->Prop}{Inb:Nat->Option Seat}{D:zx}{L nb n:Nat}(A:Nat)(p:GK K Shun (gU A))(i:nb<=8)(H:∀w d,Q w->Q (w.at d))(E:∀dl L nb,nb<=9->aC prog true D (fG prog Post K Q Shun St Inb (gU A) L nb 0 n dl))(I:∀l,nK St (λg=>(Inb g).isSome) l->¬Shun l)(N:∀w,K w->∃v,w.cell? ⟨A,5,none⟩=some v)(M:∀w,K w->∃v,w.cell? ⟨A,6,none⟩=some v)(c:aE)(cs:cW)(w:aj)(P:fG prog Post K Q Shun St Inb (gU A) (L+1) (nb+1) 0 n 0 (G (c.finish (.tuple #[])) cs) w):
 fG prog Post K Q Shun St Inb (gU A) L nb 0 n 0 (G (Frame.enter prog 88 #[.pointer (some ⟨A,5,none⟩),.int .i64 1] .normal) (c::cs)) w:=by
 refine fG.assume p λC _=>?_
 have f:nb<=9:=Nat.le_succ_of_le i;have b:nb+1<=9:=Nat.succ_le_succ i;obtain⟨v6,q⟩:=M w C;obtain⟨v5,t⟩:=N w C;have r:A<w.heap.size:=au t;have u:¬nK St (λg=>(Inb g).isSome) (.cell ⟨A,5,none⟩):=λz=>I _ z p.sh
 have X:∀d,(convert 182 178 (.pointer (some ⟨A,6,none⟩))).run prog (w.at d)=.ok (.pointer (some ⟨A,6,none⟩)) (w.at d):=λd=>Ml (w:=w.at d) q
 have W:∀d,(convert 182 178 (.pointer (some ⟨A,6,none⟩))).events prog (w.at d) #[]=#[]:=λd=>HJ (w:=w.at d) q
 have F:=E 0 L nb f;have w1:IntKind.u64.wrap 1=1:=by decide
 have w2:IntKind.u64.wrap 4294967296=4294967296:=by decide
 have Z:IntKind.i32.wrap 1=1:=by decide
 have Y:IntKind.u32.wrap 0=0:=by decide
 have n1:=RB;have n2:=yj;clear t q;rw[enter_at _ func88 rfl];simp only[ntmps88,oP,Nat.reduceAdd,Nat.reduceSub];refine F.sq ?_;refine F.ct rfl ?_;refine F.sq ?_;refine F.cw ?_;iterate 2 (refine F.aF ?_;try walk_nrm)
 refine F.re ?_;refine F.cf rfl ?_;refine F.sk ?_;refine F.cw ?_;refine fG.mark p f H rfl (λw=>stepG_mark0 .disable (by simp) rfl rfl (by decide) rfl func66 (by rfl) (by kernel_rfl) (by kernel_rfl) (by kernel_rfl)) (c9 (gY rfl trivial)) ?_;clear F;have F:=E 1 L nb f
 show fG _ _ _ _ _ _ _ _ _ _ _ _ 1 _ _
 walk_nrm;refine F.D3 ?_;refine F.ctl (λ_=>stepG_defer rfl rfl (by decide) rfl) ?_;walk_nrm;refine F.dh ?_;refine F.aF ?_;try walk_nrm
 refine F.es ?_;refine F.cw ?_;refine F.ctl (λ_=>stepG_entry_pure (.bool false) rfl rfl (by decide) rfl func74 (by rfl) (by kernel_rfl) (by kernel_rfl) (by kernel_rfl)) ?_;walk_nrm;refine F.re ?_;refine F.cf rfl ?_;refine F.sk ?_;refine F.cw ?_;iterate 6 (refine F.aF ?_;try walk_nrm)
 refine F.enter rfl rfl (by decide) (λ_=>run_call_body rfl func108 (by rfl) (by rfl)) (λ_=>events_call_body rfl func108 (by rfl) (by rfl) _) ?_;walk_nrm;rw[enter_at _ func108 rfl];simp only[ntmps108,oP,Nat.reduceAdd,Nat.reduceSub];refine F.cw ?_;refine F.aF ?_;try walk_nrm
 refine F.dh ?_;iterate 4 (refine F.aF ?_;try walk_nrm)
 refine fG.add (g':=?gg) (es:=#[⟨.cell ⟨A,5,none⟩,false,true⟩,⟨.cell ⟨A,5,none⟩,true,true⟩]) p f rfl ?add1 (pV (dA (a:=⟨A,5,none⟩) u r) (dA (a:=⟨A,5,none⟩) u r)) ?S
 case add1=>
  intro d m J O;have k:=zH p O m;rw[stepG_add_atomic (w:=Wv (gU A) (w.at d) m) (ad:=⟨A,5,none⟩) (v:=gv m 0) (d:=4294967296) rfl rfl (by decide) rfl func122 (by rfl) (by kernel_rfl) (by kernel_rfl) .u64 (by kernel_rfl) rfl rfl k.1 k.2,OV m (ED (aT J i))];rw[show(Wv (gU A) (w.at d) m).setCell ⟨A,5,none⟩ (.int .u64 (gv (m+1) 0))=Wv (gU A) (w.at d) (m+1)from set_set _ _ _ _]
 intro m J;clear F;have F:=E 1 (L+1) (nb+1) b
 show fG _ _ _ _ _ _ _ _ _ _ _ _ 1 _ _
 walk_nrm;have o:m+1<10:=Bn (ED (aT J i));rcases E9 m with rfl|⟨V,U,T⟩
 .rw[show gv (0+1) 0=4294967296 from rfl]
  refine F.aF ?_;try walk_nrm
  refine F.re ?_;refine F.ctl (λ_=>stepG_ret') ?_;refine F.bJ rfl rfl func108 (resultsC_tmp (by rfl) _) ?_;rw[bO];try walk_nrm
  refine F.aF ?_;try walk_nrm
  refine F.es ?_;refine F.cw ?_;iterate 4 (refine F.aF ?_;try walk_nrm)
  refine F.cU ?_;try walk_nrm
  refine F.cU ?_;try walk_nrm
  refine F.aF ?_;try walk_nrm
  refine F.re ?_;refine F.cf rfl ?_;refine F.sk ?_;refine F.cw ?_;iterate 4 (refine F.aF ?_;try walk_nrm)
  refine F.dh ?_;iterate 4 (refine F.aF ?_;try walk_nrm)
  refine F.es ?_;refine F.cw ?_;iterate 10 (refine F.aF ?_;try walk_nrm)
  refine F.re ?_;refine F.ct rfl ?_;refine F.zW ?_;iterate 4 (refine F.oq rfl rfl rfl (λ_=>by first|(simp[go_sem];done)|simp[go_sem,Instr.makeInterface,Instr.makeFunc, *]) λd K R=>?_;go_simp;refine R _ ?_;clear R K d;try walk_nrm)
  refine fG.mark p b H rfl (λw=>stepG_markAt .read (by simp) rfl rfl (by decide) rfl func109 (by rfl) (by kernel_rfl) (by kernel_rfl) (by kernel_rfl) (ad:=⟨A,6,none⟩) (by simp[Act.eval])) (c9 ?_) ?_
  .refine⟨λx j=>?_,r⟩
   simp[MemAct.ofEvent,MemAct.touch?]at j;subst j;exact⟨λ_=>rfl,λ_=>⟨by simp,λ_=>rfl⟩⟩
  show fG _ _ _ _ _ _ _ _ _ _ _ _ 1 _ _
  walk_nrm;refine F.es ?_;refine F.cw ?_;iterate 2 (refine F.aF ?_;try walk_nrm)
  refine F.re ?_;refine F.cf rfl ?_;refine F.sk ?_;refine F.sq ?_;refine F.cw ?_;iterate 3 (refine F.aF ?_;try walk_nrm)
  refine F.cU ?_;try walk_nrm
  refine F.cU ?_;try walk_nrm
  iterate 2 (refine F.aF ?_;try walk_nrm)
  refine F.cU ?_;try walk_nrm
  refine F.cU ?_;try walk_nrm
  refine F.cU ?_;try walk_nrm
  refine F.cU ?_;try walk_nrm
  refine F.aF ?_;try walk_nrm
  refine F.re ?_;refine F.cf rfl ?_;refine F.sk ?_;refine F.sq ?_;refine F.cw ?_;iterate 3 (refine F.aF ?_;try walk_nrm)
  refine F.cU ?_;try walk_nrm
  refine F.cU ?_;try walk_nrm
  refine F.aF ?_;try walk_nrm
  refine F.re ?_;refine F.ct rfl ?_;refine F.ctl (λ_=>stepG_ret') ?_;refine fG.mark p b H rfl (λw=>stepG_unwind_entry rfl func68 (by rfl) (by kernel_rfl) (by kernel_rfl) (e:=λ_=>do mark .enable;pure Extern.Race.none_) (by kernel_rfl) (v:=.tuple #[]) (evs:=#[⟨.mark .enable,false,true⟩]) (by simp[Extern.Race.none_]) (by simp) (by intro x j;simp at j;subst j;exact⟨rfl,λg h=>by cases h⟩)) (c9 (gY rfl trivial)) ?_;clear F;have F:=E 0 (L+1) (nb+1) b
  show fG _ _ _ _ _ _ _ _ _ _ _ _ 0 _ _
  refine F.bJ rfl rfl func88 (resultsC_none (by rfl) _) ?_;exact P
 .have f3:=G8 (m+1) 0 o (by decide)
  obtain⟨f1,f2⟩:=wu (m+1) 0 o (by decide);generalize ((m+1:Nat):Int)=y at V U T f3;generalize gv (m+1) 0=s at f1 f2 f3 ⊢;replace f2:bits .and .u64 s 2147483647=0:=f2;refine F.aF ?_;try walk_nrm
  refine F.re ?_;refine F.ctl (λ_=>stepG_ret') ?_;refine F.bJ rfl rfl func108 (resultsC_tmp (by rfl) _) ?_;rw[bO];try walk_nrm
  refine F.aF ?_;try walk_nrm
  refine F.es ?_;refine F.cw ?_;iterate 4 (refine F.aF ?_;try walk_nrm)
  refine F.cU ?_;try walk_nrm
  refine F.cU ?_;try walk_nrm
  refine F.aF ?_;try walk_nrm
  refine F.re ?_;refine F.cf rfl ?_;refine F.sk ?_;refine F.cw ?_;iterate 4 (refine F.aF ?_;try walk_nrm)
  refine F.dh ?_;iterate 4 (refine F.aF ?_;try walk_nrm)
  refine F.es ?_;refine F.cw ?_;iterate 10 (refine F.aF ?_;try walk_nrm)
  refine F.re ?_;refine F.cf rfl ?_;refine F.sk ?_;refine F.sq ?_;refine F.cw ?_;iterate 2 (refine F.aF ?_;try walk_nrm)
  refine F.re ?_;refine F.cf rfl ?_;refine F.sk ?_;refine F.sq ?_;refine F.cw ?_;iterate 3 (refine F.aF ?_;try walk_nrm)
  refine F.cU ?_;try walk_nrm
  refine F.cU ?_;try walk_nrm
  iterate 2 (refine F.aF ?_;try walk_nrm)
  refine F.cU ?_;try walk_nrm
  refine F.cU ?_;try walk_nrm
  refine F.cU ?_;try walk_nrm
  refine F.cU ?_;try walk_nrm
  refine F.aF ?_;try walk_nrm
  refine F.re ?_;refine F.cf rfl ?_;refine F.sk ?_;refine F.sq ?_;refine F.cw ?_;iterate 3 (refine F.aF ?_;try walk_nrm)
  refine F.cU ?_;try walk_nrm
  refine F.cU ?_;try walk_nrm
  refine F.aF ?_;try walk_nrm
  refine F.re ?_;refine F.ct rfl ?_;refine F.ctl (λ_=>stepG_ret') ?_;refine fG.mark p b H rfl (λw=>stepG_unwind_entry rfl func68 (by rfl) (by kernel_rfl) (by kernel_rfl) (e:=λ_=>do mark .enable;pure Extern.Race.none_) (by kernel_rfl) (v:=.tuple #[]) (evs:=#[⟨.mark .enable,false,true⟩]) (by simp[Extern.Race.none_]) (by simp) (by intro x j;simp at j;subst j;exact⟨rfl,λg h=>by cases h⟩)) (c9 (gY rfl trivial)) ?_;clear F;have F:=E 0 (L+1) (nb+1) b
  show fG _ _ _ _ _ _ _ _ _ _ _ _ 0 _ _
  refine F.bJ rfl rfl func88 (resultsC_none (by rfl) _) ?_;exact P
end Go.Proofs.YtobagnjnbmgidaaGreatDoor
