import Derived.Test.YtobagnjnbmgidabGreatDoorX41
set_option linter.all false
set_option maxHeartbeats 0
set_option maxRecDepth 100000
namespace Go.Proofs.YtobagnjnbmgidabGreatDoor
open Go.Conc Go.RowKit Tryz
variable{B m:Nat}{K:cK}{Shun:dm}{Anchor:kr}
def hU(A:Nat):qt:=⟨⟨A,5,none⟩,⟨A,6,none⟩,ψ⟩
def Pa{x:Nat}(a:x<2)(h:x=0\/0<m):(m=0/\x=0)\/(((m:Int)<0)=False/\(0<(m:Int))=True/\(x=0\/x=1)):=by
 grind
def nW(c:aC)(d:cO)(T:gd)(a:eC)(e:∃n,QuitsD prog n 0 (G (c.finish (.tuple #[])) d)):∃n,QuitsD prog n 1 (G {(base 87).at ⟨T,[dcall 67 #[]]⟩ a with mode:=.returning} (c::d)):=by
 have F:=nX (P:=prog) 0;have b:∃n,QuitsD prog n 0 (G {(base 87).at ⟨T,[]⟩ a with mode:=.returning} (c::d)):=by
  refine F.g9 rfl rfl func87 (resultsC_none φ _) ?_;exact e
 let⟨n,b⟩:=b;exact⟨n+1,QuitsD.unwind_mark .enable rfl ψ rfl func67 φ ρ ρ ρ b⟩
def Dh(A:Nat)(e:∀w,K w->∃v,w.cell? ⟨A,5,none⟩=some v)(c:aC)(f:cO)(d:∃n,QuitsD prog n 0 (G (c.finish (.tuple #[])) f)):
 ∃n,DP prog K (hU A) n 0 (G (Frame.enter prog 87 #[.pointer (some ⟨A,5,none⟩),.int .i64 (-1)] .normal) (c::f)):=by
 have F:=rN (P:=prog) (K:=K) (Gp:=hU A) 0;have c:IntKind.u64.wrap (-1)=18446744073709551615:=δ
 have c:IntKind.u64.wrap 79228162514264337589248983040=18446744069414584320:=δ
 have c:IntKind.i32.wrap 0=0:=δ
 have c:IntKind.u32.wrap 0=0:=δ
 have c:IntKind.u32.wrap 1=1:=δ
 have c:IntKind.u64.wrap 0=0:=δ
 have c:IntKind.i32.wrap (-1)=-1:=δ
 have c:=Yl;have c:=gD;have c:=tI;have c:=sH;simp only[enter_at _ func87 rfl,ntmps87];walk_nrm;refine F.sq ?_;refine F.ct rfl ?_;refine F.sq ?_;refine F.cF ?_;iterate 2 (refine F.aJ ?_)
 refine F.re ?_;refine F.ct rfl ?_;refine F.zA ?_;refine F.oq rfl rfl rfl η (λw a=>ζ) ?_;try walk_nrm
 apply F.AZ rfl rfl δ
 .intro w a;let⟨v,c⟩:=e w a;simp[go_sem,Ac c]
 .intro w a;let⟨v,c⟩:=e w a;go_simp;simp only[GI c];go_simp;rfl
 try walk_nrm
 refine NZ rfl (λw a=>stepG_markAt .releaseMerge ψ rfl rfl δ rfl func103 φ ρ ρ ρ (ad:=⟨A,5,none⟩) (by simp[Act.eval])) ?_;walk_nrm;clear F;have F:=rN (P:=prog) (K:=K) (Gp:=hU A) 1;refine F.dA ?_;refine Aa rfl (λw a=>stepG_mark0 .disable ψ rfl rfl δ rfl func65 φ ρ ρ ρ) ?_;walk_nrm;clear F;have F:=rN (P:=prog) (K:=K) (Gp:=hU A) 2;refine F.CZ ?_;refine F.ctl (λ_=>stepG_defer rfl rfl δ rfl) ?_;walk_nrm;refine F.dA ?_;refine F.oq rfl rfl rfl η (λw a=>ζ) ?_;try walk_nrm
 refine F.es ?_;refine F.cF ?_;refine F.ctl (λ_=>stepG_entry_pure (.bool false) rfl rfl δ rfl func73 φ ρ ρ ρ) ?_;walk_nrm;refine F.re ?_;refine F.cf rfl ?_;refine F.sk ?_;refine F.cF ?_;iterate 6 (refine F.aJ ?_)
 refine F.uO func107 ?_;simp only[enter_at _ func107 rfl,ntmps107];walk_nrm;refine F.cF ?_;refine F.oq rfl rfl rfl η (λw a=>ζ) ?_;try walk_nrm
 refine F.dA ?_;iterate 4 (refine F.aJ ?_)
 apply N1 rfl
 .intro m x e c f;refine⟨?qQ,?qZ,?qJ⟩
  case qZ=>
   intro w a b;rw[stepG_add_atomic (w:=w) (ad:=⟨A,5,none⟩) (v:=gv (m+1) x) (d:=18446744069414584320) rfl rfl δ rfl func121 φ ρ ρ .u64 ρ rfl rfl b.1 b.2,NI m x e c];rfl
  walk_nrm;let⟨f1,f2⟩:=YL m x (BX e) c;have f3:=F6 m x (BX e) c;clear F;have F:=nX (P:=prog) 1;rcases Pa c f with ⟨rfl,rfl⟩|⟨h,g,i⟩
  .rw[show gv 0 0=0 from rfl];clear f1 f2 f3;refine F.oq rfl rfl rfl η (λw a=>ζ) ?_;try walk_nrm
   refine F.tC func107 ?_;rw[bQ];try walk_nrm
   refine F.oq rfl rfl rfl η (λw a=>ζ) ?_;try walk_nrm
   refine F.es ?_;refine F.cF ?_;iterate 4 (refine F.aJ ?_)
   refine F.dK ?_;refine F.dK ?_;refine F.oq rfl rfl rfl η (λw a=>ζ) ?_;try walk_nrm
   refine F.re ?_;refine F.cf rfl ?_;refine F.sk ?_;refine F.cF ?_;iterate 4 (refine F.aJ ?_)
   refine F.dA ?_;iterate 4 (refine F.aJ ?_)
   refine F.es ?_;refine F.cF ?_;iterate 5 (refine F.aJ ?_)
   refine F.dK ?_;refine F.dK ?_;refine F.dK ?_;refine F.dK ?_;refine F.oq rfl rfl rfl η (λw a=>ζ) ?_;try walk_nrm
   refine F.re ?_;refine F.cf rfl ?_;refine F.sk ?_;refine F.sq ?_;refine F.cF ?_;iterate 2 (refine F.aJ ?_)
   refine F.re ?_;refine F.cf rfl ?_;refine F.sk ?_;refine F.sq ?_;refine F.cF ?_;iterate 3 (refine F.aJ ?_)
   refine F.dK ?_;refine F.dK ?_;iterate 2 (refine F.aJ ?_)
   refine F.dK ?_;refine F.dK ?_;refine F.dK ?_;refine F.dK ?_;refine F.oq rfl rfl rfl η (λw a=>ζ) ?_;try walk_nrm
   refine F.re ?_;refine F.cf rfl ?_;refine F.sk ?_;refine F.sq ?_;refine F.cF ?_;iterate 6 (refine F.aJ ?_)
   refine F.re ?_;refine F.ct rfl ?_;refine F.ctl (λ_=>stepG_ret') ?_;exact nW _ _ _ _ d
  generalize gv m x=s at f1 f2 f3 ⊢;generalize (m:Int)=y at f3 h g;rcases i with rfl|rfl
  .replace f2:bits .and .u64 s 2147483647=0:=f2;refine F.oq rfl rfl rfl η (λw a=>ζ) ?_;try walk_nrm
   refine F.tC func107 ?_;rw[bQ];try walk_nrm
   refine F.oq rfl rfl rfl η (λw a=>ζ) ?_;try walk_nrm
   refine F.es ?_;refine F.cF ?_;iterate 4 (refine F.aJ ?_)
   refine F.dK ?_;refine F.dK ?_;refine F.oq rfl rfl rfl η (λw a=>ζ) ?_;try walk_nrm
   refine F.re ?_;refine F.cf rfl ?_;refine F.sk ?_;refine F.cF ?_;iterate 4 (refine F.aJ ?_)
   refine F.dA ?_;iterate 4 (refine F.aJ ?_)
   refine F.es ?_;refine F.cF ?_;iterate 5 (refine F.aJ ?_)
   refine F.dK ?_;refine F.dK ?_;refine F.dK ?_;refine F.dK ?_;refine F.oq rfl rfl rfl η (λw a=>ζ) ?_;try walk_nrm
   refine F.re ?_;refine F.cf rfl ?_;refine F.sk ?_;refine F.sq ?_;refine F.cF ?_;iterate 2 (refine F.aJ ?_)
   refine F.re ?_;refine F.cf rfl ?_;refine F.sk ?_;refine F.sq ?_;refine F.cF ?_;iterate 3 (refine F.aJ ?_)
   refine F.dK ?_;refine F.dK ?_;iterate 2 (refine F.aJ ?_)
   refine F.dK ?_;refine F.dK ?_;refine F.dK ?_;refine F.dK ?_;refine F.oq rfl rfl rfl η (λw a=>ζ) ?_;try walk_nrm
   refine F.re ?_;refine F.cf rfl ?_;refine F.sk ?_;refine F.sq ?_;refine F.cF ?_;iterate 3 (refine F.aJ ?_)
   refine F.dK ?_;refine F.dK ?_;refine F.oq rfl rfl rfl η (λw a=>ζ) ?_;try walk_nrm
   refine F.re ?_;refine F.ct rfl ?_;refine F.ctl (λ_=>stepG_ret') ?_;exact nW _ _ _ _ d
  .replace f2:bits .and .u64 s 2147483647=1:=f2;refine F.oq rfl rfl rfl η (λw a=>ζ) ?_;try walk_nrm
   refine F.tC func107 ?_;rw[bQ];try walk_nrm
   refine F.oq rfl rfl rfl η (λw a=>ζ) ?_;try walk_nrm
   refine F.es ?_;refine F.cF ?_;iterate 4 (refine F.aJ ?_)
   refine F.dK ?_;refine F.dK ?_;refine F.oq rfl rfl rfl η (λw a=>ζ) ?_;try walk_nrm
   refine F.re ?_;refine F.cf rfl ?_;refine F.sk ?_;refine F.cF ?_;iterate 4 (refine F.aJ ?_)
   refine F.dA ?_;iterate 4 (refine F.aJ ?_)
   refine F.es ?_;refine F.cF ?_;iterate 5 (refine F.aJ ?_)
   refine F.dK ?_;refine F.dK ?_;refine F.dK ?_;refine F.dK ?_;refine F.oq rfl rfl rfl η (λw a=>ζ) ?_;try walk_nrm
   refine F.re ?_;refine F.cf rfl ?_;refine F.sk ?_;refine F.sq ?_;refine F.cF ?_;iterate 2 (refine F.aJ ?_)
   refine F.re ?_;refine F.cf rfl ?_;refine F.sk ?_;refine F.sq ?_;refine F.cF ?_;iterate 7 (refine F.aJ ?_)
   refine F.dK ?_;refine F.dK ?_;refine F.dK ?_;refine F.dK ?_;refine F.oq rfl rfl rfl η (λw a=>ζ) ?_;try walk_nrm
   refine F.re ?_;refine F.cf rfl ?_;refine F.sk ?_;refine F.sq ?_;refine F.cF ?_;iterate 3 (refine F.aJ ?_)
   refine F.dK ?_;refine F.dK ?_;refine F.oq rfl rfl rfl η (λw a=>ζ) ?_;try walk_nrm
   refine F.re ?_;refine F.ct rfl ?_;refine F.ctl (λ_=>stepG_ret') ?_;exact nW _ _ _ _ d
 have e:gv 1 1=4294967297:=rfl;have qX:gv 0 1=1:=rfl;have c:gv 0 0=0:=rfl;have c:IntKind.u64.wrap (4294967297+18446744069414584320)=1:=δ
 refine⟨?qX,?qK,?qV⟩
 case qK=>
  intro w a b;rw[e]at b;rw[stepG_add_atomic (w:=w) (ad:=⟨A,5,none⟩) (v:=4294967297) (d:=18446744069414584320) rfl rfl δ rfl func121 φ ρ ρ .u64 ρ rfl rfl b.1 b.2,c];rfl
 walk_nrm;try simp only[c]
 clear e c;clear F;have F:=rN (P:=prog) (K:=K) (Gp:=hU A) 3;refine F.oq rfl rfl rfl η (λw a=>ζ) ?_;try walk_nrm
 refine F.tC func107 ?_;try rw[qX]
 rw[bQ];try walk_nrm
 refine F.oq rfl rfl rfl η (λw a=>ζ) ?_;try walk_nrm
 refine F.es ?_;refine F.cF ?_;iterate 4 (refine F.aJ ?_)
 refine F.dK ?_;refine F.dK ?_;refine F.oq rfl rfl rfl η (λw a=>ζ) ?_;try walk_nrm
 refine F.re ?_;refine F.cf rfl ?_;refine F.sk ?_;refine F.cF ?_;iterate 4 (refine F.aJ ?_)
 refine F.dA ?_;iterate 4 (refine F.aJ ?_)
 refine F.es ?_;refine F.cF ?_;iterate 5 (refine F.aJ ?_)
 refine F.dK ?_;refine F.dK ?_;refine F.dK ?_;refine F.dK ?_;refine F.oq rfl rfl rfl η (λw a=>ζ) ?_;try walk_nrm
 refine F.re ?_;refine F.cf rfl ?_;refine F.sk ?_;refine F.sq ?_;refine F.cF ?_;iterate 2 (refine F.aJ ?_)
 refine F.re ?_;refine F.cf rfl ?_;refine F.sk ?_;refine F.sq ?_;refine F.cF ?_;iterate 7 (refine F.aJ ?_)
 refine F.dK ?_;refine F.dK ?_;refine F.dK ?_;refine F.dK ?_;refine F.oq rfl rfl rfl η (λw a=>ζ) ?_;try walk_nrm
 refine F.re ?_;refine F.cf rfl ?_;refine F.sk ?_;refine F.sq ?_;refine F.cF ?_;iterate 6 (refine F.aJ ?_)
 refine F.re ?_;refine F.cf rfl ?_;refine F.sk ?_;refine F.sq ?_;refine F.cF ?_;iterate 3 (refine F.aJ ?_)
 refine F.uO func66 ?_;simp only[enter_at _ func66 rfl,ntmps66];walk_nrm;refine F.cF ?_;refine F.oq rfl rfl rfl η (λw a=>ζ) ?_;try walk_nrm
 refine F.dA ?_;iterate 3 (refine F.aJ ?_)
 refine Jq rfl (λw a b=>stepG_load_atomic (ad:=⟨A,5,none⟩) (v:=1) rfl rfl δ rfl func95 φ ρ ρ .u64 ρ rfl b.1) ?_;walk_nrm;clear F;have F:=rN (P:=prog) (K:=K) (Gp:=hU A) 4;refine F.oq rfl rfl rfl η (λw a=>ζ) ?_;try walk_nrm
 refine F.tC func66 ?_;rw[bQ];try walk_nrm
 iterate 2 (refine F.aJ ?_)
 refine F.re ?_;refine F.cf rfl ?_;refine F.sk ?_;refine F.cF ?_;iterate 3 (refine F.aJ ?_)
 refine F.uO func109 ?_;simp only[enter_at _ func109 rfl,ntmps109];walk_nrm;refine F.zA ?_;iterate 4 (refine F.aJ ?_)
 refine GA rfl (λw a b=>stepG_store_atomic (ad:=⟨A,5,none⟩) (k:=.u64) (v:=0) rfl rfl δ rfl func122 φ ρ ρ ρ rfl rfl b.1 b.2) ?_;walk_nrm;clear F;have F:=rN (P:=prog) (K:=K) (Gp:=hU A) 5;refine F.Du func109 ?_;rw[bQ];try walk_nrm
 refine F.es ?_;refine F.sr ?_;simp only[rg];refine F.oq rfl rfl rfl η (λw a=>ζ) ?_;try walk_nrm
 refine F.re ?_;refine F.cf rfl ?_;refine F.sk ?_;refine F.bl ?_;refine F.ctl (λ_=>stepG_loop) ?_;refine F.sq ?_;refine F.cF ?_;iterate 2 (refine F.aJ ?_)
 refine F.re ?_;refine F.ct rfl ?_;refine F.sk ?_;refine F.sq ?_;refine F.bl ?_;refine F.zA ?_;iterate 3 (refine F.aJ ?_)
 refine Dg rfl ρ rfl (λw a b=>stepG_semrelease (ad:=⟨A,6,none⟩) (n:=0) rfl rfl δ rfl func110 φ ρ ρ ρ (by simp[Act.eval]) b.1 b.2) ?_;walk_nrm;clear F;have F:=nX (P:=prog) 1;refine F.re ?_;refine F.ib ?_;refine F.zA ?_;iterate 3 (refine F.aJ ?_)
 refine F.re ?_;refine F.ctl (λ_=>stepG_inLoop) ?_;refine F.sq ?_;refine F.cF ?_;iterate 2 (refine F.aJ ?_)
 refine F.re ?_;refine F.cf rfl ?_;refine F.ctl (λ_=>stepG_exit rfl) ?_;refine F.ctl (λ_=>stepG_end) ?_;exact nW _ _ _ _ d
def MO(f:Func):Code:=match f.body with|some (.seq _ (.block _ (.loop b)))=>b|_=>.skip
def NF(h:0<m):((m:Int)==0)=false:=θ
def Ri{a:Nat}(h:a<m):gv a 0≠gv m 0:=λe=>by unfold gv at e;omega
def CD(A:Nat)(d:∀w,K w->∃v,w.cell? ⟨A,5,none⟩=some v)(XL:∀w,K w->∃v,w.cell? ⟨A,6,none⟩=some v)(c:aC)(cs:cO)(e:∀k,∃n,WS prog K Shun B (hU A) Anchor k n 8 (G (c.finish (.tuple #[])) cs))(k:Nat):k<=9999->∀y1 y2 y3 y4 y5 y6 y7 y8 y9 SX ZC SV SU SS SR SQ SP SO SN SM SL SK SJ SI SH SG SF SE SD SC SB SA Sz Sy WX WW WV WU WT WR WQ WO WN WM WL WK WJ WI Z Y X W V U T S R Q P O N M L J I H E D C z y x u t s r q p o l j i g:Value,
 ∃n,WS prog K Shun B (hU A) Anchor k n 1 (G ((base 54).at ⟨List.toArray (.pointer (some ⟨A,5,none⟩)::y1::y2::y3::y4::y5::y6::y7::y8::y9::SX::ZC::SV::SU::SS::SR::SQ::SP::SO::SN::SM::SL::SK::SJ::SI::SH::SG::SF::SE::SD::SC::SB::SA::Sz::Sy::WX::WW::WV::WU::WT::WR::WQ::WO::WN::WM::WL::WK::WJ::WI::Z::Y::X::W::V::U::T::S::R::Q::P::O::N::M::L::J::I::H::E::D::C::z::y::x::u::t::s::r::q::p::o::l::j::i::g::[]),[]⟩ [.code (MO f54),.inLoop (MO f54),.inBlock 0]) (c::cs)):=by
 induction k using Nat.strongRecOn with
 |_ k ih=>
 intro hk y1 y2 y3 y4 y5 y6 y7 y8 y9 SX ZC SV SU SS SR SQ SP SO SN SM SL SK SJ SI SH SG SF SE SD SC SB SA Sz Sy WX WW WV WU WT WR WQ WO WN WM WL WK WJ WI Z Y X W V U T S R Q P O N M L J I H E D C z y x u t s r q p o l j i g;have F:=iW (P:=prog) (K:=K) (Shun:=Shun) (B:=B) (Gp:=hU A) (Anchor:=Anchor) k 1;have c:IntKind.u32.wrap 0=0:=δ
 have c:IntKind.u64.wrap 0=0:=δ
 have c:IntKind.i32.wrap 0=0:=δ
 have c:=Yl;have c:=gD;simp only[MO,f54];refine F.bl ?_;refine F.cF ?_;iterate 3 (refine F.aJ ?_)
 refine F.uO func66 ?_;simp only[enter_at _ func66 rfl,ntmps66];walk_nrm;refine F.cF ?_;refine F.oq rfl rfl rfl η (λw a=>ζ) ?_;try walk_nrm
 refine F.dA ?_;iterate 3 (refine F.aJ ?_)
 apply HF rfl
 .intro m c mk;have f3:=F6 m 0 (DO (aT mk hk)) δ;let⟨f1,f2⟩:=YL m 0 (DO (aT mk hk)) δ;replace f2:bits .and .u64 (gv m 0) 2147483647=0:=f2;have f4:=NG m (DO (aT mk hk));have f5:=NF c;refine⟨?qQ,?qZ,?qJ⟩
  case qZ=>
   intro w a b;rw[stepG_load_atomic (w:=w) (ad:=⟨A,5,none⟩) (v:=gv m 0) rfl rfl δ rfl func95 φ ρ ρ .u64 ρ rfl b.1];rfl
  walk_nrm;clear F;have F:=iW (P:=prog) (K:=K) (Shun:=Shun) (B:=B) (Gp:=hU A) (Anchor:=Anchor) k (100+m);refine F.oq rfl rfl rfl η (λw a=>ζ) ?_;try walk_nrm
  refine F.tC func66 ?_;rw[bQ];try walk_nrm
  refine F.oq rfl rfl rfl η (λw a=>ζ) ?_;try walk_nrm
  refine F.dA ?_;iterate 4 (refine F.aJ ?_)
  refine F.dA ?_;iterate 4 (refine F.aJ ?_)
  refine F.es ?_;refine F.cF ?_;iterate 2 (refine F.aJ ?_)
  refine F.re ?_;refine F.cf rfl ?_;refine F.sk ?_;refine F.cF ?_;iterate 6 (refine F.aJ ?_)
  refine F.uO func70 ?_;simp only[enter_at _ func70 rfl,ntmps70];walk_nrm;refine F.cF ?_;refine F.oq rfl rfl rfl η (λw a=>ζ) ?_;try walk_nrm
  refine F.dA ?_;iterate 5 (refine F.aJ ?_)
  refine HE c mk rfl (λw a b=>stepG_cas_hit (ad:=⟨A,5,none⟩) (v:=gv m 0) (n:=gv m 1) rfl rfl δ rfl func96 φ ρ ρ .u64 ρ rfl rfl rfl b.1 b.2) ?_ ?_
  rotate_left
  .intro i g;refine⟨?qX,?qK,?qV⟩
   case qK=>
    intro w a b;rw[stepG_cas_miss (w:=w) (ad:=⟨A,5,none⟩) (v:=gv i 0) (old:=gv m 0) (n:=gv m 1) rfl rfl δ rfl func96 φ ρ ρ .u64 ρ rfl rfl rfl b.1 b.2 (Ri g)];rfl
   obtain⟨f,rfl⟩:∃f,k=f+1:=⟨k-1,(LA (aT c mk)).symm⟩;refine(fun⟨n,h⟩=>⟨f,n,rfl,h⟩:(∃n,WS prog K Shun B (hU A) Anchor f n 1 _)->_) ?_;walk_nrm;clear F;have F:=iW (P:=prog) (K:=K) (Shun:=Shun) (B:=B) (Gp:=hU A) (Anchor:=Anchor) f 1;refine F.oq rfl rfl rfl η (λw a=>ζ) ?_;try walk_nrm
   refine F.tC func70 ?_;rw[bQ];try walk_nrm
   refine F.re ?_;refine F.cf rfl ?_;refine F.sk ?_;refine F.ib ?_;refine F.ctl (λ_=>stepG_inLoop) ?_;exact ih f (gr _) (Nat.le_of_succ_le hk) _ _ _ _ _ _ _ _ _ _ _ _ _ _ _ _ _ _ _ _ _ _ _ _ _ _ _ _ _ _ _ _ _ _ _ _ _ _ _ _ _ _ _ _ _ _ _ _ _ _ _ _ _ _ _ _ _ _ _ _ _ _ _ _ _ _ _ _ _ _ _ _ _ _ _ _ _ _ _ _ _ _ _
  walk_nrm;clear F;have F:=iW (P:=prog) (K:=K) (Shun:=Shun) (B:=B) (Gp:=hU A) (Anchor:=Anchor) k 3;refine F.oq rfl rfl rfl η (λw a=>ζ) ?_;try walk_nrm
  refine F.tC func70 ?_;rw[bQ];try walk_nrm
  refine F.re ?_;refine F.ct rfl ?_;refine F.sq ?_;refine F.cF ?_;iterate 4 (refine F.aJ ?_)
  refine F.re ?_;refine F.ct rfl ?_;refine F.zA ?_;iterate 3 (refine F.aJ ?_)
  apply F.AZ rfl rfl δ
  .intro w a;let⟨v,c⟩:=XL w a;simp[go_sem,GH c]
  .intro w a;let⟨v,c⟩:=XL w a;go_simp;simp only[La c];go_simp;rfl
  try walk_nrm
  refine Ed rfl (λw a=>stepG_markAt .write ψ rfl rfl δ rfl func72 φ ρ ρ ρ (ad:=⟨A,6,none⟩) (by simp[Act.eval])) ?_;walk_nrm;clear F;have F:=iW (P:=prog) (K:=K) (Shun:=Shun) (B:=B) (Gp:=hU A) (Anchor:=Anchor) k 4;refine F.dA ?_;refine F.oq rfl rfl rfl η (λw a=>ζ) ?_;try walk_nrm
  refine F.es ?_;refine F.cF ?_;iterate 4 (refine F.aJ ?_)
  refine F.dK ?_;refine F.oq rfl rfl rfl η (λw a=>ζ) ?_;try walk_nrm
  refine F.re ?_;refine F.cf rfl ?_;refine F.sk ?_;refine F.cF ?_;iterate 4 (refine F.aJ ?_)
  refine LP rfl rfl (λw a b=>stepG_semacquire (ad:=⟨A,6,none⟩) (n:=1) rfl rfl δ rfl func74 φ ρ ρ ρ (by simp[Act.eval]) b.1 δ b.2) (λw a b=>stepG_semacquire_wait (ad:=⟨A,6,none⟩) rfl rfl rfl func74 φ ρ ρ ρ (by simp[Act.eval]) b.1) ?_;walk_nrm;clear F;have F:=iW (P:=prog) (K:=K) (Shun:=Shun) (B:=B) (Gp:=hU A) (Anchor:=Anchor) k 5;refine F.dA ?_;iterate 3 (refine F.aJ ?_)
  refine F.uO func66 ?_;simp only[enter_at _ func66 rfl,ntmps66];walk_nrm;refine F.cF ?_;refine F.oq rfl rfl rfl η (λw a=>ζ) ?_;try walk_nrm
  refine F.dA ?_;iterate 3 (refine F.aJ ?_)
  refine Ee rfl (λw a b=>stepG_load_atomic (ad:=⟨A,5,none⟩) (v:=0) rfl rfl δ rfl func95 φ ρ ρ .u64 ρ rfl b.1) ?_;walk_nrm;clear F;have F:=iW (P:=prog) (K:=K) (Shun:=Shun) (B:=B) (Gp:=hU A) (Anchor:=Anchor) k 6;refine F.oq rfl rfl rfl η (λw a=>ζ) ?_;try walk_nrm
  refine F.tC func66 ?_;rw[bQ];try walk_nrm
  iterate 2 (refine F.aJ ?_)
  refine F.es ?_;refine F.ct rfl ?_;refine F.cF ?_;refine ur rfl (λw a=>stepG_mark0 .enable ψ rfl rfl δ rfl func67 φ ρ ρ ρ) ?_;walk_nrm;clear F;have F:=iW (P:=prog) (K:=K) (Shun:=Shun) (B:=B) (Gp:=hU A) (Anchor:=Anchor) k 7;refine F.CZ ?_;refine F.oq rfl rfl rfl η (λw a=>ζ) ?_;try walk_nrm
  apply F.AZ rfl rfl δ
  .intro w a;let⟨v,c⟩:=d w a;simp[go_sem,Ac c]
  .intro w a;let⟨v,c⟩:=d w a;go_simp;simp only[GI c];go_simp;rfl
  try walk_nrm
  refine rz rfl (λw a=>stepG_markAt .acquire ψ rfl rfl δ rfl func68 φ ρ ρ ρ (ad:=⟨A,5,none⟩) (by simp[Act.eval])) ?_;walk_nrm;clear F;have F:=iW (P:=prog) (K:=K) (Shun:=Shun) (B:=B) (Gp:=hU A) (Anchor:=Anchor) k 8;refine F.es ?_;refine F.cF ?_;refine F.oq rfl rfl rfl η (λw a=>ζ) ?_;try walk_nrm
  refine F.re ?_;refine F.cf rfl ?_;refine F.sk ?_;refine F.ctl (λ_=>stepG_ret') ?_;refine F.g9 rfl rfl func54 (resultsC_none φ _) ?_;exact e k
 refine⟨?qW,?qY,?qU⟩
 case qY=>
  intro w a b;rw[stepG_load_atomic (w:=w) (ad:=⟨A,5,none⟩) (v:=0) rfl rfl δ rfl func95 φ ρ ρ .u64 ρ rfl b.1];rfl
 walk_nrm;clear F;have F:=iW (P:=prog) (K:=K) (Shun:=Shun) (B:=B) (Gp:=hU A) (Anchor:=Anchor) k 6;refine F.oq rfl rfl rfl η (λw a=>ζ) ?_;try walk_nrm
 refine F.tC func66 ?_;rw[bQ];try walk_nrm
 refine F.oq rfl rfl rfl η (λw a=>ζ) ?_;try walk_nrm
 refine F.dA ?_;iterate 4 (refine F.aJ ?_)
 refine F.dA ?_;iterate 4 (refine F.aJ ?_)
 refine F.es ?_;refine F.cF ?_;iterate 2 (refine F.aJ ?_)
 refine F.re ?_;refine F.ct rfl ?_;refine F.sq ?_;refine F.ct rfl ?_;refine F.cF ?_;refine ur rfl (λw a=>stepG_mark0 .enable ψ rfl rfl δ rfl func67 φ ρ ρ ρ) ?_;walk_nrm;clear F;have F:=iW (P:=prog) (K:=K) (Shun:=Shun) (B:=B) (Gp:=hU A) (Anchor:=Anchor) k 7;refine F.CZ ?_;refine F.oq rfl rfl rfl η (λw a=>ζ) ?_;try walk_nrm
 apply F.AZ rfl rfl δ
 .intro w a;let⟨v,c⟩:=d w a;simp[go_sem,Ac c]
 .intro w a;let⟨v,c⟩:=d w a;go_simp;simp only[GI c];go_simp;rfl
 try walk_nrm
 refine rz rfl (λw a=>stepG_markAt .acquire ψ rfl rfl δ rfl func68 φ ρ ρ ρ (ad:=⟨A,5,none⟩) (by simp[Act.eval])) ?_;walk_nrm;clear F;have F:=iW (P:=prog) (K:=K) (Shun:=Shun) (B:=B) (Gp:=hU A) (Anchor:=Anchor) k 8;refine F.es ?_;refine F.cF ?_;iterate 8 (refine F.aJ ?_)
 refine F.dK ?_;refine F.dK ?_;refine F.oq rfl rfl rfl η (λw a=>ζ) ?_;try walk_nrm
 refine F.re ?_;refine F.cf rfl ?_;refine F.sk ?_;refine F.ctl (λ_=>stepG_ret') ?_;refine F.g9 rfl rfl func54 (resultsC_none φ _) ?_;exact e k
def Ce(A:Nat)(d:∀w,K w->∃v,w.cell? ⟨A,5,none⟩=some v)(b:∀w,K w->∃v,w.cell? ⟨A,6,none⟩=some v)(c:aC)(e:cO)(a:∀k,∃n,WS prog K Shun B (hU A) Anchor k n 8 (G (c.finish (.tuple #[])) e))(k:Nat)(f:k<=9999):
 ∃n,WS prog K Shun B (hU A) Anchor k n 0 (G (Frame.enter prog 54 #[.pointer (some ⟨A,5,none⟩)] .normal) (c::e)):=by
 have F:=iW (P:=prog) (K:=K) (Shun:=Shun) (B:=B) (Gp:=hU A) (Anchor:=Anchor) k 0;simp only[enter_at _ func54 rfl,ntmps54];walk_nrm;refine F.sq ?_;refine F.ct rfl ?_;refine F.zA ?_;refine zh rfl (λw g=>stepG_mark0 .disable ψ rfl rfl δ rfl func65 φ ρ ρ ρ) ?_;walk_nrm;clear F;have F:=iW (P:=prog) (K:=K) (Shun:=Shun) (B:=B) (Gp:=hU A) (Anchor:=Anchor) k 1;refine F.re ?_;refine F.bl ?_;refine F.ctl (λ_=>stepG_loop) ?_;exact CD A d b c e a k f _ _ _ _ _ _ _ _ _ _ _ _ _ _ _ _ _ _ _ _ _ _ _ _ _ _ _ _ _ _ _ _ _ _ _ _ _ _ _ _ _ _ _ _ _ _ _ _ _ _ _ _ _ _ _ _ _ _ _ _ _ _ _ _ _ _ _ _ _ _ _ _ _ _ _ _ _ _ _ _ _ _ _
def Em(m:Nat):m=0\/((((m+1:Nat):Int)==1)=false/\(((m+1:Nat):Int)<0)=False/\(0<((m+1:Nat):Int))=True):=by
 grind
def Oq{b:qz}{Q:cK}{St:Nat->Loc->Prop}{f:Nat->Option Seat}{D:yW}{L e n:Nat}(A:Nat)(j:GK K Shun (hU A))(h:e<=9998)(p:∀w d,Q w->Q (w.at d))(o:∀dl L e,e<=9999->aB prog true D (fP prog b K Q Shun St f (hU A) L e 0 n dl))(q:∀l,nG St (λg=>(f g).isSome) l->¬Shun l)(r:∀w,K w->∃v,w.cell? ⟨A,5,none⟩=some v)(l:∀w,K w->∃v,w.cell? ⟨A,6,none⟩=some v)(c:aC)(v:cO)(w:aj)(t:fP prog b K Q Shun St f (hU A) (L+1) (e+1) 0 n 0 (G (c.finish (.tuple #[])) v) w):
 fP prog b K Q Shun St f (hU A) L e 0 n 0 (G (Frame.enter prog 87 #[.pointer (some ⟨A,5,none⟩),.int .i64 1] .normal) (c::v)) w:=by
 refine fP.assume j λn _=>?_;have b:e<=9999:=Nat.le_succ_of_le h;have a:e+1<=9999:=Nat.succ_le_succ h;let⟨_,c⟩:=l w n;let⟨_,l⟩:=r w n;have k:A<w.heap.size:=au l;have n:¬nG St (λg=>(f g).isSome) (.cell ⟨A,5,none⟩):=λz=>q _ z j.sh;have f:∀d,(convert 198 194 (.pointer (some ⟨A,6,none⟩))).run prog (w.at d)=.ok (.pointer (some ⟨A,6,none⟩)) (w.at d):=λd=>La (w:=w.at d) c;have f:∀d,(convert 198 194 (.pointer (some ⟨A,6,none⟩))).events prog (w.at d) #[]=#[]:=λd=>GH (w:=w.at d) c;have F:=o 0 L e b;have f:IntKind.u64.wrap 1=1:=δ
 have f:IntKind.u64.wrap 4294967296=4294967296:=δ
 have f:IntKind.i32.wrap 1=1:=δ
 have f:IntKind.u32.wrap 0=0:=δ
 have f:=PJ;have f:=xR;clear l c;simp only[enter_at _ func87 rfl,ntmps87];walk_nrm;refine F.sq ?_;refine F.ct rfl ?_;refine F.sq ?_;refine F.cF ?_;iterate 2 (refine F.aJ ?_)
 refine F.re ?_;refine F.cf rfl ?_;refine F.sk ?_;refine F.cF ?_;refine fP.mark j b p rfl (λw=>stepG_mark0 .disable ψ rfl rfl δ rfl func65 φ ρ ρ ρ) (c8 (ij rfl trivial)) ?_;clear F;have F:=o 1 L e b;show fP _ _ _ _ _ _ _ _ _ _ _ _ 1 _ _;walk_nrm;refine F.er ?_;simp only[rg];refine F.ctl (λ_=>stepG_defer rfl rfl δ rfl) ?_;walk_nrm;refine F.V8 ?_;simp only[rg];refine F.aJ ?_;refine F.es ?_;refine F.cF ?_;refine F.ctl (λ_=>stepG_entry_pure (.bool false) rfl rfl δ rfl func73 φ ρ ρ ρ) ?_;walk_nrm;refine F.re ?_;refine F.cf rfl ?_;refine F.sk ?_;refine F.cF ?_;iterate 6 (refine F.aJ ?_)
 refine F.uO func107 ?_;simp only[enter_at _ func107 rfl,ntmps107];walk_nrm;refine F.cF ?_;refine F.aJ ?_;refine F.dA ?_;iterate 4 (refine F.aJ ?_)
 refine fP.add (g':=?qQ) (es:=#[⟨.cell ⟨A,5,none⟩,false,true⟩,⟨.cell ⟨A,5,none⟩,true,true⟩]) j b rfl ?qZ (pg (dz (a:=⟨A,5,none⟩) n k) (dz (a:=⟨A,5,none⟩) n k)) ?qJ
 case qZ=>
  intro d m c f;have b:=zg j f m;rw[stepG_add_atomic (w:=Wv (hU A) (w.at d) m) (ad:=⟨A,5,none⟩) (v:=gv m 0) (d:=4294967296) rfl rfl δ rfl func121 φ ρ ρ .u64 ρ rfl rfl b.1 b.2,NH m (DO (aT c h))];rw[show(Wv (hU A) (w.at d) m).setCell ⟨A,5,none⟩ (.int .u64 (gv (m+1) 0))=Wv (hU A) (w.at d) (m+1)from set_set _ _ _ _]
 intro m c;clear F;have F:=o 1 (L+1) (e+1) a;show fP _ _ _ _ _ _ _ _ _ _ _ _ 1 _ _;walk_nrm;have i:m+1<10000:=YW (DO (aT c h));rcases Em m with rfl|⟨E,C,B⟩
 .rw[show gv (0+1) 0=4294967296 from rfl];refine F.aJ ?_;refine F.tC func107 ?_;rw[bQ];try walk_nrm
  refine F.aJ ?_;refine F.es ?_;refine F.cF ?_;iterate 4 (refine F.aJ ?_)
  refine F.dK ?_;refine F.dK ?_;refine F.aJ ?_;refine F.re ?_;refine F.cf rfl ?_;refine F.sk ?_;refine F.cF ?_;iterate 4 (refine F.aJ ?_)
  refine F.dA ?_;iterate 4 (refine F.aJ ?_)
  refine F.es ?_;refine F.cF ?_;iterate 10 (refine F.aJ ?_)
  refine F.re ?_;refine F.ct rfl ?_;refine F.zA ?_;iterate 4 (refine F.oq rfl rfl rfl (λ_=>by first|(simp[go_sem];done)|simp[go_sem, *]) λd K u=>?_;go_simp;refine u _ ?_;clear u K d;try walk_nrm)
  refine fP.mark j a p rfl (λw=>stepG_markAt .read ψ rfl rfl δ rfl func108 φ ρ ρ ρ (ad:=⟨A,6,none⟩) (by simp[Act.eval])) (c8 ?_) ?_
  .refine⟨λx H=>?_,k⟩;simp[MemAct.ofEvent,MemAct.touch?]at H;grind
  show fP _ _ _ _ _ _ _ _ _ _ _ _ 1 _ _;walk_nrm;refine F.es ?_;refine F.cF ?_;iterate 2 (refine F.aJ ?_)
  refine F.re ?_;refine F.cf rfl ?_;refine F.sk ?_;refine F.sq ?_;refine F.cF ?_;iterate 3 (refine F.aJ ?_)
  refine F.dK ?_;refine F.dK ?_;iterate 2 (refine F.aJ ?_)
  refine F.dK ?_;refine F.dK ?_;refine F.dK ?_;refine F.dK ?_;refine F.aJ ?_;refine F.re ?_;refine F.cf rfl ?_;refine F.sk ?_;refine F.sq ?_;refine F.cF ?_;iterate 3 (refine F.aJ ?_)
  refine F.dK ?_;refine F.dK ?_;refine F.aJ ?_;refine F.re ?_;refine F.ct rfl ?_;refine F.ctl (λ_=>stepG_ret') ?_;refine fP.mark j a p rfl (λw=>stepG_unwind_entry rfl func67 φ ρ ρ (e:=λ_=>do mark .enable;pure Extern.Race.none_) ρ (v:=.tuple #[]) (evs:=#[⟨.mark .enable,false,true⟩]) φ ψ ψ) (c8 (ij rfl trivial)) ?_;clear F;have F:=o 0 (L+1) (e+1) a;show fP _ _ _ _ _ _ _ _ _ _ _ _ 0 _ _;refine F.g9 rfl rfl func87 (resultsC_none φ _) ?_;exact t
 .have f3:=F6 (m+1) 0 i δ;let⟨f1,f2⟩:=YL (m+1) 0 i δ;generalize ((m+1:Nat):Int)=y at E C B f3;generalize gv (m+1) 0=s at f1 f2 f3 ⊢;replace f2:bits .and .u64 s 2147483647=0:=f2;refine F.aJ ?_;refine F.tC func107 ?_;rw[bQ];try walk_nrm
  refine F.aJ ?_;refine F.es ?_;refine F.cF ?_;iterate 4 (refine F.aJ ?_)
  refine F.dK ?_;refine F.dK ?_;refine F.aJ ?_;refine F.re ?_;refine F.cf rfl ?_;refine F.sk ?_;refine F.cF ?_;iterate 4 (refine F.aJ ?_)
  refine F.dA ?_;iterate 4 (refine F.aJ ?_)
  refine F.es ?_;refine F.cF ?_;iterate 10 (refine F.aJ ?_)
  refine F.re ?_;refine F.cf rfl ?_;refine F.sk ?_;refine F.sq ?_;refine F.cF ?_;iterate 2 (refine F.aJ ?_)
  refine F.re ?_;refine F.cf rfl ?_;refine F.sk ?_;refine F.sq ?_;refine F.cF ?_;iterate 3 (refine F.aJ ?_)
  refine F.dK ?_;refine F.dK ?_;iterate 2 (refine F.aJ ?_)
  refine F.dK ?_;refine F.dK ?_;refine F.dK ?_;refine F.dK ?_;refine F.aJ ?_;refine F.re ?_;refine F.cf rfl ?_;refine F.sk ?_;refine F.sq ?_;refine F.cF ?_;iterate 3 (refine F.aJ ?_)
  refine F.dK ?_;refine F.dK ?_;refine F.aJ ?_;refine F.re ?_;refine F.ct rfl ?_;refine F.ctl (λ_=>stepG_ret') ?_;refine fP.mark j a p rfl (λw=>stepG_unwind_entry rfl func67 φ ρ ρ (e:=λ_=>do mark .enable;pure Extern.Race.none_) ρ (v:=.tuple #[]) (evs:=#[⟨.mark .enable,false,true⟩]) φ ψ ψ) (c8 (ij rfl trivial)) ?_;clear F;have F:=o 0 (L+1) (e+1) a;show fP _ _ _ _ _ _ _ _ _ _ _ _ 0 _ _;refine F.g9 rfl rfl func87 (resultsC_none φ _) ?_;exact t
end Go.Proofs.YtobagnjnbmgidabGreatDoor
