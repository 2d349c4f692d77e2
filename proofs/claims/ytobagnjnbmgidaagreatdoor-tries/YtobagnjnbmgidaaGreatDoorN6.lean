import Derived.Test.YtobagnjnbmgidaaGreatDoorN4
set_option linter.all false
set_option maxHeartbeats 8000000
set_option maxRecDepth 100000
namespace Go.Proofs.YtobagnjnbmgidaaGreatDoor
open Go.Conc Go.RowKit Tryz
variable{main:Bool}{Ok:Addr→Bool→Prop}
structure lz(es:List (Int×Value))(t:Int)(i:Nat):Prop where
 gt:∀j e,i≤j→es[j]? =some e→t<e.1
 le:∀e,0<i→es[i-1]? =some e→e.1≤t
def JN(f:Func):Code:=match f.body with|some (.seq _ (.seq (.block _ (.loop b)) _))=>b|_=>.skip
def Nc(f:Func):Code:=match f.body with|some (.seq _ (.seq _ r))=>r|_=>.skip
theorem fU.some_or{N:Nat}{w:World}{v:Value}{es:List (Int×Value)}(h:fU N w v es):(zP N w v∧es=[])∨∃E off cap cur,v=.slice (some ⟨E,off,none⟩) es.length cap∧es.length≤cap∧N≤E∧w.heap[E]? =some (.cells cur 128 (0,0))∧off+2*cap≤cur.size∧∀(j:Nat)(u:Value),(flat es)[j]? =some u→cur[off+j]? =some u:=by
 rcases h.2 with ⟨rfl,rfl⟩|x
 ·exact .inl ⟨.inl rfl,rfl⟩
 ·exact .inr x
theorem One.cy{N:Nat}{w:World}{v f:Value}{t:Int}(h:One N w v t f)(hf:f.oneCell'=true):fU N w v [(t,f)]:=by
 obtain⟨E,off,cap,cur,rfl,o2,o3,o4,o5,o6⟩:=h;refine⟨fun e he=>by simp at he;subst he;exact hf,.inr ⟨E,off,cap+1,cur,rfl,by simp,o2,o3,o4,fun j u hu=>?_⟩⟩
 match j,hu with
 |0,hu=>simp[flat] at hu;subst hu;exact o5
 |1,hu=>simp[flat] at hu;subst hu;exact o6
 |j+2,hu=>simp[flat] at hu
theorem CB:∀(es:List (Int×Value))(j:Nat),j<es.length→(flat es)[2*j]? =some (.int .i64 (es.getD j (0,.nilFunc)).1)
 |e::es,0,_=>rfl
 |e::es,j+1,h=>by
  have hx:=CB es j (by simpa using h);rw[show 2*(j+1)=2*j+1+1 by omega];simpa [flat] using hx
theorem Rg(w:World){E off q cap p:Nat}(h:p<q):(Instr.indexAt 100 (.slice (some ⟨E,off,none⟩) q cap) (.int .i64 (p:Int))).events prog w #[]=#[]:=by
 obtain⟨inf,z,i1,i2,i3,i4,i5⟩:=kU;have h':(p:Int)<(q:Int):=by omega
 simp[Instr.indexAt,run_underlying c9,Instr.index,asInt,asIntOf,sizeOf,typeInfo,i1,i3,h,h']
theorem Gc{Ψ:Goroutine→World→Prop}(F:aC prog main (DX Ok) Ψ)(A:Nat)(t:Int)(fv:Value)(w0:World){E off q cap:Nat}(NY:q<900)(dw:w0.cell? ⟨A,1,none⟩=some (.slice (some ⟨E,off,none⟩) q cap))(Ur:Ok ⟨A,1,none⟩ false)(ts:Nat→Int)(hx:∀j,j<q→w0.cell? ⟨E,off+j*2,none⟩=some (.int .i64 (ts j)))(qj:∀(ad:Addr)(wr:Bool),ad.block=E→Ok ad wr)(c:Frame)(cs:List Frame)(hk:∀i:Nat,i≤q→(∀j,i≤j→j<q→t<ts j)→(0<i→¬t<ts (i-1))→∀y3 y4 y5 y7 y8 y9 DK DJ DI DG DF DE DD DC Dz Dy Dx Dw Dv Du Dt Ds Dr Dq Dn Dm Dl Dk Di Dh Dg IX IW IV IU IQ IP IM:Value,Ψ (G ((base 49).at ⟨List.toArray (.pointer (some ⟨A,0,none⟩)::.int .i64 t::fv::y3::y4::y5::.int .i64 (i:Int)::y7::y8::y9::DK::DJ::DI::DG::DF::DE::DD::DC::Dz::Dy::Dx::Dw::Dv::Du::Dt::Ds::Dr::Dq::Dn::Dm::Dl::Dk::Di::Dh::Dg::IX::IW::IV::IU::IQ::IP::IM::[]),[]⟩ [.code (Nc f49)]) (c::cs)) w0):
 ∀p:Nat,p≤q→(∀j,p≤j→j<q→t<ts j)→∀y3 y4 y5 y7 y8 y9 DK DJ DI DG DF DE DD DC Dz Dy Dx Dw Dv Du Dt Ds Dr Dq Dn Dm Dl Dk Di Dh Dg IX IW IV IU IQ IP IM:Value,Ψ (G ((base 49).at ⟨List.toArray (.pointer (some ⟨A,0,none⟩)::.int .i64 t::fv::y3::y4::y5::.int .i64 (p:Int)::y7::y8::y9::DK::DJ::DI::DG::DF::DE::DD::DC::Dz::Dy::Dx::Dw::Dv::Du::Dt::Ds::Dr::Dq::Dn::Dm::Dl::Dk::Di::Dh::Dg::IX::IW::IV::IU::IQ::IP::IM::[]),[]⟩ [.code (JN f49),.inLoop (JN f49),.inBlock 0,.code (Nc f49)]) (c::cs)) w0:=by
 intro p
 induction p with
 |zero=>
  intro hp Oe y3 y4 y5 y7 y8 y9 DK DJ DI DG DF DE DD DC Dz Dy Dx Dw Dv Du Dt Ds Dr Dq Dn Dm Dl Dk Di Dh Dg IX IW IV IU IQ IP IM;simp only[JN,f49];refine F.sq ?_;refine F.bh ?_;iterate 3 (refine F.ak ?_;try walk_nrm)
  refine F.bq ?_;try walk_nrm
  refine F.bq ?_;try walk_nrm
  refine F.bq ?_;try walk_nrm
  refine F.bq ?_;try walk_nrm
  refine F.bq ?_;try walk_nrm
  refine F.bq ?_;try walk_nrm
  refine F.bq ?_;try walk_nrm
  refine F.bq ?_;try walk_nrm
  refine F.bq ?_;try walk_nrm
  refine F.bq ?_;try walk_nrm
  refine F.bq ?_;try walk_nrm
  refine F.ak ?_;try walk_nrm
  refine F.re ?_;refine F.cf rfl ?_;refine F.ctl (fun _=>stepG_exit rfl) ?_;exact hk 0 hp Oe (fun z=>absurd z (by decide)) _ _ _ _ _ _ _ _ _ _ _ _ _ _ _ _ _ _ _ _ _ _ _ _ _ _ _ _ _ _ _ _ _ _ _ _ _ _
 |succ p ih=>
  intro hp Oe y3 y4 y5 y7 y8 y9 DK DJ DI DG DF DE DD DC Dz Dy Dx Dw Dv Du Dt Ds Dr Dq Dn Dm Dl Dk Di Dh Dg IX IW IV IU IQ IP IM;have gT:=hx p hp;generalize VV:ts p=x at gT;have okx:Ok ⟨E,off+p*2,none⟩ false:=qj _ _ rfl;have wp:IntKind.i64.wrap (p:Int)=(p:Int):=oW (by omega) (by omega);have pp:((0:Int)<(p:Int)+1)=True:=propext ⟨fun _=>trivial,fun _=>by omega⟩;have pq:(p:Int)<(q:Int):=by omega
  have pq':p<q:=hp;rw[show(((p+1:Nat):Int))=(p:Int)+1 from by omega];have p1:(p:Int)+1-1=(p:Int):=by omega
  simp only[JN,f49];refine F.sq ?_;refine F.bh ?_;iterate 6 (refine F.ak ?_;try walk_nrm)
  refine F.ol rfl rfl rfl fun d K h=>?_;go_simp;refine h _ (fun e m=>?_) ?_;simp[go_sem, *] at m;subst m;exact ff (w:=w0) (by assumption) (by first|assumption|(apply b8<;>dsimp only<;>omega));clear h K d;try walk_nrm
  iterate 2 (refine F.ak ?_;try walk_nrm)
  have e9:∀w,(Instr.indexAt 100 (.slice (some ⟨E,off,none⟩) q cap) (.int .i64 (p:Int))).events prog w #[]=#[]:=fun w=>Rg w pq'
  refine F.xT rfl rfl (by decide) (fun d=>by simp[go_sem,e9]) (fun d K hK=>?_);go_simp;refine hK _ ?_;clear hK K d;try walk_nrm
  refine F.ak ?_;try walk_nrm
  refine F.ol rfl rfl rfl fun d K h=>?_;go_simp;refine h _ (fun e m=>?_) ?_;simp[go_sem, *] at m;subst m;exact ff (w:=w0) (by assumption) (by first|assumption|(apply b8<;>dsimp only<;>omega));clear h K d;try walk_nrm
  iterate 3 (refine F.ak ?_;try walk_nrm)
  refine F.re ?_
  by_cases ht:t<x
  ·simp only[ht,decide_true]
   refine F.ct rfl ?_;refine F.sk ?_;refine F.bl ?_;refine F.nJ ?_;iterate 3 (refine F.ak ?_;try walk_nrm)
   refine F.re ?_;refine F.ib ?_;refine F.ctl (fun _=>stepG_inLoop) ?_;exact ih (Nat.le_of_succ_le hp) (fun j h1 h2=>by rcases Nat.eq_or_lt_of_le h1 with e|e;subst e;rw[VV];exact ht;exact Oe j e h2) _ _ _ _ _ _ _ _ _ _ _ _ _ _ _ _ _ _ _ _ _ _ _ _ _ _ _ _ _ _ _ _ _ _ _ _ _ _
  ·simp only[ht,decide_false]
   refine F.cf rfl ?_;refine F.ctl (fun _=>stepG_exit rfl) ?_;exact hk (p+1) hp Oe (fun _=>by rw[Nat.add_sub_cancel,VV];exact ht) _ _ _ _ _ _ _ _ _ _ _ _ _ _ _ _ _ _ _ _ _ _ _ _ _ _ _ _ _ _ _ _ _ _ _ _ _ _
theorem Ge(N A:Nat)(t:Int)(fn:Fn)(fst aj:Array Value)(en:Value)(es:List (Int×Value))(w0:World)(hN:N≤w0.heap.size)(lA:A<N)(NY:es.length<900)(he:fU N w0 en es)(dw:w0.cell? ⟨A,1,none⟩=some en)(gZ:w0.frozen? ⟨A,1,none⟩=false)(Ur:Ok ⟨A,1,none⟩ false)(Zm:Ok ⟨A,1,none⟩ true)(qj:∀(a:Addr)(wr:Bool),a.block∈bV en∨w0.heap.size≤a.block→Ok a wr):
 cj prog main (DX Ok) 49 #[.pointer (some ⟨A,0,none⟩),.int .i64 t,.func fn fst aj] w0 fun r w'=>r=.tuple #[]∧Kp (bV en) w0 w' [⟨A,1,none⟩]∧∃v' i,i≤es.length∧lz es t i∧w'.cell? ⟨A,1,none⟩=some v'∧w'.frozen? ⟨A,1,none⟩=false∧fU N w' v' (es.take i++(t,.func fn fst aj)::es.drop i)∧∀g∈bV v',g∈bV en∨w0.heap.size≤g:=by
 rcases fU.some_or he with ⟨Xc,ji⟩|⟨E,off,cap,cur,hv,hle,hE,jL,kH,pF⟩
 ·subst ji
  refine(QN N A t fn fst aj en w0 hN lA Xc dw gZ Ur Zm qj).mono fun r w' ⟨h1,h2,v',h3,h4,h5,h6⟩=>⟨h1,h2,v',0,Nat.le_refl _,⟨fun j e _ h=>(by simp at h),fun e h _=>absurd h (by decide)⟩,h3,h4,h5.cy rfl,h6⟩
 intro Ψ F c cs hc;have SR:E<w0.heap.size:=(Array.getElem?_eq_some_iff.1 jL).1;have kD:∀g,g∈bV en↔g=E:=fun g=>by rw[br,hv];simp[Value.ownBlock];exact⟨fun h=>h.symm,fun h=>h.symm⟩
 have Fa:A≠E:=by omega
 have hAv:A∉bV en:=fun z=>Fa ((kD A).1 z)
 have QW:∀(ad:Addr)(wr:Bool),ad.block=E→Ok ad wr:=fun ad wr h=>qj ad wr (.inl ((kD _).2 h))
 have okF:∀(ad:Addr)(wr:Bool),w0.heap.size≤ad.block→Ok ad wr:=fun ad wr h=>qj ad wr (.inr h)
 have aB:=he.1;have Ov:w0.cell? ⟨A,1,none⟩=some (.slice (some ⟨E,off,none⟩) es.length cap):=hv▸dw
 have Zx:∀j,j<es.length→w0.cell? ⟨E,off+j*2,none⟩=some (.int .i64 (es.getD j (0,.nilFunc)).1):=fun j hj=>by
  rw[pQ jL,show off+j*2=off+2*j by omega];exact pF _ _ (CB es j hj)
 clear dw;rw[enter_at _ func49 rfl];simp only[ntmps49,mV,Nat.reduceAdd,Nat.reduceSub];refine F.bh ?_;iterate 3 (refine F.ak ?_;try walk_nrm)
 refine F.ol rfl rfl rfl fun d K h=>?_;go_simp;refine h _ (fun e m=>?_) ?_;simp[go_sem, *] at m;subst m;exact ff (w:=w0) (by assumption) (by first|assumption|(apply b8<;>dsimp only<;>omega));clear h K d;try walk_nrm
 iterate 2 (refine F.ak ?_;try walk_nrm)
 refine F.es ?_;refine F.bl ?_;refine F.ctl (fun _=>stepG_loop) ?_;refine Gc F A t (.func fn fst aj) w0 (q:=es.length) NY Ov Ur (fun j=>(es.getD j (0,.nilFunc)).1) Zx QW c cs ?_ es.length (Nat.le_refl _) (fun j h1 h2=>by omega) _ _ _ _ _ _ _ _ _ _ _ _ _ _ _ _ _ _ _ _ _ _ _ _ _ _ _ _ _ _ _ _ _ _ _ _ _ _;clear Zx;intro i hi Oe Sc y3 y4 y5 y7 y8 y9 DK DJ DI DG DF DE DD DC Dz Dy Dx Dw Dv Du Dt Ds Dr Dq Dn Dm Dl Dk Di Dh Dg IX IW IV IU IQ IP IM;have nB:lz es t i:=⟨fun j e h1 h2=>by obtain⟨h3,h4⟩:=List.getElem?_eq_some_iff.1 h2;have:=Oe j h1 h3;rw[List.getD_eq_getElem?_getD,h2] at this;exact this,fun e h1 h2=>by have:=Sc h1;rw[List.getD_eq_getElem?_getD,h2] at this;simp at this;exact this⟩;clear Oe Sc;simp only[Nc,f49];have dw:=Ov;clear Ov;refine F.nJ ?_;iterate 4 (refine F.ak ?_;try walk_nrm)
 refine F.ol rfl rfl rfl fun d K h=>?_;go_simp;refine h _ (fun e m=>?_) ?_;simp[go_sem, *] at m;subst m;exact ff (w:=w0) (by assumption) (by first|assumption|(apply b8<;>dsimp only<;>omega));clear h K d;try walk_nrm
 iterate 4 (refine F.ak ?_;try walk_nrm)
 refine F.op rfl rfl (by decide) (fun d K hK=>?_);go_simp;rw[alloc_at'];refine hK _ _ ⟨DX.alloc _ _ (fun e he=>?_),?_⟩
 ·have hm:=mem_listed he
  simp[go_sem] at hm
 clear hK K d;try walk_nrm
 generalize bJ:World.alloc w0 _=w1;generalize cP:(World.heap w0).size=n1;have v8:=g9 bJ cP;replace gZ:=ez gZ dw bJ;replace dw:=bH dw bJ;have PO:=aI (i:=0) bJ cP rfl;have Vh:=aV bJ cP 0;have Cw:=aI (i:=1) bJ cP rfl;have Vg:=aV bJ cP 1;try simp only[List.getElem_toArray,List.getElem_cons_zero,List.getElem_cons_succ] at PO Cw
 have kp:Kp (bV en) w0 w0 [⟨A,1,none⟩]:=Kp.refl _;replace kp:=kp.uA bJ;have Hj:w1.heap[E]? =some (.cells cur 128 (0,0)):=by rw[←bJ,Below.heap_alloc _ _ _ SR];exact jL
 have rN:w1.heap[n1]? =some (.cells #[.int .i64 t,.func fn fst aj] 128 (0,0)):=by rw[←cP];exact oB bJ rfl
 refine F.enter rfl rfl (by decide) (fun _=>run_call_body rfl func60 (by rfl) (by rfl)) (fun _=>events_call_body rfl func60 (by rfl) (by rfl) _) ?_;walk_nrm;refine D9 N n1 i t (.func fn fst aj) 128 w1 es NY hi (by omega) aB hle hE Hj kH pF rN rfl (by omega) QW (fun ad h=>okF ad false (by omega)) (fun ad wr h=>okF ad wr (by omega)) _ F _ _ (fun v w' hp=>?_);obtain⟨ho,kg,ZG⟩:=hp;have rE:∀x,x∈[E]→x∈bV en:=fun x hx=>(kD x).2 (by simpa using hx)
 generalize fu:es.take i++(t,.func fn fst aj)::es.drop i=ys at ho hc;rw[Frame.finish_at];try walk_nrm
 have u0:=kg.cell _ _ (by simp;exact Fa) dw;have uC:=(kg.OG _ _ (by simp;exact Fa) dw).trans gZ;replace kp:=kp.Mp kg (fun x hx=>.inl (rE x hx));obtain⟨b2,jP,qU,Rt⟩:=id ho.form;have Ck:A∉bV v:=fun z=>by rcases ZG A z with y|y<;>omega
 have Wk:∀g∈bV v,g∈bV en∨w0.heap.size≤g:=fun g hg=>(ZG g hg).imp (fun y=>(kD g).2 y) fun y=>by omega
 subst qU;have fV:∀(w:World)(d:Nat),(w.at d).heap.size=w.heap.size:=fun _ _=>rfl
 have size_set:∀(w:World)(a:Addr)(v:Value),(w.setCell a v).heap.size=w.heap.size:=fun w a v=>by simp[World.setCell]
 clear dw gZ PO Cw Vh Vg;iterate 2 (refine F.ak ?_;try walk_nrm)
 refine F.op rfl rfl (by decide) (fun d K hK=>?_);go_simp;rw[setCell_at'];refine hK _ _ ⟨DX.set _ (by(first|assumption|(apply b8<;>dsimp only<;>omega))) (fun e he=>?_),?_⟩
 ·have hm:=mem_listed he
  simp[go_sem,storedEv,dh,eM,dm,fB,eB, *] at hm;subst hm;exact .inl ⟨_,rfl,rfl,by(first|assumption|(apply b8<;>dsimp only<;>omega)),by simp only[fV,size_set];first|omega|exact aq (by assumption)⟩
 clear hK K d;try walk_nrm
 generalize c7:World.setCell w' _ _=w2;have Io:=lW c7;replace uC:=aK uC c7;replace u0:=dP u0 c7;replace kp:=kp.rD c7 (by first|(left;simp;done)|(right;left;simp;done)|(right;right;dsimp only;omega));refine F.re ?_;refine F.ctl (fun _=>stepG_end) ?_;refine F.aF rfl rfl func49 (resultsC_none (by rfl) _) ?_;refine hc _ _ ⟨rfl,kp,_,i,hi,nB,u0,uC,?_,Wk⟩;rw[fu];exact(Kp.Jp c7).cy ho (fun g hg=>⟨by simp,by simp;exact fun z=>Ck (z▸hg)⟩)
end Go.Proofs.YtobagnjnbmgidaaGreatDoor
